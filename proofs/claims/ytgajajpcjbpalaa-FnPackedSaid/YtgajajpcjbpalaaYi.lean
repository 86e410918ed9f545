/- The whole numbers of some values, and which are there: the program. -/
import Derived.Test.YtgajajpcjbpalaaYh
namespace Go.Proofs.Ytgajajpcjbpalaa.Pkd
open Go.ChangeShapes Go.WideShapes Go.ChangeAt Go.RowKit
open Go.Proofs.Ytgajajpcjbpalaa.Lists Go.Proofs.Ytgajajpcjbpalaa.Flt Go.Proofs.Ytgajajpcjbpalaa.Fls

theorem row_apart_e {e : TypeId} {w w' : World} {base n : Nat} {row : Option Nat} {v : Value} {xs : List Value} (h : w.ownsRow base e 1 v n xs) (hg : w.grownBy w' row) (hne : ∀ k j, v.ownBlock = some k → row = some j → k ≠ j) : w'.ownsRow base e 1 v n xs := by
  refine h.kept hg ?_
  cases e : v.ownBlock with
  | none => exact Or.inl rfl
  | some k => exact Or.inr fun x => hne k k e x.symm rfl

def rl (L : List Nat) : List Nat := L.filter fun x => !nan x
def ws (dec : Int) (L : List Nat) : List Int := (rl L).map (nn dec)
def th1 (x : Nat) : Int := if nan x then 0 else 1
def ths (L : List Nat) : List Int := L.map th1
theorem ths_len (L : List Nat) : (ths L).length = L.length := by simp [ths]
theorem ths_at (L : List Nat) (k : Nat) (h : k < L.length) : (ths L).getD k 0 = th1 (L.getD k 0) := by simp [ths, List.getD_eq_getElem?_getD, h]
theorem ftake (L : List Nat) (k : Nat) (h : k < L.length) : L.take (k + 1) = L.take k ++ [L.getD k 0] := by
  rw [List.take_succ_eq_append_getElem h]
  simp [List.getD_eq_getElem?_getD, h]
theorem fmem (L : List Nat) (k : Nat) (h : k < L.length) : L.getD k 0 ∈ L := by simp [List.getD_eq_getElem?_getD, h]
theorem rl_nan (L : List Nat) (x : Nat) (h : nan x = true) : rl (L ++ [x]) = rl L := by simp [rl, List.filter_append, h]
theorem rl_num (L : List Nat) (x : Nat) (h : nan x = false) : rl (L ++ [x]) = rl L ++ [x] := by simp [rl, List.filter_append, h]
theorem rl_le (L : List Nat) : (rl L).length ≤ L.length := List.length_filter_le _ _
theorem ws_len (dec : Int) (L : List Nat) : (ws dec L).length = (rl L).length := by simp [ws]
theorem fill_same (L : List Int) (j : Nat) (h : L.getD j 0 = 0) : Bytes.fill L (j + 1) = Bytes.fill L j := by
  apply List.ext_getElem (by rw [Bytes.fill_len, Bytes.fill_len])
  intro i h1 h2
  rw [Bytes.fill_len] at h1
  simp only [Bytes.fill, List.getElem_map, List.getElem_range]
  by_cases x : i < j
  · rw [if_pos x, if_pos (by omega)]
  · rw [if_neg x]
    by_cases y : i < j + 1
    · rw [if_pos y]
      have : i = j := by omega
      rw [this]; exact h
    · rw [if_neg y]
theorem Reads.fopened {w : World} {v : Value} {L : List Nat} (h : Fls.Reads w v L) : ∃ x cap b o, v = .slice x L.length cap ∧ (0 < L.length → x = some ⟨b, o, none⟩ ∧ b < w.heap.size) ∧ (∀ i, i < L.length → w.cell? ⟨b, o + i, none⟩ = some (.float .f64 (L.getD i 0))) ∧ L.length ≤ maxLen := by
  rcases h with ⟨rfl, a, cap, rfl⟩ | ⟨b, o, cap, rfl, h1, h2, h3, h4⟩
  · exact ⟨a, cap, 0, 0, rfl, fun h => absurd h (by simp), fun i hi => absurd hi (by simp), Nat.zero_le _⟩
  · exact ⟨_, cap, b, o, rfl, fun _ => ⟨rfl, h3⟩, h4, Nat.le_trans h1 h2⟩

def allk (dec : Int) (L : List Nat) : Bool := (rl L).all (kb dec)

set_option maxHeartbeats 1000000 in
theorem wholes_any (v : Value) (L : List Nat) (dec : Int) (w : World) (hR : Fls.Reads w v L) (hl : L.length ≤ 4096) (h1 : -3 ≤ dec) (h2 : dec ≤ 6) :
    Calls Try.prog 21 #[v, .int .i64 dec] w fun e w' => Below w.heap.size w w' ∧
      ((allk dec L = false ∧ e = .returned (.tuple #[.slice none 0 0, .slice none 0 0, .bool false])) ∨
       (allk dec L = true ∧ ∃ lv tv, e = .returned (.tuple #[lv, tv, .bool true]) ∧ w'.ownsRow w.heap.size 2 1 lv (ws dec L).length (ints (ws dec L)) ∧ w'.ownsRow w.heap.size 5 1 tv L.length (Bytes.bys (ths L)))) := by
  obtain ⟨i0, hi, hz0, hz1, hz2⟩ := info_parts Lists.Try.info2
  obtain ⟨b0, bi, bz0, bz1, bz2⟩ := info_parts Bytes.Try.info5
  obtain ⟨x, cap, b, o, rfl, hx, hc, hm⟩ := Reads.fopened hR
  obtain ⟨n, hn⟩ : ∃ n, n = L.length := ⟨_, rfl⟩
  have HN : Hid (n = L.length) := hn
  have FZ : Hid ((madeCells (Value.int .u8 0).cells (n * 1)).toList = Bytes.bys (Bytes.fill (ths L) 0)) := (by have := Bytes.fill_zero (ths L); rw [ths_len, ← hn] at this; exact this)
  rw [← hn] at hl hx hc ⊢
  have HX : Hid (0 < n → x = some ⟨b, o, none⟩) := fun h => (hx h).1
  have HB : Hid (0 < n → b < w.heap.size) := fun h => (hx h).2
  have HC : Hid (∀ i, i < n → w.cell? ⟨b, o + i, none⟩ = some (.float .f64 (L.getD i 0))) := hc
  clear hx hc hR hn hm
  have hl' : (n : Int) ≤ 4096 := by omega
  go_enter Try.func21, Try.ntmps21
  go_wp2_with (at_make; refine wpList_make_full _ rfl _ _ 23 rfl w.heap.size 5 b0 (.int .u8 0) 1 Try.underlying23 bi bz0 bz1 .i64 .i64 (n : Int) (n : Int) n rfl rfl rfl rfl (by rw [bz2]; omega) (by unfold maxLen; omega) (Nat.le_refl _) ?_; intro w4 hown hgrow)
  rw [FZ.out] at hown
  have R0 : Hid (w4.ownsRow w.heap.size 5 1 (.slice (some ⟨w.heap.size, 0, none⟩) n n) n (Bytes.bys (Bytes.fill (ths L) 0))) := hown
  have B0 : Hid (Below w.heap.size w w4) := (Below.refl _ _).grown hgrow (Nat.le_refl _) (fun k hk => by cases hk)
  have S0 : Hid (w.heap.size + 1 ≤ w4.heap.size) := (hown.lt w.heap.size rfl).2
  clear hown hgrow
  go_loopw [7, 18] (fun v i wr => ∃ k : Nat, k ≤ n ∧ i = .int .i64 k ∧ Hid (wr.ownsRow (w.heap.size + 1) 2 1 v (ws dec (L.take k)).length (ints (ws dec (L.take k)))) ∧ Hid (wr.ownsRow w.heap.size 5 1 (.slice (some ⟨w.heap.size, 0, none⟩) n n) n (Bytes.bys (Bytes.fill (ths L) k))) ∧ Hid (Below w.heap.size w wr) ∧ Hid (w.heap.size + 1 ≤ wr.heap.size) ∧ Hid (allk dec (L.take k) = true)) (fun _ i _ => n - (intOf i).toNat)
  case atStart => exact ⟨0, Nat.zero_le _, rfl, ⟨rfl, .inl ⟨rfl, rfl⟩⟩, R0, B0, S0, rfl⟩
  case round =>
    obtain ⟨k, hk, rfl, O, T, BB, SS, KK⟩ := hrel
    by_cases hlt : k < n
    · have hx := HX.out (by omega)
      subst hx
      have hb := HB.out (by omega)
      have q1 := (BB.out.cell (p := ⟨b, o + k, none⟩) hb).trans (HC.out k hlt)
      have j0 : (0 : Int) ≤ (k : Int) := by omega
      have j1 : (k : Int) < (n : Int) := by omega
      have TK : Hid (L.take (k + 1) = L.take k ++ [L.getD k 0]) := ftake L k (by rw [← HN.out]; exact hlt)
      have TA : Hid ((ths L).getD k 0 = th1 (L.getD k 0)) := ths_at L k (by rw [← HN.out]; exact hlt)
      have ME : Hid (L.getD k 0 ∈ L) := fmem L k (by rw [← HN.out]; exact hlt)
      generalize L.getD k 0 = z at *
      cases hz : nan z
      · have HZ : Hid (nan z = false) := hz
        have CN : Hid (∀ w, Calls Try.prog 44 #[.float .f64 z] w fun e w' => e = .returned (.bool false) ∧ w' = w) := fun w => (by show Calls _ _ _ _ _; rw [← hz]; exact isnan_any z w)
        have CS : Hid (∀ w, Calls Try.prog 40 #[.float .f64 z, .int .i64 dec] w fun e w' => e = .returned (.float .f64 (sc dec z)) ∧ w' = w) := fun w => iscaled z dec hz h1 h2 w
        have CR : Hid (∀ w, Calls Try.prog 45 #[.float .f64 (sc dec z)] w fun e w' => e = two (nn dec z) (kb dec z) ∧ ∃ m, w' = w.drewN m) := fun w => inear z dec w hz h1 h2
        have RT : Hid (rl (L.take (k + 1)) = rl (L.take k) ++ [z]) := (by show _ = _; rw [TK.out]; exact rl_num _ _ hz)
        cases hq : kb dec z
        · rw [hq] at CR
          have HF : Hid (allk dec L = false) := (by
            show _ = _
            unfold allk
            rw [List.all_eq_false]
            exact ⟨z, List.mem_filter.2 ⟨ME.out, by simp [hz]⟩, by simp [hq]⟩)
          clear hz hq
          generalize sc dec z = u at *
          generalize nn dec z = p at *
          go_wp2_with fail
          refine (CN.out _).mono ?_
          rintro e w' ⟨rfl, hw⟩; subst w'
          go_wp2_with fail
          refine (CS.out _).mono ?_
          rintro e w' ⟨rfl, hw⟩; subst w'
          go_wp2_with fail
          refine (CR.out _).mono ?_
          rintro e w' ⟨rfl, m, hw⟩; subst w'
          have BM : Hid (Below w.heap.size w (wr.drewN m)) := below_drewN BB.out m
          go_wp2_with fail
          refine bodyPost_ret (v := .tuple #[.slice none 0 0, .slice none 0 0, .bool false]) (by simp [results, Try.results21, go_sem]) rfl ⟨BM.out, .inl ⟨HF.out, rfl⟩⟩
        · rw [hq] at CR
          have HK2 : Hid (allk dec (L.take (k + 1)) = true) := (by
            show _ = _
            have := KK.out
            unfold allk at *
            rw [RT.out, List.all_append, this]
            simp [hq])
          have HT1 : Hid ((ths L).getD k 0 = 1) := (by show _ = _; rw [TA.out]; unfold th1; rw [hz]; rfl)
          have WT : Hid (ws dec (L.take (k + 1)) = ws dec (L.take k) ++ [nn dec z]) := (by show _ = _; unfold ws; rw [RT.out, List.map_append]; rfl)
          have WL : Hid ((ws dec (L.take k)).length ≤ 4096) := (by
            show _ ≤ _
            rw [ws_len]
            have := rl_le (L.take k)
            have := List.length_take_le k L
            omega)
          clear hz hq KK TA
          generalize sc dec z = u at *
          generalize nn dec z = p at *
          generalize ws dec (L.take k) = Wk at *
          obtain ⟨wk, hwk⟩ : ∃ wk, wk = Wk.length := ⟨_, rfl⟩
          have WKL : Hid (wk = Wk.length) := hwk
          rw [← hwk] at O WL
          clear hwk
          obtain ⟨va, vc, ev⟩ := row_form O.out
          subst ev
          have wl := WL.out
          go_wp2_with fail
          refine (CN.out _).mono ?_
          rintro e w' ⟨rfl, hw⟩; subst w'
          go_wp2_with fail
          refine (CS.out _).mono ?_
          rintro e w' ⟨rfl, hw⟩; subst w'
          go_wp2_with fail
          refine (CR.out _).mono ?_
          rintro e w' ⟨rfl, m, hw⟩; subst w'
          have BM : Hid (Below w.heap.size w (wr.drewN m)) := below_drewN BB.out m
          have OM : Hid ((wr.drewN m).ownsRow (w.heap.size + 1) 2 1 (.slice va wk vc) wk (ints Wk)) := O.out
          have TM : Hid ((wr.drewN m).ownsRow w.heap.size 5 1 (.slice (some ⟨w.heap.size, 0, none⟩) n n) n (Bytes.bys (Bytes.fill (ths L) k))) := T.out
          have SM : Hid (w.heap.size + 1 ≤ (wr.drewN m).heap.size) := SS.out
          clear O T BB SS q1
          generalize wr.drewN m = w5 at *
          have s5 := SM.out
          go_wp2_with (at_builtin; refine wpList_append_own_at _ rfl _ _ 24 rfl (w.heap.size + 1) 2 i0 (.int .i64 0) 1 8 Try.underlying24 hi hz0 hz1 hz2 rfl (by decide) _ _ _ rfl (OM.out.alloc _) ⟨w5.heap.size, 0, none⟩ 1 1 [.int .i64 p] rfl rfl (cell_one_new w5 _ _) ?c2 ?c3 ?c4 ?c5 ?_)
          case c2 => intro u hu; simp at hu; subst hu; rfl
          case c3 => unfold maxLen; omega
          case c4 => omega
          case c5 => simp; omega
          intro v' w6 hown hgrow hnil hat
          have O6 : Hid (w6.ownsRow (w.heap.size + 1) 2 1 v' (wk + 1) (ints Wk ++ [.int .i64 p])) := hown
          have B6 : Hid (Below w.heap.size w w6) := ((BM.out).alloc BM.out.size _).grown hgrow (by have := BM.out.size; simp; omega) (fun b hb => by have := (OM.out.lt b hb).1; omega)
          have S6 : Hid (w.heap.size + 1 ≤ w6.heap.size) := (by show _ ≤ _; have := hgrow.size; simp at this; omega)
          have T6 : Hid (w6.ownsRow w.heap.size 5 1 (.slice (some ⟨w.heap.size, 0, none⟩) n n) n (Bytes.bys (Bytes.fill (ths L) k))) := row_apart_e (TM.out.alloc _) hgrow (fun a j ha hj => by
            have h1 : w.heap.size + 1 ≤ j := (OM.out.lt j hj).1
            have h2 : w.heap.size = a := by simpa [Value.ownBlock] using ha
            omega)
          clear hown hgrow hnil hat OM TM BM SM s5
          have qz : ∃ y, w6.cell? ⟨w.heap.size, k, none⟩ = some (.int .u8 y) := by
            have := T6.out.cellAt k (by omega)
            rw [this]
            have hl : k < (Bytes.fill (ths L) k).length := by rw [Bytes.fill_len, ths_len, ← HN.out]; exact hlt
            exact ⟨(Bytes.fill (ths L) k)[k], by simp [Bytes.bys, List.getElem?_map, List.getElem?_eq_getElem hl]⟩
          obtain ⟨y, qz⟩ := qz
          have qf : w6.frozen? ⟨w.heap.size, k, none⟩ = false := T6.out.frozenAt k
          have T7 : Hid ((w6.setCell ⟨w.heap.size, k, none⟩ (.int .u8 1)).ownsRow w.heap.size 5 1 (.slice (some ⟨w.heap.size, 0, none⟩) n n) n (Bytes.bys (Bytes.fill (ths L) (k + 1)))) := (by
            show World.ownsRow _ _ _ _ _ _ _
            rw [← Bytes.fill_set, HT1.out, ← Bytes.bys_set]
            exact (T6.out.stored k _).1)
          have O7 : Hid ((w6.setCell ⟨w.heap.size, k, none⟩ (.int .u8 1)).ownsRow (w.heap.size + 1) 2 1 v' (wk + 1) (ints Wk ++ [.int .i64 p])) := set_row O6.out _ _ _ (by omega)
          have B7 : Hid (Below w.heap.size w (w6.setCell ⟨w.heap.size, k, none⟩ (.int .u8 1))) := B6.out.setCell (p := ⟨w.heap.size, k, none⟩) (Nat.le_refl _) _
          have S7 : Hid (w.heap.size + 1 ≤ (w6.setCell ⟨w.heap.size, k, none⟩ (.int .u8 1)).heap.size) := (by show _ ≤ _; have := S6.out; simp; omega)
          clear O6 B6 S6 T6
          go_wp2_with fail
          go_roundw
          case rel => exact ⟨k + 1, by omega, by go_num, (by show World.ownsRow _ _ _ _ _ _ _; rw [WT.out, ints_snoc, List.length_append, ← WKL.out]; exact O7.out), T7, B7, S7, HK2⟩
          case measure => simp [intOf]; omega
      · have CN : Hid (∀ w, Calls Try.prog 44 #[.float .f64 z] w fun e w' => e = .returned (.bool true) ∧ w' = w) := fun w => (by show Calls _ _ _ _ _; rw [← hz]; exact isnan_any z w)
        have RT : Hid (rl (L.take (k + 1)) = rl (L.take k)) := (by show _ = _; rw [TK.out]; exact rl_nan _ _ hz)
        have HT1 : Hid ((ths L).getD k 0 = 0) := (by show _ = _; rw [TA.out]; unfold th1; rw [hz]; rfl)
        clear hz
        go_wp2_with fail
        refine (CN.out _).mono ?_
        rintro e w' ⟨rfl, hw⟩; subst w'
        have T7 : Hid (wr.ownsRow w.heap.size 5 1 (.slice (some ⟨w.heap.size, 0, none⟩) n n) n (Bytes.bys (Bytes.fill (ths L) (k + 1)))) := (by show World.ownsRow _ _ _ _ _ _ _; rw [fill_same _ _ HT1.out]; exact T.out)
        have WT : Hid (ws dec (L.take (k + 1)) = ws dec (L.take k)) := (by show _ = _; unfold ws; rw [RT.out])
        have HK2 : Hid (allk dec (L.take (k + 1)) = true) := (by show _ = _; have := KK.out; unfold allk at *; rw [RT.out]; exact this)
        go_wp2_with fail
        go_roundw
        case rel => exact ⟨k + 1, by omega, by go_num, (by show World.ownsRow _ _ _ _ _ _ _; rw [WT.out]; exact O.out), T7, BB, SS, HK2⟩
        case measure => simp [intOf]; omega
    · have hkn : k = n := by omega
      subst hkn
      have ET : L.take k = L := List.take_of_length_le (by rw [← HN.out]; exact Nat.le_refl _)
      have O2 := O.out
      have T2 := T.out
      have K2 := KK.out
      rw [ET] at O2 K2
      rw [HN.out, ← ths_len, Bytes.fill_all, ths_len, ← HN.out] at T2
      have OH : Hid (wr.ownsRow w.heap.size 2 1 u7 (ws dec L).length (ints (ws dec L))) := down_row O2 (by omega)
      have TH : Hid (wr.ownsRow w.heap.size 5 1 (.slice (some ⟨w.heap.size, 0, none⟩) k k) k (Bytes.bys (ths L))) := T2
      have KH : Hid (allk dec L = true) := K2
      clear O T KK O2 T2 K2 ET
      go_wp2_with fail
      refine bodyPost_ret (v := .tuple #[u7, .slice (some ⟨w.heap.size, 0, none⟩) k k, .bool true]) (by simp [results, Try.results21, go_sem]) rfl ⟨BB.out, .inr ⟨KH.out, _, _, rfl, OH.out, TH.out⟩⟩

end Go.Proofs.Ytgajajpcjbpalaa.Pkd
