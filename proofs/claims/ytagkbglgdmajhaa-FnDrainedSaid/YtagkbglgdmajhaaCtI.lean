/- The order downstream: the program. -/
import Derived.Test.YtagkbglgdmajhaaCtT
import Derived.Maps.AppendAt
namespace Go.Proofs.Ytagkbglgdmajhaa.Ct
open Go.ChangeShapes Go.WideShapes Go.ChangeAt Go.RowKit
open Go.Proofs.Ytagkbglgdmajhaa.Lists

set_option maxHeartbeats 1000000 in
theorem iall_any (L : List Int) (lo hi : Int) (v : Value) (w : World) (hL : Lists.Reads w v L) (hf : L.length < 9223372036854775808) :
    Calls Try.prog 31 #[v, .int .i64 lo, .int .i64 hi] w fun e w' => e = .returned (.bool (L.all (fun d => inn d lo hi))) ∧ w' = w := by
  obtain ⟨b, o, hcell, hvv⟩ := reads_at hL
  obtain ⟨a, cap, rfl⟩ := hL.form
  have HC : Hid (∀ i, i < L.length → w.cell? ⟨b, o + i, none⟩ = some (.int .i64 (L.getD i 0))) := hcell
  have HB : Hid (0 < L.length → b < w.heap.size ∧ a = some ⟨b, o, none⟩) := fun hi => by
    obtain ⟨h1, c, h2⟩ := hvv hi
    simp at h2
    exact ⟨h1, h2.1⟩
  obtain ⟨bo, hbo⟩ : ∃ bo, L.all (fun d => inn d lo hi) = bo := ⟨_, rfl⟩
  rw [hbo]
  have HO : Hid (L.all (fun d => inn d lo hi) = bo) := hbo
  obtain ⟨n, hn⟩ : ∃ n, n = L.length := ⟨_, rfl⟩
  rw [← hn] at hf ⊢
  have HN : Hid (n = L.length) := hn
  clear hL hcell hvv hbo hn
  go_enter Try.func31, Try.ntmps31
  go_wp2_with fail
  go_loop [11] (fun i => ∃ k : Nat, k ≤ n ∧ i = .int .i64 k ∧ Hid (∀ j, j < k → inn (L.getD j 0) lo hi = true)) (fun i => n - (intOf i).toNat)
  case atStart => exact ⟨0, by omega, rfl, fun j hj => by omega⟩
  case round =>
    obtain ⟨k, hk, rfl, OK⟩ := hrel
    by_cases hlt : k < n
    · have hkl : k < L.length := by rw [← HN.out]; exact hlt
      obtain ⟨hb, hx⟩ := HB.out (by omega)
      subst hx
      have q : w.cell? ⟨b, o + k, none⟩ = some (.int .i64 (L.getD k 0)) := HC.out k hkl
      have i1 : (0 : Int) ≤ (k : Int) := by omega
      have i2 : (k : Int) < (n : Int) := by omega
      have C3 : Hid (∀ w, Calls Try.prog 33 #[.int .i64 (L.getD k 0), .int .i64 lo, .int .i64 hi] w fun e w' => e = .returned (.bool (inn (L.getD k 0) lo hi)) ∧ w' = w) := fun w => i_in _ _ _ w
      cases hz : inn (L.getD k 0) lo hi
      · have HF : Hid (bo = false) := (by
          show _ = _
          rw [← HO.out, List.all_eq_false]
          exact ⟨L.getD k 0, by simp [List.getD_eq_getElem?_getD, hkl], by rw [hz]; simp⟩)
        rw [hz] at C3
        clear hz
        generalize L.getD k 0 = z at *
        go_wp2_with fail
        refine (C3.out _).mono ?_
        rintro e w3 ⟨rfl, hw⟩
        have hw' := hw.symm
        subst hw'
        go_wp2_with fail
        go_ret
        exact ⟨by rw [HF.out]; rfl, rfl⟩
      · have OK2 : Hid (∀ j, j < k + 1 → inn (L.getD j 0) lo hi = true) := fun j hj => by
          by_cases e : j = k
          · rw [e]; exact hz
          · exact OK.out j (by omega)
        rw [hz] at C3
        clear hz
        generalize L.getD k 0 = z at *
        go_wp2_with fail
        refine (C3.out _).mono ?_
        rintro e w3 ⟨rfl, hw⟩
        have hw' := hw.symm
        subst hw'
        go_wp2_with fail
        go_round
        case rel => exact ⟨k + 1, by omega, by go_num, OK2⟩
        case measure => simp [intOf]; omega
    · have HT : Hid (bo = true) := (by
        show _ = _
        rw [← HO.out, List.all_eq_true]
        intro d hd
        obtain ⟨j, hj, rfl⟩ := List.getElem_of_mem hd
        have := OK.out j (by have := HN.out; omega)
        simpa [List.getD_eq_getElem?_getD, hj] using this)
      go_wp2_with fail
      go_ret
      exact ⟨by rw [HT.out]; rfl, rfl⟩

def qi (Q : List Nat) : List Int := Q.map Int.ofNat
theorem qi_len (Q : List Nat) : (qi Q).length = Q.length := by simp [qi]
theorem qi_snoc (Q : List Nat) (d : Nat) : qi (Q ++ [d]) = qi Q ++ [(d : Int)] := by simp [qi]
theorem qi_get {Q : List Nat} {j x : Nat} (h : Q[j]? = some x) : (qi Q).getD j 0 = x := by simp [qi, List.getD_eq_getElem?_getD, h]
theorem nil_row (w : World) (B : Nat) : w.ownsRow B 2 1 (.slice none 0 0) 0 [] := ⟨rfl, .inl ⟨rfl, rfl⟩⟩
theorem row_form {w : World} {B k : Nat} {v : Value} {xs : List Value} (R : w.ownsRow B 2 1 v k xs) : ∃ sa sc, v = .slice sa k sc := by
  rcases R.2 with ⟨h, h'⟩ | ⟨g, c, cur, h, _⟩
  · exact ⟨none, 0, by rw [h, h']⟩
  · exact ⟨_, _, h⟩
theorem row_keep {w : World} {base n : Nat} {v : Value} {xs : List Value} (h : w.ownsRow base 2 1 v n xs) (g o : Nat) (u : Value) (hne : ∀ k, v.ownBlock = some k → k ≠ g) : (w.setCell ⟨g, o, none⟩ u).ownsRow base 2 1 v n xs := by
  refine h.kept (row := some g) (grown_setCell (World.grownBy.refl w (some g)) o u) ?_
  cases e : v.ownBlock with
  | none => exact .inl rfl
  | some k => exact .inr fun x => hne k e (by simpa using x)
theorem row_off {w w' : World} {base n : Nat} {row : Option Nat} {v : Value} {xs : List Value} (h : w.ownsRow base 2 1 v n xs) (hg : w.grownBy w' row) (hne : ∀ k j, v.ownBlock = some k → row = some j → k ≠ j) : w'.ownsRow base 2 1 v n xs := by
  refine h.kept hg ?_
  cases e : v.ownBlock with
  | none => exact Or.inl rfl
  | some k => exact Or.inr fun x => hne k k e x.symm rfl
theorem own_down {w : World} {B B' n : Nat} {v : Value} {xs : List Value} (h : w.ownsRow B 2 1 v n xs) (hb : B' ≤ B) : w.ownsRow B' 2 1 v n xs := by
  refine ⟨h.1, ?_⟩
  rcases h.2 with h | ⟨gx, cap, cur, h1, h2, h3⟩
  · exact .inl h
  · exact .inr ⟨gx, cap, cur, h1, by omega, h3⟩
theorem row_on {w w' : World} {base n : Nat} {v : Value} {xs : List Value} (h : w.ownsRow base 2 1 v n xs) (hb : Below w.heap.size w w') : w'.ownsRow base 2 1 v n xs := by
  refine h.kept (row := none) ⟨hb.os, hb.tape, hb.output, hb.size, fun k hk _ => hb.block k hk⟩ ?_
  by_cases e : v.ownBlock = none
  · exact Or.inl e
  · exact Or.inr e
theorem cell_one_at (w : World) (g : Nat) (x : Value) (t : TypeId) (h : w.heap.size = g) : ∀ j u, [x][j]? = some u → (w.alloc (.cells #[x] t)).cell? ((⟨g, 0, none⟩ : Addr).add j) = some u := by
  subst h
  exact cell_one_new w x t
theorem one_int (z : Int) : ∀ u ∈ [Value.int .i64 z], u.oneCell' = true := by
  intro u hu
  simp at hu
  subst hu
  rfl
theorem row_low {w w' : World} {base n B : Nat} {v : Value} {xs : List Value} (R : w.ownsRow base 2 1 v n xs) (hb : Below B w w') (hk : ∀ k, v.ownBlock = some k → k < B) : w'.ownsRow base 2 1 v n xs := by
  refine ⟨R.1, ?_⟩
  rcases R.2 with h | ⟨g, cap, cur, h1, h2, h3, h4⟩
  · exact .inl h
  · exact .inr ⟨g, cap, cur, h1, h2, (hb.block g (hk g (by rw [h1]; rfl))).trans h3, h4⟩
theorem cell_alloc_far {w : World} {g x : Nat} {u : Value} (h : w.cell? ⟨g, x, none⟩ = some u) (ob : Obj) : (w.alloc ob).cell? ⟨g, x, none⟩ = some u := by
  have hb : Below w.heap.size w (w.alloc ob) := (Below.refl _ _).alloc (Nat.le_refl _) _
  exact (hb.cell (p := ⟨g, x, none⟩) (World.block_lt_of_cell? w _ h)).trans h

set_option maxRecDepth 20000 in
set_option maxHeartbeats 2000000 in
theorem idown_any (N : List Int) (v : Value) (w : World) (hN : Lists.Reads w v N) (h5 : N.length ≤ 576) (hv : Va N) :
    Calls Try.prog 32 #[v] w fun e w' => ∃ u Q O, e = .returned u ∧ KI N Q.length Q O ∧ w'.ownsRow w.heap.size 2 1 u Q.length (ints (qi Q)) ∧ Below w.heap.size w w' := by
  have HV : Hid (Va N) := hv
  obtain ⟨b, o, hcell, hvv⟩ := reads_at hN
  obtain ⟨a, cap, rfl⟩ := hN.form
  have HC : Hid (∀ i, i < N.length → w.cell? ⟨b, o + i, none⟩ = some (.int .i64 (N.getD i 0))) := hcell
  have HB : Hid (0 < N.length → b < w.heap.size ∧ a = some ⟨b, o, none⟩) := fun hi => by
    obtain ⟨h1, c, h2⟩ := hvv hi
    simp at h2
    exact ⟨h1, h2.1⟩
  obtain ⟨i0, hi, hz0, hz1, hz2⟩ := info_parts Lists.Try.info2
  have FZ : Hid ((madeCells (Value.int .i64 0).cells (N.length * 1)).toList = ints (zeros N.length)) := zeros_made N.length
  obtain ⟨n, hn⟩ : ∃ n, n = N.length := ⟨_, rfl⟩
  rw [← hn] at h5 FZ ⊢
  have HN : Hid (n = N.length) := hn
  clear hN hcell hvv hn hv
  go_enter Try.func32, Try.ntmps32
  go_wp2_with (at_make; refine wpList_make_full _ rfl _ _ 22 rfl w.heap.size 2 i0 (.int .i64 0) 1 Try.underlying22 hi hz0 hz1 .i64 .i64 (n : Int) (n : Int) n rfl rfl rfl rfl (by rw [hz2]; omega) (by unfold maxLen; omega) (Nat.le_refl _) ?_; intro w4 hown hgrow)
  rw [FZ.out] at hown
  have R0 : Hid (w4.ownsRow w.heap.size 2 1 (.slice (some ⟨w.heap.size, 0, none⟩) n n) n (ints (zeros n))) := hown
  have B0 : Hid (Below w.heap.size w w4) := (Below.refl _ _).grown hgrow (Nat.le_refl _) (fun k hk => by cases hk)
  clear hown hgrow FZ
  go_loopw [16] (fun c wr => ∃ (k : Nat) (O : List Int), k ≤ n ∧ c = .int .i64 k ∧ Hid (O.length = n) ∧ Hid (∀ x, x < n → O.getD x 0 = sm k (fun c => if nx N c = x then 1 else 0)) ∧ Hid (wr.ownsRow w.heap.size 2 1 (.slice (some ⟨w.heap.size, 0, none⟩) n n) n (ints O)) ∧ Hid (Below w.heap.size w wr)) (fun c _ => n - (intOf c).toNat)
  case atStart => exact ⟨0, zeros n, by omega, rfl, zeros_len n, fun x _ => zeros_get n x, R0, B0⟩
  case round =>
    obtain ⟨k, O, hk, rfl, HO, HG, R, BB⟩ := hrel
    by_cases hlt : k < n
    · have hkl : k < N.length := by rw [← HN.out]; exact hlt
      obtain ⟨hb, hx⟩ := HB.out (by omega)
      subst hx
      have q : wr.cell? ⟨b, o + k, none⟩ = some (.int .i64 (N.getD k 0)) := (BB.out.cell (p := ⟨b, o + k, none⟩) hb).trans (HC.out k hkl)
      have vb := va_at HV.out hkl
      rw [← HN.out] at vb
      have i1 : (0 : Int) ≤ (k : Int) := by omega
      have i2 : (k : Int) < (n : Int) := by omega
      have NX : Hid (nx N k = N.getD k 0) := rfl
      by_cases e : N.getD k 0 = -1
      · have G2 : Hid (∀ x, x < n → O.getD x 0 = sm (k + 1) (fun c => if nx N c = x then 1 else 0)) := fun x hx => by
          rw [HG.out x hx]
          show _ = sm k _ + (if nx N k = x then 1 else 0)
          rw [NX.out, if_neg (by omega)]
          omega
        rw [e] at q
        clear e vb
        go_wp2_with fail
        go_roundw
        case rel => exact ⟨k + 1, O, by omega, by go_num, HO, G2, R, BB⟩
        case measure => simp [intOf]; omega
      · have e' : (N.getD k 0 != -1) = true := by rw [bne_iff_ne]; exact e
        obtain ⟨d, hd⟩ : ∃ d : Nat, N.getD k 0 = d := ⟨(N.getD k 0).toNat, by omega⟩
        have dl : d < n := by omega
        have q1 : wr.cell? ⟨w.heap.size, d, none⟩ = some (.int .i64 (O.getD d 0)) := row_get R.out HO.out d dl
        have q2 : wr.frozen? ⟨w.heap.size, d, none⟩ = false := R.out.frozenAt d
        have bd : 0 ≤ O.getD d 0 ∧ O.getD d 0 ≤ 576 := by
          rw [HG.out d dl]
          have p := sm_ge (n := k) (f := fun c => if nx N c = d then 1 else 0) (fun i _ => by show 0 ≤ (if _ then (1 : Int) else 0); split <;> omega)
          have p2 := sm_le (n := k) (f := fun c => if nx N c = d then 1 else 0) (fun i _ => by show (if _ then (1 : Int) else 0) ≤ 1; split <;> omega)
          omega
        have G2 : Hid (∀ x, x < n → (O.set d (O.getD d 0 + 1)).getD x 0 = sm (k + 1) (fun c => if nx N c = x then 1 else 0)) := fun x hx => by
          rw [getD_set O d x _ (by rw [HO.out]; exact dl)]
          show _ = sm k _ + (if nx N k = x then 1 else 0)
          rw [NX.out, hd]
          by_cases e : x = d
          · subst e; rw [if_pos rfl, if_pos rfl, HG.out x hx]
          · rw [if_neg e, if_neg (by omega), HG.out x hx]; omega
        have O2 : Hid ((O.set d (O.getD d 0 + 1)).length = n) := (by show _ = _; rw [List.length_set]; exact HO.out)
        have R2 : Hid ((wr.setCell ⟨w.heap.size, d, none⟩ (.int .i64 (O.getD d 0 + 1))).ownsRow w.heap.size 2 1 (.slice (some ⟨w.heap.size, 0, none⟩) n n) n (ints (O.set d (O.getD d 0 + 1)))) := row_put R.out d _
        have B2 : Hid (Below w.heap.size w (wr.setCell ⟨w.heap.size, d, none⟩ (.int .i64 (O.getD d 0 + 1)))) := BB.out.setCell (p := ⟨w.heap.size, d, none⟩) (Nat.le_refl _) _
        rw [hd] at q e'
        obtain ⟨bd1, bd2⟩ := bd
        have j1 : (0 : Int) ≤ (d : Int) := by omega
        have j2 : (d : Int) < (n : Int) := by omega
        generalize O.set d (O.getD d 0 + 1) = O' at *
        generalize O.getD d 0 = z at *
        clear e vb hd HG R BB
        go_wp2_with fail
        go_roundw
        case rel => exact ⟨k + 1, O', by omega, by go_num, O2, G2, R2, B2⟩
        case measure => simp [intOf]; omega
    · have hkn : k = n := by omega
      subst hkn
      have G3 : Hid (∀ x, x < N.length → O.getD x 0 = sm N.length (fun c => if nx N c = x then 1 else 0)) := fun x hx => by rw [← HN.out]; exact HG.out x (by rw [HN.out]; exact hx)
      have KS : Hid (KI N 0 (zr O N.length) O) := ki_start (by rw [HO.out]; exact HN.out) G3.out
      clear HG G3
      have SZ : w.heap.size + 1 ≤ wr.heap.size := (R.out.lt w.heap.size (by simp [Value.ownBlock])).2
      obtain ⟨wA, hwA⟩ : ∃ x : World, x = wr := ⟨_, rfl⟩
      subst hwA
      have RQ : Hid (wA.ownsRow (w.heap.size + 1) 2 1 (.slice none 0 0) 0 (ints (qi (zr O 0)))) := nil_row _ _
      go_wp2_with fail
      go_loopw [6, 31] (fun u i wx => ∃ m : Nat, m ≤ k ∧ i = .int .i64 m ∧ Hid (wx.ownsRow (w.heap.size + 1) 2 1 u (zr O m).length (ints (qi (zr O m)))) ∧ Hid (Below (w.heap.size + 1) wA wx)) (fun _ i _ => k - (intOf i).toNat)
      case atStart => exact ⟨0, by omega, rfl, RQ, Below.refl _ _⟩
      case round =>
        clear RQ
        obtain ⟨m, hm, rfl, RQ, BQ⟩ := hrel
        obtain ⟨sa, sc, hv⟩ := row_form RQ.out
        subst hv
        have zl := (zr_len O m).2
        have zr' := BQ.out.size
        by_cases hlm : m < k
        · have q1 : wr.cell? ⟨w.heap.size, m, none⟩ = some (.int .i64 (O.getD m 0)) := (BQ.out.cell (p := ⟨w.heap.size, m, none⟩) (Nat.lt_succ_self _)).trans (row_get R.out HO.out m hlm)
          have i1 : (0 : Int) ≤ (m : Int) := by omega
          have i2 : (m : Int) < (k : Int) := by omega
          have OL : Hid (∀ g, (Value.slice sa (zr O m).length sc).ownBlock = some g → w.heap.size + 1 ≤ g ∧ g < wr.heap.size) := fun g hg => RQ.out.lt g hg
          by_cases e : O.getD m 0 = 0
          · have ZN : Hid (zr O (m + 1) = zr O m ++ [m]) := (by show _ = _; rw [zr, if_pos e])
            rw [e] at q1
            clear e
            obtain ⟨l, hl⟩ : ∃ l, l = (zr O m).length := ⟨_, rfl⟩
            have HL : Hid (l = (zr O m).length) := hl
            rw [← hl] at RQ OL zl ⊢
            obtain ⟨Z, hZ⟩ : ∃ Z, Z = zr O m := ⟨_, rfl⟩
            rw [← hZ] at RQ HL ZN
            clear hl hZ
            go_wp2_with (at_builtin; refine wpList_append_own _ rfl _ _ 22 rfl (w.heap.size + 1) 2 i0 (.int .i64 0) 1 8 Try.underlying22 hi hz0 hz1 hz2 rfl (by decide) _ _ _ rfl (RQ.out.alloc _) ⟨wr.heap.size, 0, none⟩ 1 1 [.int .i64 m] rfl rfl (cell_one_new wr (.int .i64 m) 2) (one_int _) (by unfold maxLen; omega) (by omega) (by simp; omega) ?_)
            · intro v' w2 hown hgrow _
              have R2 : Hid (w2.ownsRow (w.heap.size + 1) 2 1 v' (zr O (m + 1)).length (ints (qi (zr O (m + 1))))) := (by
                show World.ownsRow _ _ _ _ _ _ _
                rw [ZN.out, List.length_append, ← HL.out, qi_snoc]
                simpa [ints] using hown)
              have B2 : Hid (Below (w.heap.size + 1) wA w2) := (BQ.out.alloc (by omega) _).grown hgrow (by simp; omega) (fun b hb => (OL.out b hb).1)
              clear hown hgrow OL RQ BQ
              go_wp2_with fail
              go_roundw
              case rel => exact ⟨m + 1, by omega, by go_num, R2, B2⟩
              case measure => simp [intOf]; omega
          · have e' : (O.getD m 0 == 0) = false := by rw [beq_eq_false_iff_ne]; exact e
            have R2 : Hid (wr.ownsRow (w.heap.size + 1) 2 1 (.slice sa (zr O m).length sc) (zr O (m + 1)).length (ints (qi (zr O (m + 1))))) := (by
              show World.ownsRow _ _ _ _ _ _ _
              rw [zr, if_neg e]
              exact RQ.out)
            clear e
            generalize O.getD m 0 = z at *
            go_wp2_with fail
            go_roundw
            case rel => exact ⟨m + 1, by omega, by go_num, R2, BQ⟩
            case measure => simp [intOf]; omega
        · have em : m = k := by omega
          subst em
          have RO : Hid (wr.ownsRow w.heap.size 2 1 (.slice (some ⟨w.heap.size, 0, none⟩) m m) m (ints O)) := row_low R.out BQ.out (fun k hk => by simp [Value.ownBlock] at hk; omega)
          have BO : Hid (Below w.heap.size w wr) := BB.out.trans (BQ.out.mono (Nat.le_succ _))
          have RZ : Hid (wr.ownsRow (w.heap.size + 1) 2 1 (.slice sa (zr O m).length sc) (zr O N.length).length (ints (qi (zr O N.length)))) := (by show World.ownsRow _ _ _ _ _ _ _; rw [← HN.out]; exact RQ.out)
          have ZW : Hid (w.heap.size + 1 ≤ wr.heap.size) := Nat.le_trans SZ BQ.out.size
          clear RQ BQ R BB HO zl zr' SZ
          generalize hZ : zr O N.length = Z at *
          generalize (zr O m).length = l0 at *
          clear hZ
          go_wp2_with fail
          go_loopw [6, 9] (fun u i wr => ∃ (j : Nat) (Q : List Nat) (O : List Int), i = .int .i64 j ∧ Hid (KI N j Q O) ∧ Hid (wr.ownsRow w.heap.size 2 1 (.slice (some ⟨w.heap.size, 0, none⟩) m m) m (ints O)) ∧ Hid (wr.ownsRow (w.heap.size + 1) 2 1 u Q.length (ints (qi Q))) ∧ Hid (w.heap.size + 1 ≤ wr.heap.size) ∧ Hid (Below w.heap.size w wr)) (fun _ i _ => m - (intOf i).toNat)
          case atStart => exact ⟨0, Z, O, rfl, KS, RO, RZ, ZW, BO⟩
          case round =>
            clear KS RO RZ ZW BO
            obtain ⟨j, Q, O, rfl, KS, RO, RZ, ZW, BO⟩ := hrel
            have jq : j ≤ Q.length := KS.out.le
            have qn : Q.length ≤ m := by rw [HN.out]; exact ki_len KS.out
            have HO : Hid (O.length = m) := KS.out.len.trans HN.out.symm
            obtain ⟨sb, sd, hvv⟩ := row_form RZ.out
            subst hvv
            by_cases hlj : j < Q.length
            · obtain ⟨c, hc⟩ : ∃ c, Q[j]? = some c := ⟨Q[j], List.getElem?_eq_getElem hlj⟩
              have cl' : c < N.length := KS.out.lt c (List.mem_of_getElem? hc)
              have cl : c < m := by rw [HN.out]; exact cl'
              have RZ' : wr.ownsRow (w.heap.size + 1) 2 1 (.slice sb Q.length sd) (qi Q).length (ints (qi Q)) := by rw [qi_len]; exact RZ.out
              obtain ⟨g, cap2, hu, hg1, hg2, hg3, hg4⟩ : ∃ g cap, Value.slice sb Q.length sd = .slice (some ⟨g, 0, none⟩) Q.length cap ∧ w.heap.size + 1 ≤ g ∧ g < wr.heap.size ∧ Q.length ≤ cap ∧ cap ≤ maxLen := by
                rcases row_cases RZ' with ⟨h, _⟩ | ⟨g, cap, h1, h2, h3, h4, h5⟩
                · have := qi_len Q
                  rw [h] at this
                  simp at this
                  omega
                · rw [qi_len] at h1 h4
                  exact ⟨g, cap, h1, h2, h3, h4, h5⟩
              obtain ⟨rfl, _, rfl⟩ : sb = some ⟨g, 0, none⟩ ∧ True ∧ sd = cap2 := by simp at hu; exact ⟨hu.1, trivial, hu.2⟩
              clear hu
              have q0 : wr.cell? ⟨g, j, none⟩ = some (.int .i64 c) := by
                have := row_get RZ.out (qi_len Q) j hlj
                rw [qi_get hc] at this
                exact this
              obtain ⟨hb, hxx⟩ := HB.out (by omega)
              subst hxx
              have q : wr.cell? ⟨b, o + c, none⟩ = some (.int .i64 (N.getD c 0)) := (BO.out.cell (p := ⟨b, o + c, none⟩) hb).trans (HC.out c cl')
              have vb := va_at HV.out cl'
              rw [← HN.out] at vb
              have i1 : (0 : Int) ≤ (j : Int) := by omega
              have i2 : (j : Int) < (Q.length : Int) := by omega
              have i3 : (0 : Int) ≤ (c : Int) := by omega
              have i4 : (c : Int) < (m : Int) := by omega
              have HJ : Hid (Q[j]? = some c) := hc
              have OL : Hid (∀ k, (Value.slice (some ⟨g, 0, none⟩) Q.length sd).ownBlock = some k → w.heap.size + 1 ≤ k ∧ k < wr.heap.size) := fun k hk => RZ.out.lt k hk
              clear RZ' hc hg4
              by_cases e : N.getD c 0 = -1
              · have K2 : Hid (KI N (j + 1) Q O) := ki_sea KS.out HJ.out e
                rw [e] at q
                clear e vb KS
                go_wp2_with fail
                go_roundw
                case rel => exact ⟨j + 1, Q, O, by go_num, K2, RO, RZ, ZW, BO⟩
                case measure => simp [intOf]; omega
              · have e' : (N.getD c 0 == -1) = false := by rw [beq_eq_false_iff_ne]; exact e
                obtain ⟨d, hd⟩ : ∃ d : Nat, N.getD c 0 = d := ⟨(N.getD c 0).toNat, by omega⟩
                have dl : d < m := by omega
                have HD : Hid (nx N c = d) := hd
                obtain ⟨_, _, _, o1, _⟩ := ki_open HV.out KS.out HJ.out HD.out
                have o2 : O.getD d 0 ≤ 576 := by
                  rw [KS.out.op d (by rw [← HN.out]; exact dl)]
                  have p2 := sm_le (n := N.length) (f := fun e => if nx N e = d ∧ e ∉ Q.take j then 1 else 0) (fun i _ => by show (if _ then (1 : Int) else 0) ≤ 1; split <;> omega)
                  have := HN.out
                  omega
                have q1 : wr.cell? ⟨w.heap.size, d, none⟩ = some (.int .i64 (O.getD d 0)) := row_get RO.out HO.out d dl
                have q2 : wr.frozen? ⟨w.heap.size, d, none⟩ = false := RO.out.frozenAt d
                have RO2 : Hid ((wr.setCell ⟨w.heap.size, d, none⟩ (.int .i64 (O.getD d 0 - 1))).ownsRow w.heap.size 2 1 (.slice (some ⟨w.heap.size, 0, none⟩) m m) m (ints (O.set d (O.getD d 0 - 1)))) := row_put RO.out d _
                have RZ2 : Hid ((wr.setCell ⟨w.heap.size, d, none⟩ (.int .i64 (O.getD d 0 - 1))).ownsRow (w.heap.size + 1) 2 1 (.slice (some ⟨g, 0, none⟩) Q.length sd) Q.length (ints (qi Q))) := row_keep RZ.out _ _ _ (fun k hk => by have := OL.out k hk; omega)
                have BO2 : Hid (Below w.heap.size w (wr.setCell ⟨w.heap.size, d, none⟩ (.int .i64 (O.getD d 0 - 1)))) := BO.out.setCell (p := ⟨w.heap.size, d, none⟩) (Nat.le_refl _) _
                have ZW2 : Hid (w.heap.size + 1 ≤ (wr.setCell ⟨w.heap.size, d, none⟩ (.int .i64 (O.getD d 0 - 1))).heap.size) := Nat.le_trans ZW.out ((Below.refl 0 wr).setCell (p := ⟨w.heap.size, d, none⟩) (Nat.zero_le _) _).size
                have SS : Hid ((wr.setCell ⟨w.heap.size, d, none⟩ (.int .i64 (O.getD d 0 - 1))).heap.size = wr.heap.size) := (by show _ = _; simp)
                rw [hd] at q e'
                have j1 : (0 : Int) ≤ (d : Int) := by omega
                have j2 : (d : Int) < (m : Int) := by omega
                clear e vb hd
                by_cases hz : O.getD d 0 - 1 = 0
                · have K2 : Hid (KI N (j + 1) (Q ++ [d]) (O.set d (O.getD d 0 - 1))) := ki_free HV.out KS.out HJ.out HD.out hz
                  have z1 : O.getD d 0 = 1 := by omega
                  clear KS RO RZ BO ZW
                  generalize O.set d (O.getD d 0 - 1) = O' at *
                  rw [z1] at q1 RO2 RZ2 BO2 ZW2 SS
                  rw [show (1 : Int) - 1 = 0 from rfl] at RO2 RZ2 BO2 ZW2 SS
                  clear z1 hz o1 o2
                  go_wp2_with (at_builtin; refine wpList_append_own _ rfl _ _ 22 rfl (w.heap.size + 1) 2 i0 (.int .i64 0) 1 8 Try.underlying22 hi hz0 hz1 hz2 rfl (by decide) _ _ _ rfl (RZ2.out.alloc _) ⟨wr.heap.size, 0, none⟩ 1 1 [.int .i64 d] rfl rfl (cell_one_at _ _ (.int .i64 d) 2 SS.out) (one_int _) (by unfold maxLen; omega) (by omega) (by have := ZW2.out; simp at this ⊢; omega) ?_)
                  · intro v' w2 hown hgrow _
                    have hgs := hgrow.size
                    simp at hgs
                    have R2 : Hid (w2.ownsRow (w.heap.size + 1) 2 1 v' (Q ++ [d]).length (ints (qi (Q ++ [d])))) := (by
                      show World.ownsRow _ _ _ _ _ _ _
                      rw [List.length_append, qi_snoc]
                      simpa [ints] using hown)
                    have B2 : Hid (Below w.heap.size w w2) := (BO2.out.alloc BO2.out.size _).grown hgrow (by simp; have := ZW2.out; simp at this; omega) (fun b hb => by have := (OL.out b hb).1; omega)
                    have RO3 : Hid (w2.ownsRow w.heap.size 2 1 (.slice (some ⟨w.heap.size, 0, none⟩) m m) m (ints O')) := row_off (RO2.out.alloc _) hgrow (fun k i hk hi => by simp [Value.ownBlock] at hk; have := (OL.out i hi).1; omega)
                    have ZW3 : Hid (w.heap.size + 1 ≤ w2.heap.size) := (by show _ ≤ _; have := ZW2.out; simp at this; omega)
                    clear hown hgrow OL RZ2 RO2 BO2 ZW2 SS
                    go_wp2_with fail
                    go_roundw
                    case rel => exact ⟨j + 1, Q ++ [d], O', by go_num, K2, RO3, R2, ZW3, B2⟩
                    case measure => simp [intOf]; omega
                · have K2 : Hid (KI N (j + 1) Q (O.set d (O.getD d 0 - 1))) := ki_wait HV.out KS.out HJ.out HD.out hz
                  have hz' : (O.getD d 0 - 1 == 0) = false := by rw [beq_eq_false_iff_ne]; exact hz
                  clear KS RO RZ BO ZW hz
                  generalize O.set d (O.getD d 0 - 1) = O' at *
                  generalize O.getD d 0 = z at *
                  go_wp2_with fail
                  go_roundw
                  case rel => exact ⟨j + 1, Q, O', by go_num, K2, RO2, RZ2, ZW2, BO2⟩
                  case measure => simp [intOf]; omega
            · have ej : j = Q.length := by omega
              subst ej
              go_wp2_with fail
              go_ret
              exact ⟨_, Q, O, rfl, KS.out, own_down RZ.out (Nat.le_succ _), BO.out⟩
end Go.Proofs.Ytagkbglgdmajhaa.Ct
