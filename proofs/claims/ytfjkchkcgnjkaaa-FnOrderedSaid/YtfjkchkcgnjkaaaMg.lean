/- Two ordered lists in one, by the model. -/
import Derived.Test.YtfjkchkcgnjkaaaMp
import Derived.Test.YtfjkchkcgnjkaaaIa
import Derived.Maps.AppendAt
namespace Go.Proofs.Ytfjkchkcgnjkaaa.Srt
open Go.ChangeShapes Go.WideShapes Go.ChangeAt Go.RowKit
open Go.Proofs.Ytfjkchkcgnjkaaa.Flt Go.Proofs.Ytfjkchkcgnjkaaa.St Go.Proofs.Ytfjkchkcgnjkaaa.Fls
attribute [local go_sem] Fls.run_store_flt

theorem one_flts (L : List Nat) : ∀ u ∈ flts L, u.oneCell' = true := by
  intro u hu
  obtain ⟨x, _, rfl⟩ := List.mem_map.1 hu
  rfl
theorem cell_new (w : World) (x : Value) (t : TypeId) : ∀ j u, [x][j]? = some u → (w.alloc (.cells #[x] t)).cell? ((⟨w.heap.size, 0, none⟩ : Addr).add j) = some u := by
  intro j u hj
  match j, hj with
  | 0, hj =>
    simp at hj
    subst hj
    simp [Addr.add]
theorem flts_snoc (L : List Nat) (x : Nat) : flts (L ++ [x]) = flts L ++ [.float .f64 x] := by simp [flts]
theorem flts_len (L : List Nat) : (flts L).length = L.length := by simp [flts]

set_option maxHeartbeats 2000000 in
set_option maxRecDepth 20000 in
theorem merged_any (w : World) (A B : List Nat) (ba oa ca bb ob cb n m : Nat) (hn : n = A.length) (hm : m = B.length) (hnm : n + m ≤ 4000)
    (ha2 : n ≤ ca) (ha3 : ca ≤ maxLen) (hb2 : m ≤ cb) (hb3 : cb ≤ maxLen) (la : ba < w.heap.size) (lb : bb < w.heap.size)
    (KA : ∀ i, i < n → w.cell? ⟨ba, oa + i, none⟩ = some (.float .f64 (A.getD i 0))) (KB : ∀ i, i < m → w.cell? ⟨bb, ob + i, none⟩ = some (.float .f64 (B.getD i 0)))
    (bA : ∀ z ∈ A, z < 18446744073709551616) (bB : ∀ z ∈ B, z < 18446744073709551616) :
    Calls Try.prog 20 #[.slice (some ⟨ba, oa, none⟩) n ca, .slice (some ⟨bb, ob, none⟩) m cb] w fun e w' => ∃ v, e = .returned v ∧ w'.ownsRow w.heap.size 31 1 v (n + m) (flts (mg A B)) ∧ Below w.heap.size w w' := by
  have HA : Hid (∀ i, i < n → ∀ wx, Below w.heap.size w wx → wx.cell? ⟨ba, oa + i, none⟩ = some (.float .f64 (A.getD i 0))) := fun i hi wx hx => (hx.cell (p := ⟨ba, oa + i, none⟩) la).trans (KA i hi)
  have HB : Hid (∀ i, i < m → ∀ wx, Below w.heap.size w wx → wx.cell? ⟨bb, ob + i, none⟩ = some (.float .f64 (B.getD i 0))) := fun i hi wx hx => (hx.cell (p := ⟨bb, ob + i, none⟩) lb).trans (KB i hi)
  have bd : ∀ (L : List Nat) (i : Nat), (∀ z ∈ L, z < 18446744073709551616) → L.getD i 0 < 18446744073709551616 := fun L i h => by
    by_cases e : i < L.length
    · rw [List.getD_eq_getElem?_getD, List.getElem?_eq_getElem e]; exact h _ (List.getElem_mem e)
    · rw [List.getD_eq_getElem?_getD, List.getElem?_eq_none (by omega)]; decide
  have AH : Hid (∀ (i k : Nat) (w : World), Calls Try.prog 28 #[.float .f64 (B.getD k 0), .float .f64 (A.getD i 0)] w fun e w' => e = .returned (.bool (decide (pl (B.getD k 0) < pl (A.getD i 0)))) ∧ w' = w) := fun i k w => ahead_any _ _ w (bd _ _ bB) (bd _ _ bA)
  have MA : Hid (∀ i k, i < n → k < m → ¬ pl (B.getD k 0) < pl (A.getD i 0) → mg (A.drop i) (B.drop k) = A.getD i 0 :: mg (A.drop (i + 1)) (B.drop k)) := fun i k h1 h2 h3 => mg_a (by omega) (by omega) h3
  have MB : Hid (∀ i k, k < m → (i < n → pl (B.getD k 0) < pl (A.getD i 0)) → mg (A.drop i) (B.drop k) = B.getD k 0 :: mg (A.drop i) (B.drop (k + 1))) := fun i k h1 h2 => mg_b (by omega) (by rw [← hn]; exact h2)
  have ME : Hid (∀ i k, m ≤ k → mg (A.drop i) (B.drop k) = A.drop i) := fun i k h => mg_end (by omega)
  have LN : Hid (n = A.length) := hn
  obtain ⟨i0, hi, hzz⟩ := Option.map_eq_some_iff.1 Fls.Try.info31
  have hz0 : i0.zero = some (.float .f64 0) := congrArg Prod.fst hzz
  have hz1 : i0.size = 1 := congrArg (fun q => q.2.1) hzz
  have hz2 : i0.bytes = 8 := congrArg (fun q => q.2.2) hzz
  clear hzz
  have HLA : Hid (ba < w.heap.size ∧ bb < w.heap.size) := ⟨la, lb⟩
  have m1 : n ≤ 4000 ∧ m ≤ 4000 := by omega
  obtain ⟨m1, m2⟩ := m1
  have R0 : Hid ((w.alloc (Obj.cells #[] 31)).ownsRow w.heap.size 31 1 (.slice (some ⟨w.heap.size, 0, none⟩) 0 0) 0 (flts [])) := World.ownsRow_lit w #[] 0 (Nat.le_refl _) (Nat.zero_le _) rfl
  have B0 : Hid (Below w.heap.size w (w.alloc (Obj.cells #[] 31))) := (Below.refl _ _).alloc (Nat.le_refl _) _
  have E0 : Hid ([] ++ mg (A.drop 0) (B.drop 0) = mg A B) := rfl
  have hfin : Hid (∀ (wx : World) (v : Value) (i k : Nat) (O : List Nat), m ≤ k → k ≤ m → i = n → wx.ownsRow w.heap.size 31 1 v (i + k) (flts O) → O ++ mg (A.drop i) (B.drop k) = mg A B → wx.ownsRow w.heap.size 31 1 v (n + m) (flts (mg A B))) := by
    intro wx v i k O h1 h2 h3 h4 h5
    rw [ME.out i k h1, h3, hn, List.drop_length, List.append_nil] at h5
    rw [← h5, h3] at *
    rw [show m = k by omega]
    exact h4
  unfold maxLen at ha3 hb3
  clear KA KB bA bB la lb bd hn hm
  go_enter Try.func20, Try.ntmps20
  go_wp2_with fail
  go_loopw [5, 6, 7] (fun v si sk wr => ∃ (i k : Nat) (O : List Nat), i ≤ n ∧ k ≤ m ∧ si = .int .i64 i ∧ sk = .int .i64 k ∧ Hid (wr.ownsRow w.heap.size 31 1 v (i + k) (flts O)) ∧ Hid (Below w.heap.size w wr) ∧ Hid (O ++ mg (A.drop i) (B.drop k) = mg A B)) (fun _ _ sk _ => m - (intOf sk).toNat)
  case atStart => exact ⟨0, 0, [], Nat.zero_le _, Nat.zero_le _, rfl, rfl, R0, B0, E0⟩
  case round =>
    clear R0 B0 E0
    obtain ⟨i1, k, O1, hi1, hk, rfl, rfl, R, BB, EQ⟩ := hrel
    by_cases hlt : k < m
    · have g1 : (k : Int) < (m : Int) := by omega
      obtain ⟨wo, hwo⟩ : ∃ wo, wo = wr := ⟨_, rfl⟩
      subst hwo
      go_wp2_with fail
      go_loopw [5, 6] (fun v si wr => ∃ (i : Nat) (O : List Nat), i ≤ n ∧ si = .int .i64 i ∧ Hid (wr.ownsRow w.heap.size 31 1 v (i + k) (flts O)) ∧ Hid (Below w.heap.size w wr) ∧ Hid (O ++ mg (A.drop i) (B.drop k) = mg A B)) (fun _ si _ => n - (intOf si).toNat)
      case atStart => exact ⟨i1, O1, hi1, rfl, R, BB, EQ⟩
      case round =>
        clear R BB EQ hi1
        obtain ⟨i, O, hi1, rfl, R, BB, EQ⟩ := hrel
        obtain ⟨v, hv⟩ : ∃ v, v = u5 := ⟨_, rfl⟩
        subst hv
        by_cases hin : i < n
        · have g2 : (i : Int) < (n : Int) := by omega
          have g3 : decide ((i : Int) < (n : Int)) = true := by simp; omega
          have g4 : (0 : Int) ≤ (i : Int) := by omega
          have g5 : (0 : Int) ≤ (k : Int) := by omega
          have q1 := HA.out i hin wr BB.out
          have q2 := HB.out k hlt wr BB.out
          have CB := AH.out i k
          have zr := BB.out.size
          by_cases hq : pl (B.getD k 0) < pl (A.getD i 0)
          · have dq := decide_eq_true hq
            have EQ2 : Hid (O ++ (B.getD k 0 :: mg (A.drop i) (B.drop (k + 1))) = mg A B) := (by rw [← MB.out i k hlt (fun _ => hq)]; exact EQ.out)
            rw [dq] at CB
            have CC : Hid (∀ w, Calls Try.prog 28 #[.float .f64 (B.getD k 0), .float .f64 (A.getD i 0)] w fun e w' => e = .returned (.bool true) ∧ w' = w) := CB
            clear CB dq hq EQ
            generalize A.getD i 0 = x at *
            generalize B.getD k 0 = y at *
            go_wp2_with fail
            go_quiet ((go_at_call 28; exact Calls.quiet_of_same (CC.out _)))
            have R1 : Hid ((wr.drewN nq).ownsRow w.heap.size 31 1 v (i + k) (flts O)) := R.out
            have B1 : Hid (Below w.heap.size w (wr.drewN nq)) := below_drewN BB.out nq
            have q3 : (wr.drewN nq).cell? ⟨bb, ob + k, none⟩ = some (.float .f64 y) := q2
            have zr2 : w.heap.size ≤ (wr.drewN nq).heap.size := zr
            have hbn : bb < (wr.drewN nq).heap.size ∧ ¬ bb = (wr.drewN nq).heap.size := ⟨Nat.lt_of_lt_of_le HLA.out.2 zr, Nat.ne_of_lt (Nat.lt_of_lt_of_le HLA.out.2 zr)⟩
            obtain ⟨hb1, hb2'⟩ := hbn
            clear q1 q2 R BB zr CC
            generalize wr.drewN nq = wq at R1 B1 q3 zr2 hb1 hb2' ⊢
            go_wp2_with (at_builtin; refine wpList_append_own _ rfl _ _ 22 rfl w.heap.size 31 i0 (.float .f64 0) 1 8 Try.underlying22 hi hz0 hz1 hz2 rfl (by decide) _ _ _ rfl (R1.out.alloc _) ⟨wq.heap.size, 0, none⟩ 1 1 [.float .f64 y] rfl rfl (cell_new wq _ 31) (one_flts [y]) (by unfold maxLen; omega) (by omega) (by simp; omega) ?_)
            · intro v' w5 hown hgrow _
              have R5 : Hid (w5.ownsRow w.heap.size 31 1 v' (i + (k + 1)) (flts (O ++ [y]))) := (by show World.ownsRow _ _ _ _ _ _ _; rw [flts_snoc]; exact hown)
              have B5 : Hid (Below w.heap.size w w5) := (B1.out.alloc zr2 _).grown hgrow (by simp; omega) (fun b hb => (R1.out.lt b hb).1)
              have E5 : Hid ((O ++ [y]) ++ mg (A.drop i) (B.drop (k + 1)) = mg A B) := (by show _ = _; rw [← EQ2.out]; simp)
              clear hown hgrow R1 B1 EQ2 q3
              go_wp2_with fail
              go_roundw
              case rel => exact ⟨i, k + 1, O ++ [y], hi1, by omega, rfl, by go_num, R5, B5, E5⟩
              case measure => simp [intOf]; omega
          · have dq := decide_eq_false hq
            have EQ2 : Hid (O ++ (A.getD i 0 :: mg (A.drop (i + 1)) (B.drop k)) = mg A B) := (by rw [← MA.out i k hin hlt hq]; exact EQ.out)
            rw [dq] at CB
            have CC : Hid (∀ w, Calls Try.prog 28 #[.float .f64 (B.getD k 0), .float .f64 (A.getD i 0)] w fun e w' => e = .returned (.bool false) ∧ w' = w) := CB
            clear CB dq hq EQ
            generalize A.getD i 0 = x at *
            generalize B.getD k 0 = y at *
            go_wp2_with fail
            go_quiet ((go_at_call 28; exact Calls.quiet_of_same (CC.out _)))
            have R1 : Hid ((wr.drewN nq).ownsRow w.heap.size 31 1 v (i + k) (flts O)) := R.out
            have B1 : Hid (Below w.heap.size w (wr.drewN nq)) := below_drewN BB.out nq
            have q3 : (wr.drewN nq).cell? ⟨ba, oa + i, none⟩ = some (.float .f64 x) := q1
            have zr2 : w.heap.size ≤ (wr.drewN nq).heap.size := zr
            have hbn : ba < (wr.drewN nq).heap.size ∧ ¬ ba = (wr.drewN nq).heap.size := ⟨Nat.lt_of_lt_of_le HLA.out.1 zr, Nat.ne_of_lt (Nat.lt_of_lt_of_le HLA.out.1 zr)⟩
            obtain ⟨hb1, hb2'⟩ := hbn
            clear q1 q2 R BB zr CC
            generalize wr.drewN nq = wq at R1 B1 q3 zr2 hb1 hb2' ⊢
            go_wp2_with (at_builtin; refine wpList_append_own _ rfl _ _ 22 rfl w.heap.size 31 i0 (.float .f64 0) 1 8 Try.underlying22 hi hz0 hz1 hz2 rfl (by decide) _ _ _ rfl (R1.out.alloc _) ⟨wq.heap.size, 0, none⟩ 1 1 [.float .f64 x] rfl rfl (cell_new wq _ 31) (one_flts [x]) (by unfold maxLen; omega) (by omega) (by simp; omega) ?_)
            · intro v' w5 hown hgrow _
              have R5 : Hid (w5.ownsRow w.heap.size 31 1 v' (i + 1 + k) (flts (O ++ [x]))) := (by show World.ownsRow _ _ _ _ _ _ _; rw [flts_snoc, show i + 1 + k = i + k + 1 by omega]; exact hown)
              have B5 : Hid (Below w.heap.size w w5) := (B1.out.alloc zr2 _).grown hgrow (by simp; omega) (fun b hb => (R1.out.lt b hb).1)
              have E5 : Hid ((O ++ [x]) ++ mg (A.drop (i + 1)) (B.drop k) = mg A B) := (by show _ = _; rw [← EQ2.out]; simp)
              clear hown hgrow R1 B1 EQ2 q3
              go_wp2_with fail
              go_roundw
              case rel => exact ⟨i + 1, O ++ [x], by omega, by go_num, R5, B5, E5⟩
              case measure => simp [intOf]; omega
        · have g2 : ¬ (i : Int) < (n : Int) := by omega
          have g3 : decide ((i : Int) < (n : Int)) = false := by simp; omega
          have g5 : (0 : Int) ≤ (k : Int) := by omega
          have q2 := HB.out k hlt wr BB.out
          have zr := BB.out.size
          have EQ2 : Hid (O ++ (B.getD k 0 :: mg (A.drop i) (B.drop (k + 1))) = mg A B) := (by rw [← MB.out i k hlt (fun h => absurd h hin)]; exact EQ.out)
          clear EQ
          generalize B.getD k 0 = y at *
          go_wp2_with fail
          go_quiet (fail)
          have R1 : Hid ((wr.drewN nq).ownsRow w.heap.size 31 1 v (i + k) (flts O)) := R.out
          have B1 : Hid (Below w.heap.size w (wr.drewN nq)) := below_drewN BB.out nq
          have q3 : (wr.drewN nq).cell? ⟨bb, ob + k, none⟩ = some (.float .f64 y) := q2
          have zr2 : w.heap.size ≤ (wr.drewN nq).heap.size := zr
          have hbn : bb < (wr.drewN nq).heap.size ∧ ¬ bb = (wr.drewN nq).heap.size := ⟨Nat.lt_of_lt_of_le HLA.out.2 zr, Nat.ne_of_lt (Nat.lt_of_lt_of_le HLA.out.2 zr)⟩
          obtain ⟨hb1, hb2'⟩ := hbn
          clear q2 R BB zr
          generalize wr.drewN nq = wq at R1 B1 q3 zr2 hb1 hb2' ⊢
          go_wp2_with (at_builtin; refine wpList_append_own _ rfl _ _ 22 rfl w.heap.size 31 i0 (.float .f64 0) 1 8 Try.underlying22 hi hz0 hz1 hz2 rfl (by decide) _ _ _ rfl (R1.out.alloc _) ⟨wq.heap.size, 0, none⟩ 1 1 [.float .f64 y] rfl rfl (cell_new wq _ 31) (one_flts [y]) (by unfold maxLen; omega) (by omega) (by simp; omega) ?_)
          · intro v' w5 hown hgrow _
            have R5 : Hid (w5.ownsRow w.heap.size 31 1 v' (i + (k + 1)) (flts (O ++ [y]))) := (by show World.ownsRow _ _ _ _ _ _ _; rw [flts_snoc]; exact hown)
            have B5 : Hid (Below w.heap.size w w5) := (B1.out.alloc zr2 _).grown hgrow (by simp; omega) (fun b hb => (R1.out.lt b hb).1)
            have E5 : Hid ((O ++ [y]) ++ mg (A.drop i) (B.drop (k + 1)) = mg A B) := (by show _ = _; rw [← EQ2.out]; simp)
            clear hown hgrow R1 B1 EQ2 q3
            go_wp2_with fail
            go_roundw
            case rel => exact ⟨i, k + 1, O ++ [y], hi1, by omega, rfl, by go_num, R5, B5, E5⟩
            case measure => simp [intOf]; omega
    · have g1 : ¬ (k : Int) < (m : Int) := by omega
      have g4 : (0 : Int) ≤ (i1 : Int) := by omega
      have g6 : (i1 : Int) ≤ (n : Int) := by omega
      obtain ⟨v, hv⟩ : ∃ v, v = u5 := ⟨_, rfl⟩
      subst hv
      have zr := BB.out.size
      have hk2 : k = m := by omega
      by_cases hin : i1 < n
      · have h1 : (i1 : Int) < (n : Int) := by omega
        have hc : ¬ ca = i1 := by omega
        have FN : Hid (flts O1 ++ flts (A.drop i1) = flts (mg A B)) := (by show _ = _; rw [← EQ.out, ME.out i1 k (by omega)]; simp [flts])
        have DL : Hid ((flts (A.drop i1)).length = (n - i1) * 1) := (by show _ = _; rw [flts_len, List.length_drop, ← LN.out, Nat.mul_one])
        have NW : Hid (∀ j u, (flts (A.drop i1))[j]? = some u → wr.cell? ((⟨ba, oa + i1, none⟩ : Addr).add j) = some u) := by
          intro j u hj
          have hl : j < (A.drop i1).length := by
            by_cases h : j < (A.drop i1).length
            · exact h
            · rw [List.getElem?_eq_none (by rw [flts_len]; omega)] at hj; cases hj
          have hl2 : i1 + j < n := by rw [List.length_drop, ← LN.out] at hl; omega
          have := HA.out (i1 + j) hl2 wr BB.out
          have e : u = .float .f64 (A.getD (i1 + j) 0) := by
            have hl3 : i1 + j < A.length := by rw [← LN.out]; exact hl2
            rw [show flts (A.drop i1) = (A.drop i1).map (Value.float .f64) from rfl, List.getElem?_map, List.getElem?_eq_getElem hl] at hj
            simp at hj
            rw [← hj]
            simp [List.getD_eq_getElem?_getD, List.getElem?_eq_getElem hl3]
          rw [e, ← this]
          have ea : ((⟨ba, oa + i1, none⟩ : Addr).add j) = ⟨ba, oa + (i1 + j), none⟩ := by
            by_cases h : j = 0
            · subst h; simp [Addr.add]
            · simp [Addr.add, h, Nat.add_assoc]
          rw [ea]
        clear EQ MA MB ME HA HB AH
        go_wp2_with (at_builtin; refine wpList_append_own _ rfl _ _ 22 rfl w.heap.size 31 i0 (.float .f64 0) 1 8 Try.underlying22 hi hz0 hz1 hz2 rfl (by decide) _ _ _ rfl R.out ⟨ba, oa + i1, none⟩ (n - i1) _ (flts (A.drop i1)) rfl DL.out NW.out (one_flts _) (by unfold maxLen; omega) (by omega) zr ?_)
        · intro v' w5 hown hgrow _
          have R5 : Hid (w5.ownsRow w.heap.size 31 1 v' (n + m) (flts (mg A B))) := (by show World.ownsRow _ _ _ _ _ _ _; rw [← FN.out]; rw [show n + m = i1 + m + (n - i1) by omega, show flts (A.drop i1) = List.drop i1 (A.map (Value.float .f64)) by simp [flts]]; exact hown)
          have B5 : Hid (Below w.heap.size w w5) := BB.out.grown hgrow zr (fun b hb => (R.out.lt b hb).1)
          clear hown hgrow R BB
          go_wp2_with fail
          go_ret
          exact ⟨v', rfl, R5.out, B5.out⟩
      · have hin2 : i1 = n := by omega
        have FN : Hid (flts O1 = flts (mg A B)) := (by show _ = _; rw [← EQ.out, ME.out i1 k (by omega), List.drop_eq_nil_of_le (by rw [hin2, LN.out]; exact Nat.le_refl _), List.append_nil])
        clear EQ MA MB ME HA HB AH
        by_cases hc : ca = i1
        · go_wp2_with (at_builtin; refine wpList_append_own _ rfl _ _ 22 rfl w.heap.size 31 i0 (.float .f64 0) 1 8 Try.underlying22 hi hz0 hz1 hz2 rfl (by decide) _ _ _ rfl R.out _ 0 _ [] rfl rfl (by intro j u h; simp at h) (by intro u h; simp at h) (by unfold maxLen; omega) (by omega) zr ?_)
          · intro v' w5 hown hgrow _
            have R5 : Hid (w5.ownsRow w.heap.size 31 1 v' (n + m) (flts (mg A B))) := (by show World.ownsRow _ _ _ _ _ _ _; rw [← FN.out]; simpa using hown)
            have B5 : Hid (Below w.heap.size w w5) := BB.out.grown hgrow zr (fun b hb => (R.out.lt b hb).1)
            clear hown hgrow R BB
            go_wp2_with fail
            go_ret
            exact ⟨v', rfl, R5.out, B5.out⟩
        · go_wp2_with (at_builtin; refine wpList_append_own _ rfl _ _ 22 rfl w.heap.size 31 i0 (.float .f64 0) 1 8 Try.underlying22 hi hz0 hz1 hz2 rfl (by decide) _ _ _ rfl R.out _ 0 _ [] rfl rfl (by intro j u h; simp at h) (by intro u h; simp at h) (by unfold maxLen; omega) (by omega) zr ?_)
          · intro v' w5 hown hgrow _
            have R5 : Hid (w5.ownsRow w.heap.size 31 1 v' (n + m) (flts (mg A B))) := (by show World.ownsRow _ _ _ _ _ _ _; rw [← FN.out]; simpa using hown)
            have B5 : Hid (Below w.heap.size w w5) := BB.out.grown hgrow zr (fun b hb => (R.out.lt b hb).1)
            clear hown hgrow R BB
            go_wp2_with fail
            go_ret
            exact ⟨v', rfl, R5.out, B5.out⟩
end Go.Proofs.Ytfjkchkcgnjkaaa.Srt
