/- The slope of four values round a point: the program. -/
import Derived.Test.YtplichonohoacaaGsB
import Derived.WalkLawsBesides
namespace Go.Proofs.Ytplichonohoacaa.Gd
open Go.ChangeShapes Go.WideShapes Go.ChangeAt Go.RowKit
open Go.Proofs.Ytplichonohoacaa.Flt
attribute [local go_sem] run_store_float

set_option maxHeartbeats 1000000 in
theorem isnan_any (x : Nat) (w : World) : Calls Try.prog 22 #[.float .f64 x] w fun e w' => e = .returned (.bool (nan x)) ∧ w' = w := by
  have h := self_ne x
  go_enter Try.func22, Try.ntmps22
  go_wp2_with fail
  go_ret
  exact ⟨by rw [← self_ne x]; rfl, rfl⟩

set_option maxHeartbeats 1000000 in
theorem ifun_any (L : List Nat) (v : Value) (w : World) (hL : Fls.Reads w v L) (hl : L.length ≤ 100) : Calls Try.prog 44 #[v, .func (.func 22) #[] #[]] w fun e w' => ∃ k : Int, e = .returned (.int .i64 k) ∧ decide (0 ≤ k) = L.any nan ∧ w' = w := by
  obtain ⟨b, o, hcel, hv⟩ := reads_at hL
  obtain ⟨a, cap, rfl⟩ := hL.form
  have HC : Hid (∀ i, i < L.length → w.cell? ⟨b, o + i, none⟩ = some (.float .f64 (L.getD i 0))) := hcel
  have HV : Hid (0 < L.length → a = some ⟨b, o, none⟩) := fun hi => by
    obtain ⟨h1, c, h2⟩ := hv hi
    simp at h2
    exact h2.1
  obtain ⟨R, hR⟩ : ∃ R, R = L.any nan := ⟨_, rfl⟩
  have HR : Hid (R = L.any nan) := hR
  rw [← hR]
  obtain ⟨n, hn⟩ : ∃ n, n = L.length := ⟨_, rfl⟩
  rw [← hn] at hl ⊢
  have HN : Hid (n = L.length) := hn
  clear hL hcel hv hR hn
  go_enter Try.func44, Try.ntmps44
  go_wp2_with fail
  go_loop [8] (fun i => ∃ k : Nat, k ≤ n ∧ i = .int .i64 k ∧ Hid (∀ j, j < k → nan (L.getD j 0) = false)) (fun i => n - (intOf i).toNat)
  case atStart => exact ⟨0, Nat.zero_le _, rfl, fun j hj => absurd hj (by omega)⟩
  case round =>
    obtain ⟨k, hk, rfl, OK⟩ := hrel
    by_cases hlt : k < n
    · have hkl : k < L.length := by have := HN.out; omega
      have hx := HV.out (by omega)
      subst hx
      have q := HC.out k hkl
      have i2 : (0 : Int) ≤ (k : Int) := by omega
      have i3 : (k : Int) < (n : Int) := by omega
      have C3 : Hid (∀ w, Calls Try.prog 22 #[.float .f64 (L.getD k 0)] w fun e w' => e = .returned (.bool (nan (L.getD k 0))) ∧ w' = w) := fun w => isnan_any _ w
      cases hz : nan (L.getD k 0)
      · have OK2 : Hid (∀ j, j < k + 1 → nan (L.getD j 0) = false) := fun j hj => by
          by_cases e : j = k
          · rw [e]; exact hz
          · exact OK.out j (by omega)
        rw [hz] at C3
        clear hz
        generalize L.getD k 0 = z at *
        go_wp2_with fail
        refine (C3.out _).mono ?_
        rintro e w3 ⟨rfl, hw⟩
        have hw' := hw.symm
        subst hw'
        go_wp2_with fail
        go_round
        case rel => exact ⟨k + 1, by omega, by go_num, OK2⟩
        case measure => simp [intOf]; omega
      · have HT : Hid (R = true) := (by
          show _ = _
          rw [HR.out, List.any_eq_true]
          exact ⟨L.getD k 0, by simp [List.getD_eq_getElem?_getD, hkl], hz⟩)
        rw [hz] at C3
        clear hz
        generalize L.getD k 0 = z at *
        go_wp2_with fail
        refine (C3.out _).mono ?_
        rintro e w3 ⟨rfl, hw⟩
        have hw' := hw.symm
        subst hw'
        go_wp2_with fail
        go_ret
        exact ⟨_, rfl, by rw [HT.out]; simp, rfl⟩
    · have HF : Hid (R = false) := (by
        show _ = _
        rw [HR.out, List.any_eq_false]
        intro d hd
        obtain ⟨j, hj, rfl⟩ := List.getElem_of_mem hd
        have := OK.out j (by have := HN.out; omega)
        simpa [List.getD_eq_getElem?_getD, hj] using this)
      go_wp2_with fail
      go_ret
      exact ⟨_, rfl, by rw [HF.out]; rfl, rfl⟩

set_option maxHeartbeats 1000000 in
theorem cfun_any (L : List Nat) (v : Value) (w : World) (hL : Fls.Reads w v L) (hl : L.length ≤ 100) : Calls Try.prog 38 #[v, .func (.func 22) #[] #[]] w fun e w' => e = .returned (.bool (L.any nan)) ∧ w' = w := by
  have C : Hid (Calls Try.prog 44 #[v, .func (.func 22) #[] #[]] w fun e w' => ∃ k : Int, e = .returned (.int .i64 k) ∧ decide (0 ≤ k) = L.any nan ∧ w' = w) := ifun_any L v w hL hl
  obtain ⟨a, cap, rfl⟩ := hL.form
  clear hL
  generalize L.any nan = R at *
  go_enter Try.func38, Try.ntmps38
  go_wp2_with fail
  refine C.out.mono ?_
  rintro e w1 ⟨k, rfl, hk, hw⟩
  have hw' := hw.symm
  subst hw'
  have HK : Hid (decide (0 ≤ k) = R) := hk
  clear hk
  go_wp2_with fail
  go_ret
  exact ⟨by rw [← HK.out]; rfl, rfl⟩

set_option maxHeartbeats 1000000 in
theorem mpair_any (w : World) : Calls Try.prog 39 #[] w fun e w' => e = .returned (.agg #[.float .f64 qn, .float .f64 qn]) ∧ Below w.heap.size w w' := by
  go_enter Try.func39, Try.ntmps39
  go_wp2_with fail
  refine (Flt.nan_any _).mono ?_
  rintro e w1 ⟨rfl, hw⟩
  subst hw
  go_wp2_with fail
  refine (Flt.nan_any _).mono ?_
  rintro e w2 ⟨rfl, hw⟩
  subst hw
  go_wp2_with fail
  exact bodyPost_ret (v := .agg #[.float .f64 qn, .float .f64 qn]) (by simp [results, Try.results39, go_sem]) rfl ⟨rfl, (Below.refl _ _).alloc (Nat.le_refl _) _⟩

def two : Nat := 4611686018427387904
def gradL (L : List Nat) : Nat × Nat := if L.length < 4 ∨ L.any nan = true then (qn, qn) else (opF .quo (opF .sub (cn (L.getD 1 0)) (cn (L.getD 3 0))) two, opF .quo (opF .sub (cn (L.getD 0 0)) (cn (L.getD 2 0))) two)
theorem cn_two : cn two = two := by decide +kernel
theorem cn_qn : cn qn = qn := by decide +kernel

set_option maxHeartbeats 1000000 in
theorem grad_any (L : List Nat) (v : Value) (w : World) (hL : Fls.Reads w v L) (hl : L.length ≤ 4) : Calls Try.prog 28 #[v] w fun e w' => ∃ x y, e = .returned (.agg #[.float .f64 x, .float .f64 y]) ∧ (cn x, cn y) = gradL L ∧ Below w.heap.size w w' := by
  obtain ⟨w0, hw0⟩ : ∃ w0, w0 = w.alloc (Obj.cells #[.float .f64 0, .float .f64 0] 51) := ⟨_, rfl⟩
  have HW : Hid (w0 = w.alloc (Obj.cells #[.float .f64 0, .float .f64 0] 51)) := hw0
  have B0 : Below w.heap.size w w0 := by rw [hw0]; exact (Below.refl _ _).alloc (Nat.le_refl _) _
  have s0 : w0.heap.size = w.heap.size + 1 := by rw [hw0]; simp
  have c0 : w0.cell? ⟨w.heap.size, 0, none⟩ = some (.float .f64 0) ∧ w0.cell? ⟨w.heap.size, 1, none⟩ = some (.float .f64 0) ∧ w0.frozen? ⟨w.heap.size, 0, none⟩ = false ∧ w0.frozen? ⟨w.heap.size, 1, none⟩ = false := by rw [hw0]; simp [go_sem]
  have CF : Hid (Calls Try.prog 38 #[v, .func (.func 22) #[] #[]] w0 fun e w' => e = .returned (.bool (L.any nan)) ∧ w' = w0) := cfun_any L v w0 (hL.on B0) (by omega)
  have HG : Hid (gradL L = if L.length < 4 ∨ L.any nan = true then (qn, qn) else (opF .quo (opF .sub (cn (L.getD 1 0)) (cn (L.getD 3 0))) two, opF .quo (opF .sub (cn (L.getD 0 0)) (cn (L.getD 2 0))) two)) := rfl
  obtain ⟨G, hG⟩ : ∃ G, G = gradL L := ⟨_, rfl⟩
  rw [← hG] at HG ⊢
  clear hG hw0
  have MP : Hid (∀ w, Calls Try.prog 39 #[] w fun e w' => e = .returned (.agg #[.float .f64 qn, .float .f64 qn]) ∧ Below w.heap.size w w') := fun w => mpair_any w
  by_cases h4 : L.length < 4
  · have HT : Hid (G = (qn, qn)) := (by show _ = _; rw [HG.out, if_pos (Or.inl h4)])
    obtain ⟨a, cap, rfl⟩ := hL.form
    have i4 : (L.length : Int) < 4 := by omega
    clear HG hL CF
    go_enter Try.func28, Try.ntmps28
    go_wp2_with fail
    rw [← HW.out]
    refine (MP.out _).mono ?_
    rintro e w1 ⟨rfl, b1⟩
    have lt : w.heap.size < w0.heap.size := by omega
    have d0 := (b1.cell (p := ⟨w.heap.size, 0, none⟩) lt).trans c0.1
    have d1 := (b1.cell (p := ⟨w.heap.size, 1, none⟩) lt).trans c0.2.1
    have f0 := (World.frozen?_of_block (a := ⟨w.heap.size, 0, none⟩) (b1.block w.heap.size lt)).trans c0.2.2.1
    have f1 := (World.frozen?_of_block (a := ⟨w.heap.size, 1, none⟩) (b1.block w.heap.size lt)).trans c0.2.2.2
    have B1 : Hid (Below w.heap.size w w1) := B0.trans (b1.mono B0.size)
    clear b1 HW c0
    go_wp2_with fail
    exact bodyPost_ret (v := .agg #[.float .f64 qn, .float .f64 qn]) (by simp [results, Try.results28, go_sem, d0, d1]) rfl ⟨qn, qn, rfl, by rw [HT.out, cn_qn], (B1.out.setCell (p := ⟨w.heap.size, 0, none⟩) (Nat.le_refl _) _).setCell (p := ⟨w.heap.size, 1, none⟩) (Nat.le_refl _) _⟩
  · have e4 : L.length = 4 := by omega
    obtain ⟨b, o, hcel, hv⟩ := reads_at hL
    obtain ⟨hb, cap, rfl⟩ := hv (by omega)
    rw [e4] at CF ⊢
    have i4 : ¬ ((4 : Nat) : Int) < 4 := by omega
    cases hA : L.any nan
    · have HT : Hid (G = (opF .quo (opF .sub (cn (L.getD 1 0)) (cn (L.getD 3 0))) two, opF .quo (opF .sub (cn (L.getD 0 0)) (cn (L.getD 2 0))) two)) := (by show _ = _; rw [HG.out, if_neg (by rw [hA]; rintro (h | h); exact h4 h; cases h)])
      rw [hA] at CF
      have q0 := (B0.cell (p := ⟨b, o + 0, none⟩) hb).trans (hcel 0 (by omega))
      have q1 := (B0.cell (p := ⟨b, o + 1, none⟩) hb).trans (hcel 1 (by omega))
      have q2 := (B0.cell (p := ⟨b, o + 2, none⟩) hb).trans (hcel 2 (by omega))
      have q3 := (B0.cell (p := ⟨b, o + 3, none⟩) hb).trans (hcel 3 (by omega))
      rw [Nat.add_zero] at q0
      generalize L.getD 0 0 = v0 at *
      generalize L.getD 1 0 = v1 at *
      generalize L.getD 2 0 = v2 at *
      generalize L.getD 3 0 = v3 at *
      obtain ⟨d0, d1, f0, f1⟩ := c0
      have hS : ∀ x y w, (binOp .sub 37 (.float .f64 x) (.float .f64 y)).run Try.prog w = .ok (.float .f64 (opB .sub x y w)) (w.drewN (opD .sub x y)) := fun x y w => run_op Try.prog .sub arSub 37 x y w
      have hQ : ∀ x y w, (binOp .quo 37 (.float .f64 x) (.float .f64 y)).run Try.prog w = .ok (.float .f64 (opB .quo x y w)) (w.drewN (opD .quo x y)) := fun x y w => run_op Try.prog .quo arQuo 37 x y w
      clear HG hL hcel hv hA e4 h4
      go_enter Try.func28, Try.ntmps28
      go_wp2_with fail
      rw [← HW.out]
      refine CF.out.mono ?_
      rintro e w1 ⟨rfl, hw⟩
      have hw' := hw.symm
      subst hw'
      clear HW
      go_wp2_with fail
      go_quiet (fail)
      go_wp2_with fail
      generalize hX : opB BinOp.quo (opB BinOp.sub v1 v3 (w0.drewN nq)) 4611686018427387904 (w0.drewN (nq + opD BinOp.sub v1 v3)) = X
      generalize hY : opB BinOp.quo (opB BinOp.sub v0 v2 (w0.drewN (nq + opD BinOp.sub v1 v3 + opD BinOp.quo (opB BinOp.sub v1 v3 (w0.drewN nq)) 4611686018427387904))) 4611686018427387904 (w0.drewN (nq + opD BinOp.sub v1 v3 + opD BinOp.quo (opB BinOp.sub v1 v3 (w0.drewN nq)) 4611686018427387904 + opD BinOp.sub v0 v2)) = Y
      have hXY : (cn X, cn Y) = G := by
        rw [HT.out, ← hX, ← hY, cn_op, cn_op, cn_op, cn_op]
        rfl
      exact bodyPost_ret (v := .agg #[.float .f64 X, .float .f64 Y]) (by simp [results, Try.results28, go_sem, d0, d1]) rfl ⟨X, Y, rfl, hXY, ((below_drewN B0 _).setCell (p := ⟨w.heap.size, 0, none⟩) (Nat.le_refl _) _).setCell (p := ⟨w.heap.size, 1, none⟩) (Nat.le_refl _) _⟩
    · have HT : Hid (G = (qn, qn)) := (by show _ = _; rw [HG.out, if_pos (Or.inr hA)])
      rw [hA] at CF
      clear HG hL hcel hv hA e4 h4
      go_enter Try.func28, Try.ntmps28
      go_wp2_with fail
      rw [← HW.out]
      refine CF.out.mono ?_
      rintro e w2 ⟨rfl, hw⟩
      have hw' := hw.symm
      subst hw'
      clear HW
      go_wp2_with fail
      refine (MP.out _).mono ?_
      rintro e w1 ⟨rfl, b1⟩
      have lt : w.heap.size < w0.heap.size := by omega
      have d0 := (b1.cell (p := ⟨w.heap.size, 0, none⟩) lt).trans c0.1
      have d1 := (b1.cell (p := ⟨w.heap.size, 1, none⟩) lt).trans c0.2.1
      have f0 := (World.frozen?_of_block (a := ⟨w.heap.size, 0, none⟩) (b1.block w.heap.size lt)).trans c0.2.2.1
      have f1 := (World.frozen?_of_block (a := ⟨w.heap.size, 1, none⟩) (b1.block w.heap.size lt)).trans c0.2.2.2
      have B1 : Hid (Below w.heap.size w w1) := B0.trans (b1.mono B0.size)
      clear b1 c0
      go_wp2_with fail
      exact bodyPost_ret (v := .agg #[.float .f64 qn, .float .f64 qn]) (by simp [results, Try.results28, go_sem, d0, d1]) rfl ⟨qn, qn, rfl, by rw [HT.out, cn_qn], (B1.out.setCell (p := ⟨w.heap.size, 0, none⟩) (Nat.le_refl _) _).setCell (p := ⟨w.heap.size, 1, none⟩) (Nat.le_refl _) _⟩
end Go.Proofs.Ytplichonohoacaa.Gd
