/- At: the model. -/
import Derived.Test.YtknkmkhnakcjiaaAtD
namespace Go.Proofs.Ytknkmkhnakcjiaa.Gd
open Go.ChangeShapes Go.WideShapes Go.ChangeAt Go.RowKit
open Go.Proofs.Ytknkmkhnakcjiaa.Flt

set_option maxRecDepth 20000 in
set_option maxHeartbeats 2000000 in
theorem iat_no (r c s ws st : Int) (a : Option Addr) (n cap : Nat) (lat lon : Int) (w : World) (h : okAt r c s ws st n lat lon = false) :
    Calls Try.prog 7 #[gv r c s ws st, .slice a n cap, .int .i64 lat, .int .i64 lon] w fun e w' => ∃ x, e = .returned (.float .f64 x) ∧ cn x = qn ∧ Below w.heap.size w w' := by
  obtain ⟨w0, hw0⟩ : ∃ w0, w0 = w.alloc (Obj.cells #[.int .i64 r, .int .i64 c, .int .i64 s, .int .i64 ws, .int .i64 st] 25) := ⟨_, rfl⟩
  have HW : Hid (w0 = w.alloc (Obj.cells #[.int .i64 r, .int .i64 c, .int .i64 s, .int .i64 ws, .int .i64 st] 25)) := hw0
  have B0 : Hid (Below w.heap.size w w0) := (by show Below _ _ _; rw [hw0]; exact (Below.refl _ _).alloc (Nat.le_refl _) _)
  have s0 : w0.heap.size = w.heap.size + 1 := by rw [hw0]; simp
  have G0 : Hid (Gx w0 w.heap.size r c s ws st) := (by show Gx _ _ _ _ _ _ _; rw [hw0]; unfold Gx; simp [go_sem])
  have RI : Hid (Calls Try.prog 13 #[gv r c s ws st, .slice a n cap] w0 fun e w' => e = .returned (.bool (right r c s ws st n)) ∧ Below w0.heap.size w0 w') := ifield_any r c s ws st a n cap w0
  have IN : Hid (∀ (n a b : Int) (w : World), Calls Try.prog 14 #[.int .i64 n, .int .i64 a, .int .i64 b] w fun e w' => e = .returned (.bool (inn n a b)) ∧ w' = w) := fun n a b w => i_in n a b w
  clear hw0
  unfold okAt at h
  cases hr : right r c s ws st n
  · rw [hr] at RI
    clear h hr
    go_enter Try.func7, Try.ntmps7
    go_wp2_with fail
    rw [← HW.out]
    refine RI.out.mono ?_
    rintro e w1 ⟨rfl, b1⟩
    have B1 : Hid (Below w.heap.size w w1) := B0.out.trans (b1.mono B0.out.size)
    clear b1 HW
    go_wp2_with fail
    refine (Flt.nan_any _).mono ?_
    rintro e w9 ⟨rfl, hw9⟩
    have B9 : Hid (Below w.heap.size w w9) := (by show Below _ _ _; rw [hw9]; exact B1.out)
    clear hw9
    go_wp2_with fail
    go_ret
    exact ⟨qn, rfl, by decide +kernel, B9.out⟩
  rw [hr, Bool.true_and] at h
  rw [hr] at RI
  have hg : gok r c s ws st = true := by unfold right at hr; rw [Bool.and_eq_true] at hr; exact hr.1
  obtain ⟨h1, h2, h3, h4, h5⟩ := gok_parts hg
  have m1 := prod_le h1 h3
  have m2 := prod_le h2 h3
  obtain ⟨q1, hq1⟩ : ∃ q, q = (r - 1) * st := ⟨_, rfl⟩
  obtain ⟨q2, hq2⟩ : ∃ q, q = (c - 1) * st := ⟨_, rfl⟩
  have j1 : wrap64 ((r - 1) * st) = q1 := by rw [hq1]; exact IntWalk.wrap64_in _ (by omega)
  have j2 : wrap64 ((c - 1) * st) = q2 := by rw [hq2]; exact IntWalk.wrap64_in _ (by omega)
  rw [← hq1] at m1 h
  rw [← hq2] at m2 h
  clear hq1 hq2 hg hr
  cases hl : inn lat s (s + q1)
  · have I1 : Hid (∀ w, Calls Try.prog 14 #[.int .i64 lat, .int .i64 s, .int .i64 (s + q1)] w fun e w' => e = .returned (.bool false) ∧ w' = w) := fun w => by have := IN.out lat s (s + q1) w; rwa [hl] at this
    clear h hl IN
    go_enter Try.func7, Try.ntmps7
    go_wp2_with fail
    rw [← HW.out]
    refine RI.out.mono ?_
    rintro e w1 ⟨rfl, b1⟩
    have B1 : Hid (Below w.heap.size w w1) := B0.out.trans (b1.mono B0.out.size)
    obtain ⟨g0, g1, g2, g3, g4⟩ := G0.out.on b1 (by omega)
    clear b1 HW
    go_wp2_with fail
    refine (I1.out _).mono ?_
    rintro e w2 ⟨rfl, hw⟩
    have hw' := hw.symm
    subst hw'
    go_wp2_with fail
    refine (Flt.nan_any _).mono ?_
    rintro e w9 ⟨rfl, hw9⟩
    have B9 : Hid (Below w.heap.size w w9) := (by show Below _ _ _; rw [hw9]; exact B1.out)
    clear hw9
    go_wp2_with fail
    go_ret
    exact ⟨qn, rfl, by decide +kernel, B9.out⟩
  rw [hl, Bool.true_and] at h
  have I1 : Hid (∀ w, Calls Try.prog 14 #[.int .i64 lat, .int .i64 s, .int .i64 (s + q1)] w fun e w' => e = .returned (.bool true) ∧ w' = w) := fun w => by have := IN.out lat s (s + q1) w; rwa [hl] at this
  have I2 : Hid (∀ w, Calls Try.prog 14 #[.int .i64 lon, .int .i64 ws, .int .i64 (ws + q2)] w fun e w' => e = .returned (.bool false) ∧ w' = w) := fun w => by have := IN.out lon ws (ws + q2) w; rwa [h] at this
  · clear h hl IN
    go_enter Try.func7, Try.ntmps7
    go_wp2_with fail
    rw [← HW.out]
    refine RI.out.mono ?_
    rintro e w1 ⟨rfl, b1⟩
    have B1 : Hid (Below w.heap.size w w1) := B0.out.trans (b1.mono B0.out.size)
    obtain ⟨g0, g1, g2, g3, g4⟩ := G0.out.on b1 (by omega)
    clear b1 HW
    go_wp2_with fail
    refine (I1.out _).mono ?_
    rintro e w2 ⟨rfl, hw⟩
    have hw' := hw.symm
    subst hw'
    go_wp2_with fail
    refine (I2.out _).mono ?_
    rintro e w3 ⟨rfl, hw⟩
    have hw2 := hw.symm
    subst hw2
    go_wp2_with fail
    refine (Flt.nan_any _).mono ?_
    rintro e w9 ⟨rfl, hw9⟩
    have B9 : Hid (Below w.heap.size w w9) := (by show Below _ _ _; rw [hw9]; exact B1.out)
    clear hw9
    go_wp2_with fail
    go_ret
    exact ⟨qn, rfl, by decide +kernel, B9.out⟩

end Go.Proofs.Ytknkmkhnakcjiaa.Gd
