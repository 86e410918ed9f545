/- The law FnExactConjPair walked. -/
import Derived.Test.YtlibkdamfhlceaaPair
namespace Go.Proofs.Ytlibkdamfhlceaa.Flt
open Go.ChangeShapes Go.WideShapes Go.ChangeAt Go.RowKit
attribute [local go_sem] run_store_float

set_option maxHeartbeats 1000000 in
theorem conjLaw (a b : Nat) (w : World) : Calls Try.prog 8 #[pr a b] w fun e w' => e = .returned (.bool true) ∧ Below w.heap.size w w' := by
  go_enter Try.func8, Try.ntmps8
  go_wp2_with fail
  refine (toPair_any _ _ _).mono ?_
  rintro e w1 ⟨rfl, hb1⟩
  have X1 : Hid (Bx w1 w.heap.size (.float .f64 a) (.float .f64 b)) := (Bx.new w (.float .f64 a) (.float .f64 b) 31).on hb1
  have B1 : Hid (Below w.heap.size w w1) := ((Below.refl _ _).alloc (Nat.le_refl _) _).trans (hb1.mono (by simp))
  clear hb1
  go_wp2_with fail
  refine (sconj_any _ _ _).mono ?_
  rintro e w2 ⟨y2, rfl, hy2, hb2⟩
  have Y2 : Hid (cn y2 = opF .sub 0 (cn b)) := hy2
  have X2 : Hid (Bx w2 w.heap.size (.float .f64 a) (.float .f64 b)) := X1.out.on hb2
  have B2 : Hid (Below w.heap.size w w2) := B1.out.trans (hb2.mono B1.out.size)
  have n2 : w.heap.size ≠ w2.heap.size := (by have := X2.out.2.2.2.2; omega)
  obtain ⟨x0, x1, x2, x3, x4⟩ := X2.out
  clear hy2 hb2 X1
  go_wp2_with fail
  refine (toPair_any _ _ _).mono ?_
  rintro e w3 ⟨rfl, hb3⟩
  have X3 : Hid (Bx w3 w2.heap.size (.float .f64 a) (.float .f64 y2)) := (Bx.new w2 (.float .f64 a) (.float .f64 y2) 32).on hb3
  have B3 : Hid (Below w.heap.size w w3) := (B2.out.alloc B2.out.size _).trans (hb3.mono (B2.out.alloc B2.out.size _).size)
  clear hb3 x0 x1 x2 x3 x4 X2
  go_wp2_with fail
  refine (iconj_any _ _ _).mono ?_
  rintro e w4 ⟨y4, rfl, hy4, hb4⟩
  have Y4 : Hid (cn y4 = opF .sub 0 (cn b)) := hy4
  have X4 : Hid (Bx w4 w2.heap.size (.float .f64 a) (.float .f64 y2)) := X3.out.on hb4
  have B4 : Hid (Below w.heap.size w w4) := B3.out.trans (hb4.mono B3.out.size)
  have n4 : w2.heap.size ≠ w4.heap.size := (by have := X4.out.2.2.2.2; omega)
  obtain ⟨x0, x1, x2, x3, x4⟩ := X4.out
  clear hy4 hb4 X3
  go_wp2_with fail
  refine (eqPair_any _ _ _ _ _ rfl (Y4.out.trans Y2.out.symm)).mono ?_
  rintro e w5 ⟨rfl, hb5⟩
  have B5 : Hid (Below w.heap.size w w5) := (B4.out.alloc B4.out.size _).trans (hb5.mono (B4.out.alloc B4.out.size _).size)
  clear hb5
  go_wp2_with fail
  go_ret
  exact ⟨rfl, B5.out⟩
end Go.Proofs.Ytlibkdamfhlceaa.Flt
