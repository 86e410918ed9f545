/- The law FnExactTurn walked; pairs held against each other. -/
import Derived.Test.YtmnpjfikilmknaaTrn
namespace Go.Proofs.Ytmnpjfikilmknaa.Flt
open Go.ChangeShapes Go.WideShapes Go.ChangeAt Go.RowKit
attribute [local go_sem] run_store_float

set_option maxHeartbeats 1000000 in
theorem eqPair_any (a b c d : Nat) (w : World) (h1 : cn a = cn c) (h2 : cn b = cn d) : Calls Try.prog 7 #[pr a b, pr c d] w fun e w' => e = .returned (.bool true) ∧ Below w.heap.size w w' := by
  have H1 : Hid (cn a = cn c) := h1
  have H2 : Hid (cn b = cn d) := h2
  clear h1 h2
  go_enter Try.func7, Try.ntmps7
  go_wp2_with fail
  refine (sf_cn _ _ _ H1.out).mono ?_
  rintro e w1 ⟨rfl, rfl⟩
  go_wp2_with fail
  refine (sf_cn _ _ _ H2.out).mono ?_
  rintro e w1 ⟨rfl, rfl⟩
  go_wp2_with fail
  go_ret
  exact ⟨rfl, ((Below.refl _ _).alloc (Nat.le_refl _) _).alloc (by simp) _⟩

set_option maxHeartbeats 1000000 in
theorem iTurn (k : Int) (w : World) : Calls Try.prog 6 #[.int .i64 k] w fun e w' => ∃ a b, e = .returned (pr a b) ∧ cn a = sine ((k + 9) % 36) ∧ cn b = sine (k % 36) ∧ Below w.heap.size w w' := by
  go_enter Try.func6, Try.ntmps6
  go_wp2_with fail
  refine (iturn _ _).mono ?_
  rintro e w1 ⟨x, y, rfl, hx, hy, hb1⟩
  have HX : Hid (cn x = sine ((k + 9) % 36) ∧ cn y = sine (k % 36)) := ⟨hx, hy⟩
  have X1 : Hid (Bx w1 w.heap.size (.float .f64 0) (.float .f64 0)) := (Bx.new w (.float .f64 0) (.float .f64 0) 24).on hb1
  have B1 : Hid (Below w.heap.size w w1) := ((Below.refl _ _).alloc (Nat.le_refl _) _).trans (hb1.mono (by simp))
  clear hx hy hb1
  go_wp2_with fail
  refine (pairOf_any _ _ _).mono ?_
  rintro e w2 ⟨rfl, hb2⟩
  obtain ⟨c0, c1, f0, f1, z2⟩ := X1.out.on hb2
  have B2 : Hid (Below w.heap.size w w2) := B1.out.trans (hb2.mono B1.out.size)
  clear hb2
  go_wp2_with fail
  refine bodyPost_ret (v := pr x y) (by simp [results, Try.results6, go_sem, c0, c1]) rfl ⟨x, y, rfl, HX.out.1, HX.out.2, ?_⟩
  exact (B2.out.setCell (Nat.le_refl _) _).setCell (Nat.le_refl _) _

set_option maxHeartbeats 1000000 in
theorem turnLaw (k : Int) (w : World) : Calls Try.prog 3 #[.int .i64 k] w fun e w' => e = .returned (.bool true) ∧ Below w.heap.size w w' := by
  go_enter Try.func3, Try.ntmps3
  go_wp2_with fail
  refine (sturn _ _).mono ?_
  rintro e w1 ⟨a, b, rfl, ha, hb, bel1⟩
  have HA : Hid (cn a = sine ((k + 9) % 36) ∧ cn b = sine (k % 36)) := ⟨ha, hb⟩
  have B1 : Hid (Below w.heap.size w w1) := bel1
  clear ha hb bel1
  go_wp2_with fail
  refine (iTurn _ _).mono ?_
  rintro e w2 ⟨c, d, rfl, hc, hd, bel2⟩
  have HC : Hid (cn c = sine ((k + 9) % 36) ∧ cn d = sine (k % 36)) := ⟨hc, hd⟩
  have X2 : Hid (Bx w2 w1.heap.size (.float .f64 a) (.float .f64 b)) := (Bx.new w1 (.float .f64 a) (.float .f64 b) 24).on bel2
  have B2 : Hid (Below w.heap.size w w2) := (B1.out.alloc B1.out.size _).trans (bel2.mono (B1.out.alloc B1.out.size _).size)
  have n2 : w1.heap.size ≠ w2.heap.size := (by have := X2.out.2.2.2.2; omega)
  obtain ⟨x0, x1, x2, x3, x4⟩ := X2.out
  clear hc hd bel2
  go_wp2_with fail
  refine (eqPair_any _ _ _ _ _ (HC.out.1.trans HA.out.1.symm) (HC.out.2.trans HA.out.2.symm)).mono ?_
  rintro e w5 ⟨rfl, hb5⟩
  have B5 : Hid (Below w.heap.size w w5) := (B2.out.alloc B2.out.size _).trans (hb5.mono (B2.out.alloc B2.out.size _).size)
  clear hb5
  go_wp2_with fail
  go_ret
  exact ⟨rfl, B5.out⟩
end Go.Proofs.Ytmnpjfikilmknaa.Flt
