/- Pairs added, multiplied, turned; the program. -/
import Derived.Test.YtgnnmepjdmcecaaWa
import Derived.Test.YtgnnmepjdmcecaaNg
import Derived.Laws.ComplexArith
import Derived.Deep.RegionWith
import Derived.Deep.RegionHeld3
import Derived.Deep.DrawnRows
import Derived.Deep.Cut
import Derived.Deep.DeepCutAuto
import Derived.Deep.DeepMust
namespace Go.Proofs.Ytgnnmepjdmcecaa.Flt
open Go.ChangeShapes Go.WideShapes Go.ChangeAt Go.RowKit
open Go.Proofs.Ytgnnmepjdmcecaa.Wa
attribute [local go_sem] run_store_float
attribute [local go_sem ↓] Go.wp_at_zero Go.wp_at_succ

theorem run_ar (op : BinOp) (hop : Arith op) (x y : Nat) (w : World) : (Op.Complex.arith op .f64 x y).run Try.prog w = .ok (opB op x y w) (w.drewN (opD op x y)) := by
  have := run_op Try.prog op hop 24 x y w
  have e : (binOp op 24 (.float .f64 x) (.float .f64 y)) = Op.floatArith op .f64 x y := by rcases hop with rfl | rfl | rfl | rfl <;> rfl
  rw [e] at this
  simp [Op.Complex.arith, this]
theorem run_cadd (t : TypeId) (a b c d : Nat) (w : World) : (binOp .add t (.complex .f64 a b) (.complex .f64 c d)).run Try.prog w = .ok (.complex .f64 (opB .add a c w) (opB .add b d (w.drewN (opD .add a c)))) ((w.drewN (opD .add a c)).drewN (opD .add b d)) := by
  simp [binOp, Op.complexOp, run_ar .add arAdd]
theorem keep8 {W w' : World} {k : Nat} {a b c d : Value} (hb : Below W.heap.size W w') (hk : k + 1 + 1 < W.heap.size) (h0 : W.cell? ⟨k, 0, none⟩ = some a) (h1 : W.cell? ⟨k, 1, none⟩ = some b) (h2 : W.cell? ⟨k + 1, 0, none⟩ = some c) (h3 : W.cell? ⟨k + 1, 1, none⟩ = some d)
    (h4 : W.cell? ⟨k + 1 + 1, 0, none⟩ = some (.float .f64 0)) (h5 : W.cell? ⟨k + 1 + 1, 1, none⟩ = some (.float .f64 0)) (h6 : W.frozen? ⟨k + 1 + 1, 0, none⟩ = false) (h7 : W.frozen? ⟨k + 1 + 1, 1, none⟩ = false) :
    w'.cell? ⟨k, 0, none⟩ = some a ∧ w'.cell? ⟨k, 1, none⟩ = some b ∧ w'.cell? ⟨k + 1, 0, none⟩ = some c ∧ w'.cell? ⟨k + 1, 1, none⟩ = some d ∧ w'.cell? ⟨k + 1 + 1, 0, none⟩ = some (.float .f64 0) ∧ w'.cell? ⟨k + 1 + 1, 1, none⟩ = some (.float .f64 0) ∧ w'.frozen? ⟨k + 1 + 1, 0, none⟩ = false ∧ w'.frozen? ⟨k + 1 + 1, 1, none⟩ = false ∧ k + 1 + 1 < w'.heap.size := by
  have i1 : k < W.heap.size := by omega
  have i2 : k + 1 < W.heap.size := by omega
  exact ⟨(hb.cell (p := ⟨k, 0, none⟩) i1).trans h0, (hb.cell (p := ⟨k, 1, none⟩) i1).trans h1, (hb.cell (p := ⟨k + 1, 0, none⟩) i2).trans h2, (hb.cell (p := ⟨k + 1, 1, none⟩) i2).trans h3, (hb.cell (p := ⟨k + 1 + 1, 0, none⟩) hk).trans h4, (hb.cell (p := ⟨k + 1 + 1, 1, none⟩) hk).trans h5, (hb.frozen (p := ⟨k + 1 + 1, 0, none⟩) hk).trans h6, (hb.frozen (p := ⟨k + 1 + 1, 1, none⟩) hk).trans h7, Nat.lt_of_lt_of_le hk hb.size⟩


set_option maxHeartbeats 1000000 in
theorem iconj_any (a b : Nat) (w : World) : Calls Try.prog 11 #[pr a b] w fun e w' => ∃ x y, e = .returned (pr x y) ∧ cn x = cn a ∧ cn y = opF .sub 0 (cn b) ∧ Below w.heap.size w w' := by
  have hn1 : w.heap.size ≠ w.heap.size + 1 := by omega
  have hn2 : w.heap.size + 1 ≠ w.heap.size := by omega
  have hS : ∀ w, (binOp .sub 27 (.float .f64 0) (.float .f64 b)).run Try.prog w = .ok (.float .f64 (opB .sub 0 b w)) (w.drewN (opD .sub 0 b)) := fun w => run_op Try.prog .sub arSub 24 0 b w
  have c00 : cn 0 = 0 := rfl
  obtain ⟨w0, hw0⟩ : ∃ w0, w0 = (w.alloc (.cells #[.float .f64 a, .float .f64 b] 29)).alloc (.cells #[.float .f64 0, .float .f64 0] 29) := ⟨_, rfl⟩
  have HW0 : Hid (w0 = (w.alloc (.cells #[.float .f64 a, .float .f64 b] 29)).alloc (.cells #[.float .f64 0, .float .f64 0] 29)) := hw0
  have B0 : Hid (Below w.heap.size w w0) := (by show Below _ _ _; rw [hw0]; exact ((Below.refl _ _).alloc (Nat.le_refl _) _).alloc (by simp) _)
  have X0 : Hid (Bx w0 (w.heap.size + 1) (.float .f64 0) (.float .f64 0)) := (by show Bx _ _ _ _; rw [hw0]; have := Bx.new (w.alloc (.cells #[.float .f64 a, .float .f64 b] 29)) (.float .f64 0) (.float .f64 0) 29; simpa using this)
  have k0 : w0.cell? ⟨w.heap.size, 0, none⟩ = some (.float .f64 a) := by rw [hw0]; simp [go_sem]
  have k1 : w0.cell? ⟨w.heap.size, 1, none⟩ = some (.float .f64 b) := by rw [hw0]; simp [go_sem]
  clear hw0
  go_enter Try.func11, Try.ntmps11
  go_wp2_with fail
  rw [← HW0.out]
  refine (icx _ _ _).mono ?_
  rintro e w1 ⟨rfl, hb1⟩
  have X1 : Hid (Bx w1 (w.heap.size + 1) (.float .f64 0) (.float .f64 0)) := X0.out.on hb1
  have B1 : Hid (Below w.heap.size w w1) := B0.out.trans (hb1.mono B0.out.size)
  clear hb1 k0 k1
  go_wp2_with fail
  refine (pairOf_any _ _ _).mono ?_
  rintro e w2 ⟨rfl, hb2⟩
  have X2 := (X1.out.drewN (opD .sub 0 b)).on hb2
  have B2 : Hid (Below w.heap.size w w2) := (below_drewN B1.out (opD .sub 0 b)).trans (hb2.mono B1.out.size)
  obtain ⟨c0, c1, f0, f1, _⟩ := X2
  have HC : Hid (cn (opB .sub 0 b w1) = opF .sub 0 (cn b)) := (by show _ = _; rw [cn_op, c00])
  clear hb2
  generalize opB .sub 0 b w1 = y at *
  go_wp2_with fail
  refine bodyPost_ret (v := pr a y) (by simp [results, Try.results11, go_sem, c0, c1]) rfl ⟨a, y, rfl, rfl, HC.out, ?_⟩
  exact (B2.out.setCell (p := ⟨w.heap.size + 1, 0, none⟩) (Nat.le_succ _) _).setCell (p := ⟨w.heap.size + 1, 1, none⟩) (Nat.le_succ _) _
set_option maxHeartbeats 1000000 in
theorem equal_any (a b c d : Nat) (h1 : (ord a c == some .eq) = true) (h2 : (ord b d == some .eq) = true) (w : World) : Calls Try.prog 10 #[pr a b, pr c d] w fun e w' => e = .returned (.bool true) ∧ Below w.heap.size w w' := by
  have BB : Hid (Below w.heap.size w ((w.alloc (.cells #[.float .f64 a, .float .f64 b] 29)).alloc (.cells #[.float .f64 c, .float .f64 d] 29))) := ((Below.refl _ _).alloc (Nat.le_refl _) _).alloc (by simp) _
  go_enter Try.func10, Try.ntmps10
  go_wp2_with fail
  go_ret
  exact ⟨rfl, BB.out⟩

end Go.Proofs.Ytgnnmepjdmcecaa.Flt
