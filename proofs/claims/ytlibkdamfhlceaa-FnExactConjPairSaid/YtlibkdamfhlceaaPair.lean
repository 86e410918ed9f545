/- Pairs: taken over, turned into complex numbers and back, multiplied, turned over, held against each other. -/
import Derived.Test.YtlibkdamfhlceaaVapL
namespace Go.Proofs.Ytlibkdamfhlceaa.Flt
open Go.ChangeShapes Go.WideShapes Go.ChangeAt Go.RowKit
attribute [local go_sem] run_store_float

abbrev pr (a b : Nat) : Value := .agg #[.float .f64 a, .float .f64 b]

set_option maxHeartbeats 400000 in
theorem toPair_any (a b : Nat) (w : World) : Calls Try.prog 19 #[pr a b] w fun e w' => e = .returned (pr a b) ∧ Below w.heap.size w w' := by
  go_enter Try.func19, Try.ntmps19
  go_wp2
  refine bodyPost_ret (v := pr a b) (by simp [results, Try.results19, go_sem]) rfl ⟨rfl, ?_⟩
  exact (((Below.refl _ _).alloc (Nat.le_refl _) _).alloc (by simp) _).alloc (by simp; omega) _

set_option maxHeartbeats 400000 in
theorem complexOf_any (a b : Nat) (w : World) : Calls Try.prog 33 #[pr a b] w fun e w' => e = .returned (.complex .f64 a b) ∧ Below w.heap.size w w' := by
  go_enter Try.func33, Try.ntmps33
  go_wp2
  go_ret
  exact ⟨rfl, (Below.refl _ _).alloc (Nat.le_refl _) _⟩

set_option maxHeartbeats 400000 in
theorem pairOf_any (a b : Nat) (w : World) : Calls Try.prog 31 #[.complex .f64 a b] w fun e w' => e = .returned (pr a b) ∧ Below w.heap.size w w' := by
  go_enter Try.func31, Try.ntmps31
  go_wp2
  refine bodyPost_ret (v := pr a b) (by simp [results, Try.results31, go_sem]) rfl ⟨rfl, ?_⟩
  exact (Below.refl _ _).alloc (Nat.le_refl _) _

def mRe (a b c d : Nat) : Nat := opF .sub (opF .mul a c) (opF .mul b d)
def mIm (a b c d : Nat) : Nat := opF .add (opF .mul a d) (opF .mul b c)

set_option maxHeartbeats 1000000 in
theorem product_any (a b c d : Nat) (w : World) : Calls Try.prog 32 #[.complex .f64 a b, .complex .f64 c d] w fun e w' => ∃ x y, e = .returned (.complex .f64 x y) ∧ cn x = mRe (cn a) (cn b) (cn c) (cn d) ∧ cn y = mIm (cn a) (cn b) (cn c) (cn d) ∧ Below w.heap.size w w' := by
  have ha : ∀ x y w, (binOp .add 22 (.float .f64 x) (.float .f64 y)).run Try.prog w = .ok (.float .f64 (opB .add x y w)) (w.drewN (opD .add x y)) := fun x y w => run_op Try.prog .add arAdd 22 x y w
  have hs : ∀ x y w, (binOp .sub 22 (.float .f64 x) (.float .f64 y)).run Try.prog w = .ok (.float .f64 (opB .sub x y w)) (w.drewN (opD .sub x y)) := fun x y w => run_op Try.prog .sub arSub 22 x y w
  have hm : ∀ x y w, (binOp .mul 22 (.float .f64 x) (.float .f64 y)).run Try.prog w = .ok (.float .f64 (opB .mul x y w)) (w.drewN (opD .mul x y)) := fun x y w => run_op Try.prog .mul arMul 22 x y w
  go_enter Try.func32, Try.ntmps32
  go_wp2
  go_ret
  exact ⟨_, _, rfl, by rw [cn_op, cn_op, cn_op]; rfl, by rw [cn_op, cn_op, cn_op]; rfl, below_drewN (Below.refl _ _) _⟩

set_option maxHeartbeats 1000000 in
theorem smul_any (a b c d : Nat) (w : World) : Calls Try.prog 18 #[pr a b, pr c d] w fun e w' => ∃ x y, e = .returned (pr x y) ∧ cn x = mRe (cn a) (cn b) (cn c) (cn d) ∧ cn y = mIm (cn a) (cn b) (cn c) (cn d) ∧ Below w.heap.size w w' := by
  have ha : ∀ x y w, (binOp .add 22 (.float .f64 x) (.float .f64 y)).run Try.prog w = .ok (.float .f64 (opB .add x y w)) (w.drewN (opD .add x y)) := fun x y w => run_op Try.prog .add arAdd 22 x y w
  have hs : ∀ x y w, (binOp .sub 22 (.float .f64 x) (.float .f64 y)).run Try.prog w = .ok (.float .f64 (opB .sub x y w)) (w.drewN (opD .sub x y)) := fun x y w => run_op Try.prog .sub arSub 22 x y w
  have hm : ∀ x y w, (binOp .mul 22 (.float .f64 x) (.float .f64 y)).run Try.prog w = .ok (.float .f64 (opB .mul x y w)) (w.drewN (opD .mul x y)) := fun x y w => run_op Try.prog .mul arMul 22 x y w
  go_enter Try.func18, Try.ntmps18
  go_wp2
  generalize hx : opB .sub _ _ _ = x
  generalize hy : opB .add _ _ _ = y
  refine bodyPost_ret (v := pr x y) (by simp [results, Try.results18, go_sem]) rfl ⟨x, y, rfl, by rw [← hx, cn_op, cn_op, cn_op]; rfl, by rw [← hy, cn_op, cn_op, cn_op]; rfl, ?_⟩
  exact ((below_drewN ((((Below.refl _ _).alloc (Nat.le_refl _) _).alloc (by simp) _).alloc (by simp; omega) _) _).setCell (by show w.heap.size ≤ w.heap.size + 1 + 1; omega) _).setCell (by show w.heap.size ≤ w.heap.size + 1 + 1; omega) _

set_option maxHeartbeats 1000000 in
theorem sconj_any (a b : Nat) (w : World) : Calls Try.prog 22 #[pr a b] w fun e w' => ∃ y, e = .returned (pr a y) ∧ cn y = opF .sub 0 (cn b) ∧ Below w.heap.size w w' := by
  have hs : ∀ x y w, (binOp .sub 22 (.float .f64 x) (.float .f64 y)).run Try.prog w = .ok (.float .f64 (opB .sub x y w)) (w.drewN (opD .sub x y)) := fun x y w => run_op Try.prog .sub arSub 22 x y w
  go_enter Try.func22, Try.ntmps22
  go_wp2
  generalize hy : opB .sub _ _ _ = y
  refine bodyPost_ret (v := pr a y) (by simp [results, Try.results22, go_sem]) rfl ⟨y, rfl, by rw [← hy, cn_op]; rfl, ?_⟩
  exact ((below_drewN (((Below.refl _ _).alloc (Nat.le_refl _) _).alloc (by simp) _) _).setCell (by show w.heap.size ≤ w.heap.size + 1; omega) _).setCell (by show w.heap.size ≤ w.heap.size + 1; omega) _

/-- A block with two cells that may be written. -/
def Bx (w : World) (k : Nat) (x y : Value) : Prop := w.cell? ⟨k, 0, none⟩ = some x ∧ w.cell? ⟨k, 1, none⟩ = some y ∧ w.frozen? ⟨k, 0, none⟩ = false ∧ w.frozen? ⟨k, 1, none⟩ = false ∧ k < w.heap.size
theorem Bx.below {w w' : World} {k B : Nat} {x y : Value} (h : Bx w k x y) (hb : Below B w w') (hB : k < B) : Bx w' k x y :=
  ⟨(hb.cell (p := ⟨k, 0, none⟩) hB).trans h.1, (hb.cell (p := ⟨k, 1, none⟩) hB).trans h.2.1, (hb.frozen (p := ⟨k, 0, none⟩) hB).trans h.2.2.1, (hb.frozen (p := ⟨k, 1, none⟩) hB).trans h.2.2.2.1, Nat.lt_of_lt_of_le h.2.2.2.2 hb.size⟩
theorem Bx.on {w w' : World} {k : Nat} {x y : Value} (h : Bx w k x y) (hb : Below w.heap.size w w') : Bx w' k x y := h.below hb h.2.2.2.2
theorem Bx.drewN {w : World} {k : Nat} {x y : Value} (h : Bx w k x y) (n : Nat) : Bx (w.drewN n) k x y := h.on (below_drewN (Below.refl _ _) n)
theorem Bx.alloc {w : World} {k : Nat} {x y : Value} (h : Bx w k x y) (o : Obj) : Bx (w.alloc o) k x y := h.on ((Below.refl _ _).alloc (Nat.le_refl _) o)
theorem Bx.new (w : World) (x y : Value) (t : TypeId) : Bx (w.alloc (.cells #[x, y] t)) w.heap.size x y := by
  refine ⟨?_, ?_, ?_, ?_, ?_⟩ <;> simp [go_sem]

set_option maxHeartbeats 1000000 in
theorem eqPair_any (a b c d : Nat) (w : World) (h1 : cn a = cn c) (h2 : cn b = cn d) : Calls Try.prog 21 #[pr a b, pr c d] w fun e w' => e = .returned (.bool true) ∧ Below w.heap.size w w' := by
  have H1 : Hid (cn a = cn c) := h1
  have H2 : Hid (cn b = cn d) := h2
  clear h1 h2
  go_enter Try.func21, Try.ntmps21
  go_wp2_with fail
  refine (sf_cn _ _ _ H1.out).mono ?_
  rintro e w1 ⟨rfl, rfl⟩
  go_wp2_with fail
  refine (sf_cn _ _ _ H2.out).mono ?_
  rintro e w1 ⟨rfl, rfl⟩
  go_wp2_with fail
  go_ret
  exact ⟨rfl, ((Below.refl _ _).alloc (Nat.le_refl _) _).alloc (by simp) _⟩

set_option maxHeartbeats 1000000 in
theorem iconj_any (a b : Nat) (w : World) : Calls Try.prog 23 #[pr a b] w fun e w' => ∃ y, e = .returned (pr a y) ∧ cn y = opF .sub 0 (cn b) ∧ Below w.heap.size w w' := by
  have hs : ∀ x y w, (binOp .sub 22 (.float .f64 x) (.float .f64 y)).run Try.prog w = .ok (.float .f64 (opB .sub x y w)) (w.drewN (opD .sub x y)) := fun x y w => run_op Try.prog .sub arSub 22 x y w
  go_enter Try.func23, Try.ntmps23
  go_wp2_with fail
  refine (complexOf_any _ _ _).mono ?_
  rintro e w1 ⟨rfl, hb1⟩
  have X1 : Hid (Bx w1 (w.heap.size + 1) (.float .f64 0) (.float .f64 0)) := (by show Bx w1 (w.heap.size + 1) (.float .f64 0) (.float .f64 0); have := (Bx.new (w.alloc (.cells #[.float .f64 a, .float .f64 b] 32)) (.float .f64 0) (.float .f64 0) 32).on hb1; simpa using this)
  have B1 : Hid (Below w.heap.size w w1) := (((Below.refl _ _).alloc (Nat.le_refl _) _).alloc (by simp) _).trans (hb1.mono (by simp; omega))
  clear hb1
  go_wp2_with fail
  generalize hy : opB .sub _ _ _ = y
  refine (pairOf_any _ _ _).mono ?_
  rintro e w2 ⟨rfl, hb2⟩
  have HY : Hid (cn y = opF .sub 0 (cn b)) := (by show cn y = opF .sub 0 (cn b); rw [← hy, cn_op]; rfl)
  obtain ⟨c0, c1, f0, f1, z2⟩ := (X1.out.drewN _).on hb2
  have B2 : Hid (Below w.heap.size w w2) := (below_drewN B1.out _).trans (hb2.mono (below_drewN B1.out _).size)
  clear hb2 hy
  go_wp2_with fail
  refine bodyPost_ret (v := pr a y) (by simp [results, Try.results23, go_sem, c0, c1]) rfl ⟨y, rfl, HY.out, ?_⟩
  exact (B2.out.setCell (by show w.heap.size ≤ w.heap.size + 1; omega) _).setCell (by show w.heap.size ≤ w.heap.size + 1; omega) _
end Go.Proofs.Ytlibkdamfhlceaa.Flt
