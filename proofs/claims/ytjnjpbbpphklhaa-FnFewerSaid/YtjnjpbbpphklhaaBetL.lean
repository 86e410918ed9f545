/- The law FnExactBetween walked. -/
import Derived.Test.YtjnjpbbpphklhaaBet
namespace Go.Proofs.Ytjnjpbbpphklhaa.Flt
open Go.ChangeShapes Go.WideShapes Go.ChangeAt Go.RowKit
attribute [local go_sem] run_store_float

/-- A block with two cells that may be written. -/
def Bx (w : World) (k : Nat) (x y : Value) : Prop := w.cell? ⟨k, 0, none⟩ = some x ∧ w.cell? ⟨k, 1, none⟩ = some y ∧ w.frozen? ⟨k, 0, none⟩ = false ∧ w.frozen? ⟨k, 1, none⟩ = false ∧ k < w.heap.size
theorem Bx.below {w w' : World} {k B : Nat} {x y : Value} (h : Bx w k x y) (hb : Below B w w') (hB : k < B) : Bx w' k x y :=
  ⟨(hb.cell (p := ⟨k, 0, none⟩) hB).trans h.1, (hb.cell (p := ⟨k, 1, none⟩) hB).trans h.2.1, (hb.frozen (p := ⟨k, 0, none⟩) hB).trans h.2.2.1, (hb.frozen (p := ⟨k, 1, none⟩) hB).trans h.2.2.2.1, Nat.lt_of_lt_of_le h.2.2.2.2 hb.size⟩
theorem Bx.on {w w' : World} {k : Nat} {x y : Value} (h : Bx w k x y) (hb : Below w.heap.size w w') : Bx w' k x y := h.below hb h.2.2.2.2
theorem Bx.drewN {w : World} {k : Nat} {x y : Value} (h : Bx w k x y) (n : Nat) : Bx (w.drewN n) k x y := h.on (below_drewN (Below.refl _ _) n)
theorem Bx.alloc {w : World} {k : Nat} {x y : Value} (h : Bx w k x y) (o : Obj) : Bx (w.alloc o) k x y := h.on ((Below.refl _ _).alloc (Nat.le_refl _) o)
theorem Bx.new (w : World) (x y : Value) (t : TypeId) : Bx (w.alloc (.cells #[x, y] t)) w.heap.size x y := by
  refine ⟨?_, ?_, ?_, ?_, ?_⟩ <;> simp [go_sem]

end Go.Proofs.Ytjnjpbbpphklhaa.Flt
