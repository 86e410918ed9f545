/- One sky laid over another: the model and the program. -/
import Derived.Test.YtoaabdmbgemkjaaGreatDoorSk
import Derived.OneCell
import Derived.Deep.DeepCutAuto
import Derived.Deep.Cut
namespace Go.Proofs.YtoaabdmbgemkjaaGreatDoor.Sk
open Go.ChangeShapes Go.WideShapes Go.ChangeAt Go.RowKit
open Go.Proofs.YtoaabdmbgemkjaaGreatDoor.Al

def pkI (h : Bool) (a b : Int) : Int := if h then a else b
def pkS (h : Bool) (a b : ByteArray) : ByteArray := if h then a else b
abbrev E : ByteArray := ⟨#[]⟩
abbrev Sky := Int × Int × Int × ByteArray × ByteArray × Int
abbrev sv (s : Sky) : Value := sk s.1 s.2.1 s.2.2.1 s.2.2.2.1 s.2.2.2.2.1 s.2.2.2.2.2
abbrev okk (s : Sky) : Bool := ok s.1 s.2.1 s.2.2.1 s.2.2.2.1 s.2.2.2.2.1 s.2.2.2.2.2
def lay (a b : Sky) : Sky :=
  (pkI (b.1 == -1) a.1 b.1, pkI (b.1 == -1) a.2.1 b.2.1, pkI (b.2.2.1 == -1) a.2.2.1 b.2.2.1, pkS (b.2.2.2.1.toList == []) a.2.2.2.1 b.2.2.2.1, pkS (b.2.2.2.2.1.toList == []) a.2.2.2.2.1 b.2.2.2.2.1, pkI (b.2.2.2.2.1.toList == []) a.2.2.2.2.2 b.2.2.2.2.2)
def laid (a b : Sky) : Sky := if (okk a && okk b) = true then lay a b else (0, 0, 0, E, E, 0)
/-- a sky's block -/
def SB (w : World) (r : Nat) (d p v : Int) (W C : ByteArray) (b : Int) : Prop := w.heap[r]? = some (.cells #[.int .i64 d, .int .i64 p, .int .i64 v, .string W, .string C, .int .i64 b] 32 (0, 0))
theorem SB.lt {w : World} {r : Nat} {d p v : Int} {W C : ByteArray} {b : Int} (h : SB w r d p v W C b) : r < w.heap.size := lt_of_block h
theorem SB.cells {w : World} {r : Nat} {d p v : Int} {W C : ByteArray} {b : Int} (h : SB w r d p v W C b) : w.cell? ⟨r, 0, none⟩ = some (.int .i64 d) ∧ w.cell? ⟨r, 1, none⟩ = some (.int .i64 p) ∧ w.cell? ⟨r, 2, none⟩ = some (.int .i64 v) ∧ w.cell? ⟨r, 3, none⟩ = some (.string W) ∧ w.cell? ⟨r, 4, none⟩ = some (.string C) ∧ w.cell? ⟨r, 5, none⟩ = some (.int .i64 b) ∧ ∀ o, w.frozen? ⟨r, o, none⟩ = false := by
  unfold SB at h
  simp [World.cell?, World.frozen?, h]
theorem SB.on {w : World} {r : Nat} {d p v : Int} {W C : ByteArray} {b : Int} {w' : World} {B : Nat} (h : SB w r d p v W C b) (hb : Below B w w') (hr : r < B) : SB w' r d p v W C b := (hb.block r hr).trans h
theorem SB.new (w : World) (d p v : Int) (W C : ByteArray) (b : Int) : SB (w.alloc (.cells #[.int .i64 d, .int .i64 p, .int .i64 v, .string W, .string C, .int .i64 b] 32)) w.heap.size d p v W C b := heap_alloc_new w _
theorem SB.keep {w : World} {r : Nat} {d p v : Int} {W C : ByteArray} {b : Int} (h : SB w r d p v W C b) {r' : Nat} (hne : r ≠ r') (o : Nat) (x : Value) : SB (w.setCell ⟨r', o, none⟩ x) r d p v W C b := (Below.heap_setCell w ⟨r', o, none⟩ x r hne).trans h
theorem SB.s0 {w : World} {r : Nat} {d p v : Int} {W C : ByteArray} {b : Int} (h : SB w r d p v W C b) (x : Int) : SB (w.setCell ⟨r, 0, none⟩ (.int .i64 x)) r x p v W C b := by
  have hlt := h.lt
  unfold SB at h ⊢
  have h' : w.heap[r] = .cells #[.int .i64 d, .int .i64 p, .int .i64 v, .string W, .string C, .int .i64 b] 32 (0, 0) := by simpa [Array.getElem?_eq_getElem hlt] using h
  show (w.heap.modify r _)[r]? = _
  rw [Array.getElem?_eq_getElem (by simpa using hlt), Array.getElem_modify_self, h']
  rfl
theorem SB.s1 {w : World} {r : Nat} {d p v : Int} {W C : ByteArray} {b : Int} (h : SB w r d p v W C b) (x : Int) : SB (w.setCell ⟨r, 1, none⟩ (.int .i64 x)) r d x v W C b := by
  have hlt := h.lt
  unfold SB at h ⊢
  have h' : w.heap[r] = .cells #[.int .i64 d, .int .i64 p, .int .i64 v, .string W, .string C, .int .i64 b] 32 (0, 0) := by simpa [Array.getElem?_eq_getElem hlt] using h
  show (w.heap.modify r _)[r]? = _
  rw [Array.getElem?_eq_getElem (by simpa using hlt), Array.getElem_modify_self, h']
  rfl
theorem SB.s2 {w : World} {r : Nat} {d p v : Int} {W C : ByteArray} {b : Int} (h : SB w r d p v W C b) (x : Int) : SB (w.setCell ⟨r, 2, none⟩ (.int .i64 x)) r d p x W C b := by
  have hlt := h.lt
  unfold SB at h ⊢
  have h' : w.heap[r] = .cells #[.int .i64 d, .int .i64 p, .int .i64 v, .string W, .string C, .int .i64 b] 32 (0, 0) := by simpa [Array.getElem?_eq_getElem hlt] using h
  show (w.heap.modify r _)[r]? = _
  rw [Array.getElem?_eq_getElem (by simpa using hlt), Array.getElem_modify_self, h']
  rfl
theorem SB.s3 {w : World} {r : Nat} {d p v : Int} {W C : ByteArray} {b : Int} (h : SB w r d p v W C b) (x : ByteArray) : SB (w.setCell ⟨r, 3, none⟩ (.string x)) r d p v x C b := by
  have hlt := h.lt
  unfold SB at h ⊢
  have h' : w.heap[r] = .cells #[.int .i64 d, .int .i64 p, .int .i64 v, .string W, .string C, .int .i64 b] 32 (0, 0) := by simpa [Array.getElem?_eq_getElem hlt] using h
  show (w.heap.modify r _)[r]? = _
  rw [Array.getElem?_eq_getElem (by simpa using hlt), Array.getElem_modify_self, h']
  rfl
theorem SB.s4 {w : World} {r : Nat} {d p v : Int} {W C : ByteArray} {b : Int} (h : SB w r d p v W C b) (x : ByteArray) : SB (w.setCell ⟨r, 4, none⟩ (.string x)) r d p v W x b := by
  have hlt := h.lt
  unfold SB at h ⊢
  have h' : w.heap[r] = .cells #[.int .i64 d, .int .i64 p, .int .i64 v, .string W, .string C, .int .i64 b] 32 (0, 0) := by simpa [Array.getElem?_eq_getElem hlt] using h
  show (w.heap.modify r _)[r]? = _
  rw [Array.getElem?_eq_getElem (by simpa using hlt), Array.getElem_modify_self, h']
  rfl
theorem SB.s5 {w : World} {r : Nat} {d p v : Int} {W C : ByteArray} {b : Int} (h : SB w r d p v W C b) (x : Int) : SB (w.setCell ⟨r, 5, none⟩ (.int .i64 x)) r d p v W C x := by
  have hlt := h.lt
  unfold SB at h ⊢
  have h' : w.heap[r] = .cells #[.int .i64 d, .int .i64 p, .int .i64 v, .string W, .string C, .int .i64 b] 32 (0, 0) := by simpa [Array.getElem?_eq_getElem hlt] using h
  show (w.heap.modify r _)[r]? = _
  rw [Array.getElem?_eq_getElem (by simpa using hlt), Array.getElem_modify_self, h']
  rfl
/-- what both keep while one sky is laid over another: the upper one, the lower one, what is told -/
def TT (w : World) (d p v : Int) (W C : ByteArray) (b : Int) (d2 p2 v2 : Int) (W2 C2 : ByteArray) (b2 : Int) (wx : World) : Prop := SB wx w.heap.size d p v W C b ∧ SB wx (w.heap.size + 1) d2 p2 v2 W2 C2 b2 ∧ SB wx (w.heap.size + 2) 0 0 0 E E 0 ∧ Below w.heap.size w wx
theorem TT.s0 {w wx : World} {d p v : Int} {W C : ByteArray} {b : Int} {d2 p2 v2 : Int} {W2 C2 : ByteArray} {b2 : Int} (h : TT w d p v W C b d2 p2 v2 W2 C2 b2 wx) (x : Int) : TT w x p v W C b d2 p2 v2 W2 C2 b2 (wx.setCell ⟨w.heap.size, 0, none⟩ (.int .i64 x)) := ⟨h.1.s0 x, h.2.1.keep (by omega) _ _, h.2.2.1.keep (by omega) _ _, h.2.2.2.setCell (p := ⟨w.heap.size, 0, none⟩) (Nat.le_refl _) _⟩
theorem TT.s1 {w wx : World} {d p v : Int} {W C : ByteArray} {b : Int} {d2 p2 v2 : Int} {W2 C2 : ByteArray} {b2 : Int} (h : TT w d p v W C b d2 p2 v2 W2 C2 b2 wx) (x : Int) : TT w d x v W C b d2 p2 v2 W2 C2 b2 (wx.setCell ⟨w.heap.size, 1, none⟩ (.int .i64 x)) := ⟨h.1.s1 x, h.2.1.keep (by omega) _ _, h.2.2.1.keep (by omega) _ _, h.2.2.2.setCell (p := ⟨w.heap.size, 1, none⟩) (Nat.le_refl _) _⟩
theorem TT.s2 {w wx : World} {d p v : Int} {W C : ByteArray} {b : Int} {d2 p2 v2 : Int} {W2 C2 : ByteArray} {b2 : Int} (h : TT w d p v W C b d2 p2 v2 W2 C2 b2 wx) (x : Int) : TT w d p x W C b d2 p2 v2 W2 C2 b2 (wx.setCell ⟨w.heap.size, 2, none⟩ (.int .i64 x)) := ⟨h.1.s2 x, h.2.1.keep (by omega) _ _, h.2.2.1.keep (by omega) _ _, h.2.2.2.setCell (p := ⟨w.heap.size, 2, none⟩) (Nat.le_refl _) _⟩
theorem TT.s3 {w wx : World} {d p v : Int} {W C : ByteArray} {b : Int} {d2 p2 v2 : Int} {W2 C2 : ByteArray} {b2 : Int} (h : TT w d p v W C b d2 p2 v2 W2 C2 b2 wx) (x : ByteArray) : TT w d p v x C b d2 p2 v2 W2 C2 b2 (wx.setCell ⟨w.heap.size, 3, none⟩ (.string x)) := ⟨h.1.s3 x, h.2.1.keep (by omega) _ _, h.2.2.1.keep (by omega) _ _, h.2.2.2.setCell (p := ⟨w.heap.size, 3, none⟩) (Nat.le_refl _) _⟩
theorem TT.s4 {w wx : World} {d p v : Int} {W C : ByteArray} {b : Int} {d2 p2 v2 : Int} {W2 C2 : ByteArray} {b2 : Int} (h : TT w d p v W C b d2 p2 v2 W2 C2 b2 wx) (x : ByteArray) : TT w d p v W x b d2 p2 v2 W2 C2 b2 (wx.setCell ⟨w.heap.size, 4, none⟩ (.string x)) := ⟨h.1.s4 x, h.2.1.keep (by omega) _ _, h.2.2.1.keep (by omega) _ _, h.2.2.2.setCell (p := ⟨w.heap.size, 4, none⟩) (Nat.le_refl _) _⟩
theorem TT.s5 {w wx : World} {d p v : Int} {W C : ByteArray} {b : Int} {d2 p2 v2 : Int} {W2 C2 : ByteArray} {b2 : Int} (h : TT w d p v W C b d2 p2 v2 W2 C2 b2 wx) (x : Int) : TT w d p v W C x d2 p2 v2 W2 C2 b2 (wx.setCell ⟨w.heap.size, 5, none⟩ (.int .i64 x)) := ⟨h.1.s5 x, h.2.1.keep (by omega) _ _, h.2.2.1.keep (by omega) _ _, h.2.2.2.setCell (p := ⟨w.heap.size, 5, none⟩) (Nat.le_refl _) _⟩
theorem TT.d {w wx : World} {d p v : Int} {W C : ByteArray} {b : Int} {d2 p2 v2 : Int} {W2 C2 : ByteArray} {b2 : Int} (h : TT w d p v W C b d2 p2 v2 W2 C2 b2 wx) (n : Nat) : TT w d p v W C b d2 p2 v2 W2 C2 b2 (wx.drewN n) := ⟨h.1, h.2.1, h.2.2.1, below_drewN h.2.2.2 n⟩
theorem SB.all {w : World} {r : Nat} {d p v : Int} {W C : ByteArray} {b : Int} (h : SB w r d p v W C b) (d2 p2 v2 : Int) (W2 C2 : ByteArray) (b2 : Int) : SB ((((((w.setCell ⟨r, 0, none⟩ (.int .i64 d2)).setCell ⟨r, 1, none⟩ (.int .i64 p2)).setCell ⟨r, 2, none⟩ (.int .i64 v2)).setCell ⟨r, 3, none⟩ (.string W2)).setCell ⟨r, 4, none⟩ (.string C2)).setCell ⟨r, 5, none⟩ (.int .i64 b2)) r d2 p2 v2 W2 C2 b2 := (((((h.s0 d2).s1 p2).s2 v2).s3 W2).s4 C2).s5 b2
theorem below_all {w wx : World} {B r : Nat} (h : Below B w wx) (hr : B ≤ r) (x0 x1 x2 x3 x4 x5 : Value) : Below B w ((((((wx.setCell ⟨r, 0, none⟩ x0).setCell ⟨r, 1, none⟩ x1).setCell ⟨r, 2, none⟩ x2).setCell ⟨r, 3, none⟩ x3).setCell ⟨r, 4, none⟩ x4).setCell ⟨r, 5, none⟩ x5) := (((((h.setCell (p := ⟨r, 0, none⟩) hr _).setCell (p := ⟨r, 1, none⟩) hr _).setCell (p := ⟨r, 2, none⟩) hr _).setCell (p := ⟨r, 3, none⟩) hr _).setCell (p := ⟨r, 4, none⟩) hr _).setCell (p := ⟨r, 5, none⟩) hr _
theorem size26 : (Tryz.prog.info? 32).map (·.size) = some 6 := by kernel_rfl

end Go.Proofs.YtoaabdmbgemkjaaGreatDoor.Sk
