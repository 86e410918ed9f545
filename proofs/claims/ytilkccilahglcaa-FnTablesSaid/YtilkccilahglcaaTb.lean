/- Table: what is counted, plainly; the boxes that a call fills. -/
import Derived.Test.YtilkccilahglcaaBr
namespace Go.Proofs.Ytilkccilahglcaa.Br
open Go.ChangeShapes Go.WideShapes Go.ChangeAt Go.RowKit
open Go.Proofs.Ytilkccilahglcaa.Al

def cn (P : Nat → Bool) : Nat → Int
  | 0 => 0
  | k + 1 => cn P k + if P k then 1 else 0
theorem cn_bd (P : Nat → Bool) (k : Nat) : 0 ≤ cn P k ∧ cn P k ≤ k := by
  induction k with
  | zero => simp [cn]
  | succ k ih => unfold cn; split <;> omega
theorem cn_yes {P : Nat → Bool} {k : Nat} (h : P k = true) : cn P (k + 1) = cn P k + 1 := by show cn P k + _ = _; rw [h]; rfl
theorem cn_no {P : Nat → Bool} {k : Nat} (h : P k = false) : cn P (k + 1) = cn P k := by show cn P k + _ = _; rw [h]; simp
def pH (L : Ls) (p : Int) (i : Nat) : Bool := decide (p ≤ Pb.c0 L i) && Pb.c1 L i
def pM (L : Ls) (p : Int) (i : Nat) : Bool := !decide (p ≤ Pb.c0 L i) && Pb.c1 L i
def pF (L : Ls) (p : Int) (i : Nat) : Bool := decide (p ≤ Pb.c0 L i) && !Pb.c1 L i
def pN (L : Ls) (p : Int) (i : Nat) : Bool := !decide (p ≤ Pb.c0 L i) && !Pb.c1 L i
abbrev cv (a b c d : Int) : Value := .agg #[.int .i64 a, .int .i64 b, .int .i64 c, .int .i64 d]
def tab (L : Ls) (p : Int) : Value := if okT L then cv (cn (pH L p) L.length) (cn (pM L p) L.length) (cn (pF L p) L.length) (cn (pN L p) L.length) else cv 0 0 0 0

/-- The box of the answer, and that of the counts, behind a call. -/
structure TB (w wx : World) (a b c d : Int) : Prop where
  r : wx.cell? ⟨w.heap.size, 0, none⟩ = some (.int .i64 0) ∧ wx.cell? ⟨w.heap.size, 1, none⟩ = some (.int .i64 0) ∧ wx.cell? ⟨w.heap.size, 2, none⟩ = some (.int .i64 0) ∧ wx.cell? ⟨w.heap.size, 3, none⟩ = some (.int .i64 0)
  h : wx.cell? ⟨w.heap.size + 1, 0, none⟩ = some (.int .i64 a) ∧ wx.cell? ⟨w.heap.size + 1, 1, none⟩ = some (.int .i64 b) ∧ wx.cell? ⟨w.heap.size + 1, 2, none⟩ = some (.int .i64 c) ∧ wx.cell? ⟨w.heap.size + 1, 3, none⟩ = some (.int .i64 d)
  k : ∀ o, wx.frozen? ⟨w.heap.size, o, none⟩ = false
  g : ∀ o, wx.frozen? ⟨w.heap.size + 1, o, none⟩ = false
  z : w.heap.size + 2 ≤ wx.heap.size
  b : Below w.heap.size w wx
theorem TB.on {w wx wy : World} {a b c d : Int} (h : TB w wx a b c d) (hb : Below wx.heap.size wx wy) : TB w wy a b c d := by
  have z := h.z
  have L0 : ∀ o, wy.cell? ⟨w.heap.size, o, none⟩ = wx.cell? ⟨w.heap.size, o, none⟩ := fun o => hb.cell (p := ⟨w.heap.size, o, none⟩) (by show w.heap.size < _; omega)
  have L1 : ∀ o, wy.cell? ⟨w.heap.size + 1, o, none⟩ = wx.cell? ⟨w.heap.size + 1, o, none⟩ := fun o => hb.cell (p := ⟨w.heap.size + 1, o, none⟩) (by show w.heap.size + 1 < _; omega)
  have F0 : ∀ o, wy.frozen? ⟨w.heap.size, o, none⟩ = wx.frozen? ⟨w.heap.size, o, none⟩ := fun o => hb.frozen (p := ⟨w.heap.size, o, none⟩) (by show w.heap.size < _; omega)
  have F1 : ∀ o, wy.frozen? ⟨w.heap.size + 1, o, none⟩ = wx.frozen? ⟨w.heap.size + 1, o, none⟩ := fun o => hb.frozen (p := ⟨w.heap.size + 1, o, none⟩) (by show w.heap.size + 1 < _; omega)
  refine ⟨by rw [L0, L0, L0, L0]; exact h.r, by rw [L1, L1, L1, L1]; exact h.h, fun o => by rw [F0]; exact h.k o, fun o => by rw [F1]; exact h.g o, ?_, h.b.trans (hb.mono h.b.size)⟩
  have := hb.size
  omega
theorem TB.start (w : World) : TB w ((w.alloc (Obj.cells #[.int .i64 0, .int .i64 0, .int .i64 0, .int .i64 0] 30)).alloc (Obj.cells #[.int .i64 0, .int .i64 0, .int .i64 0, .int .i64 0] 30)) 0 0 0 0 := by
  refine ⟨?_, ?_, fun o => ?_, fun o => ?_, by simp, ((Below.refl _ _).alloc (Nat.le_refl _) _).alloc (by simp) _⟩
  · simp [go_sem]
  · simp [go_sem]
  · simp [go_sem]
  · simp [go_sem]

theorem TB.p0 {w wx : World} {a b c d : Int} (h : TB w wx a b c d) (x : Int) : TB w (wx.setCell ⟨w.heap.size + 1, 0, none⟩ (.int .i64 x)) x b c d := by
  obtain ⟨r0, r1, r2, r3⟩ := h.r
  obtain ⟨h0, h1, h2, h3⟩ := h.h
  have k := h.k
  have g := h.g
  refine ⟨?_, ?_, fun o => ?_, fun o => ?_, by simpa using h.z, h.b.setCell (Nat.le_succ _) _⟩
  · simp [go_sem, r0, r1, r2, r3]
  · simp [go_sem, h0, h1, h2, h3]
  · simp [go_sem, k]
  · simp [go_sem, g]
theorem TB.p1 {w wx : World} {a b c d : Int} (h : TB w wx a b c d) (x : Int) : TB w (wx.setCell ⟨w.heap.size + 1, 1, none⟩ (.int .i64 x)) a x c d := by
  obtain ⟨r0, r1, r2, r3⟩ := h.r
  obtain ⟨h0, h1, h2, h3⟩ := h.h
  have k := h.k
  have g := h.g
  refine ⟨?_, ?_, fun o => ?_, fun o => ?_, by simpa using h.z, h.b.setCell (Nat.le_succ _) _⟩
  · simp [go_sem, r0, r1, r2, r3]
  · simp [go_sem, h0, h1, h2, h3]
  · simp [go_sem, k]
  · simp [go_sem, g]
theorem TB.p2 {w wx : World} {a b c d : Int} (h : TB w wx a b c d) (x : Int) : TB w (wx.setCell ⟨w.heap.size + 1, 2, none⟩ (.int .i64 x)) a b x d := by
  obtain ⟨r0, r1, r2, r3⟩ := h.r
  obtain ⟨h0, h1, h2, h3⟩ := h.h
  have k := h.k
  have g := h.g
  refine ⟨?_, ?_, fun o => ?_, fun o => ?_, by simpa using h.z, h.b.setCell (Nat.le_succ _) _⟩
  · simp [go_sem, r0, r1, r2, r3]
  · simp [go_sem, h0, h1, h2, h3]
  · simp [go_sem, k]
  · simp [go_sem, g]
theorem TB.p3 {w wx : World} {a b c d : Int} (h : TB w wx a b c d) (x : Int) : TB w (wx.setCell ⟨w.heap.size + 1, 3, none⟩ (.int .i64 x)) a b c x := by
  obtain ⟨r0, r1, r2, r3⟩ := h.r
  obtain ⟨h0, h1, h2, h3⟩ := h.h
  have k := h.k
  have g := h.g
  refine ⟨?_, ?_, fun o => ?_, fun o => ?_, by simpa using h.z, h.b.setCell (Nat.le_succ _) _⟩
  · simp [go_sem, r0, r1, r2, r3]
  · simp [go_sem, h0, h1, h2, h3]
  · simp [go_sem, k]
  · simp [go_sem, g]

end Go.Proofs.Ytilkccilahglcaa.Br