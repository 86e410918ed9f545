/- An entry drawn of a code: its box, the words and levels it is drawn from. -/
import Derived.Test.YtfnkcoppdelmjaaEo
import Derived.Test.YtfnkcoppdelmjaaRdJ
import Derived.OneCell
import Derived.Deep.DeepCutAuto
import Derived.Deep.Cut
import Derived.Deep.RegionWith
import Derived.Deep.RegionHeld3
import Derived.Deep.DrawnRows
import Derived.Deep.DeepMust
import Derived.Deep.RegionHeldLaw
namespace Go.Proofs.Ytfnkcoppdelmjaa.Ed
open Go.ChangeShapes Go.WideShapes Go.ChangeAt Go.RowKit
open Go.Proofs.Ytfnkcoppdelmjaa.Rd Go.Proofs.Ytfnkcoppdelmjaa.Eo
abbrev E : ByteArray := ⟨#[]⟩
def EB (w : World) (r : Nat) (x0 : ByteArray) (x1 x2 x3 x4 : Int) : Prop := w.heap[r]? = some (.cells #[.string x0, .int .i64 x1, .int .i64 x2, .int .i64 x3, .int .i64 x4] 26 (0, 0))
theorem EB.lt {w : World} {r : Nat} {x0 : ByteArray} {x1 x2 x3 x4 : Int} (h : EB w r x0 x1 x2 x3 x4) : r < w.heap.size := lt_of_block h
theorem EB.on {w : World} {r : Nat} {x0 : ByteArray} {x1 x2 x3 x4 : Int} {w' : World} {B : Nat} (h : EB w r x0 x1 x2 x3 x4) (hb : Below B w w') (hr : r < B) : EB w' r x0 x1 x2 x3 x4 := (hb.block r hr).trans h
theorem EB.new (w : World) (x0 : ByteArray) (x1 x2 x3 x4 : Int) : EB (w.alloc (.cells #[.string x0, .int .i64 x1, .int .i64 x2, .int .i64 x3, .int .i64 x4] 26)) w.heap.size x0 x1 x2 x3 x4 := heap_alloc_new w _
theorem EB.keep {w : World} {r : Nat} {x0 : ByteArray} {x1 x2 x3 x4 : Int} (h : EB w r x0 x1 x2 x3 x4) {r' : Nat} (hne : r ≠ r') (o : Nat) (x : Value) : EB (w.setCell ⟨r', o, none⟩ x) r x0 x1 x2 x3 x4 := (Below.heap_setCell w ⟨r', o, none⟩ x r hne).trans h
theorem EB.cells {w : World} {r : Nat} {x0 : ByteArray} {x1 x2 x3 x4 : Int} (h : EB w r x0 x1 x2 x3 x4) : w.cell? ⟨r, 0, none⟩ = some (.string x0) ∧ w.cell? ⟨r, 1, none⟩ = some (.int .i64 x1) ∧ w.cell? ⟨r, 2, none⟩ = some (.int .i64 x2) ∧ w.cell? ⟨r, 3, none⟩ = some (.int .i64 x3) ∧ w.cell? ⟨r, 4, none⟩ = some (.int .i64 x4) ∧ ∀ o, w.frozen? ⟨r, o, none⟩ = false := by
  unfold EB at h
  simp [World.cell?, World.frozen?, h]
theorem EB.s0 {w : World} {r : Nat} {x0 : ByteArray} {x1 x2 x3 x4 : Int} (h : EB w r x0 x1 x2 x3 x4) (z : ByteArray) : EB (w.setCell ⟨r, 0, none⟩ (.string z)) r z x1 x2 x3 x4 := by
  have hlt := h.lt
  unfold EB at h ⊢
  have h' : w.heap[r] = .cells #[.string x0, .int .i64 x1, .int .i64 x2, .int .i64 x3, .int .i64 x4] 26 (0, 0) := by simpa [Array.getElem?_eq_getElem hlt] using h
  show (w.heap.modify r _)[r]? = _
  rw [Array.getElem?_eq_getElem (by simpa using hlt), Array.getElem_modify_self, h']
  rfl
theorem EB.s1 {w : World} {r : Nat} {x0 : ByteArray} {x1 x2 x3 x4 : Int} (h : EB w r x0 x1 x2 x3 x4) (z : Int) : EB (w.setCell ⟨r, 1, none⟩ (.int .i64 z)) r x0 z x2 x3 x4 := by
  have hlt := h.lt
  unfold EB at h ⊢
  have h' : w.heap[r] = .cells #[.string x0, .int .i64 x1, .int .i64 x2, .int .i64 x3, .int .i64 x4] 26 (0, 0) := by simpa [Array.getElem?_eq_getElem hlt] using h
  show (w.heap.modify r _)[r]? = _
  rw [Array.getElem?_eq_getElem (by simpa using hlt), Array.getElem_modify_self, h']
  rfl
theorem EB.s2 {w : World} {r : Nat} {x0 : ByteArray} {x1 x2 x3 x4 : Int} (h : EB w r x0 x1 x2 x3 x4) (z : Int) : EB (w.setCell ⟨r, 2, none⟩ (.int .i64 z)) r x0 x1 z x3 x4 := by
  have hlt := h.lt
  unfold EB at h ⊢
  have h' : w.heap[r] = .cells #[.string x0, .int .i64 x1, .int .i64 x2, .int .i64 x3, .int .i64 x4] 26 (0, 0) := by simpa [Array.getElem?_eq_getElem hlt] using h
  show (w.heap.modify r _)[r]? = _
  rw [Array.getElem?_eq_getElem (by simpa using hlt), Array.getElem_modify_self, h']
  rfl
theorem EB.s3 {w : World} {r : Nat} {x0 : ByteArray} {x1 x2 x3 x4 : Int} (h : EB w r x0 x1 x2 x3 x4) (z : Int) : EB (w.setCell ⟨r, 3, none⟩ (.int .i64 z)) r x0 x1 x2 z x4 := by
  have hlt := h.lt
  unfold EB at h ⊢
  have h' : w.heap[r] = .cells #[.string x0, .int .i64 x1, .int .i64 x2, .int .i64 x3, .int .i64 x4] 26 (0, 0) := by simpa [Array.getElem?_eq_getElem hlt] using h
  show (w.heap.modify r _)[r]? = _
  rw [Array.getElem?_eq_getElem (by simpa using hlt), Array.getElem_modify_self, h']
  rfl
theorem EB.s4 {w : World} {r : Nat} {x0 : ByteArray} {x1 x2 x3 x4 : Int} (h : EB w r x0 x1 x2 x3 x4) (z : Int) : EB (w.setCell ⟨r, 4, none⟩ (.int .i64 z)) r x0 x1 x2 x3 z := by
  have hlt := h.lt
  unfold EB at h ⊢
  have h' : w.heap[r] = .cells #[.string x0, .int .i64 x1, .int .i64 x2, .int .i64 x3, .int .i64 x4] 26 (0, 0) := by simpa [Array.getElem?_eq_getElem hlt] using h
  show (w.heap.modify r _)[r]? = _
  rw [Array.getElem?_eq_getElem (by simpa using hlt), Array.getElem_modify_self, h']
  rfl
theorem EB.all {w : World} {r : Nat} {x0 : ByteArray} {x1 x2 x3 x4 : Int} (h : EB w r x0 x1 x2 x3 x4) (y0 : ByteArray) (y1 y2 y3 y4 : Int) : EB (((((w.setCell ⟨r, 0, none⟩ (.string y0)).setCell ⟨r, 1, none⟩ (.int .i64 y1)).setCell ⟨r, 2, none⟩ (.int .i64 y2)).setCell ⟨r, 3, none⟩ (.int .i64 y3)).setCell ⟨r, 4, none⟩ (.int .i64 y4)) r y0 y1 y2 y3 y4 := (((((h.s0 y0).s1 y1).s2 y2).s3 y3).s4 y4)

theorem blk_turn {r k : Nat} {w w' : World} {o : Obj} (h : w.heap[k]? = some o) (t : Turn r w w') (hk : k ≠ r) : w'.heap[k]? = some o := by
  have hlt := lt_of_block h
  rw [← h]
  by_cases hb : k < r
  · exact t.bel.block k hb
  · exact t.abv k (by omega) hlt
theorem blk_alloc {k : Nat} {w : World} {o : Obj} (h : w.heap[k]? = some o) (o' : Obj) : (w.alloc o').heap[k]? = some o := by
  have hlt := lt_of_block h
  exact (((Below.refl w.heap.size w).alloc (Nat.le_refl _) o').block k hlt).trans h
/-- what the draw keeps: the answer's block, the reader -/
structure SE (r : Nat) (W wx : World) : Prop where
  an : EB wx W.heap.size E 0 0 0 0
  rd : Rd r wx
  tn : Turn r W wx
  lt : r < W.heap.size
theorem SE.sz {r : Nat} {W wx : World} (h : SE r W wx) : W.heap.size < wx.heap.size := h.an.lt
theorem SE.turn {r : Nat} {W wx w' : World} (h : SE r W wx) (t : Turn r wx w') (k : Rd r w') : SE r W w' :=
  ⟨blk_turn h.an t (by have := h.lt; omega), k, h.tn.trans t, h.lt⟩
theorem SE.alloc {r : Nat} {W wx : World} (h : SE r W wx) (o : Obj) : SE r W (wx.alloc o) :=
  ⟨blk_alloc h.an o, h.rd.kept ((Below.refl (r + 1) wx).alloc (by have := h.rd.lt; omega) _) (by omega), h.tn.alloc h.lt _, h.lt⟩
theorem SE.drewN {r : Nat} {W wx : World} (h : SE r W wx) (n : Nat) : SE r W (wx.drewN n) := h.turn ((Turn.refl r wx).drewN n) (h.rd.drewN n)
theorem SE.new {r : Nat} {W : World} (h : Rd r W) : SE r W (W.alloc (.cells #[.string E, .int .i64 0, .int .i64 0, .int .i64 0, .int .i64 0] 26)) :=
  ⟨EB.new W _ _ _ _ _, h.kept ((Below.refl (r + 1) W).alloc (by have := h.lt; omega) _) (by omega), (Turn.refl r W).alloc h.lt _, h.lt⟩
/-- an entry drawn: it lies in the answer's block -/
structure DE (r : Nat) (W wx : World) (p : ByteArray) (t s l z : Int) : Prop where
  an : EB wx W.heap.size p t s l z
  rd : Rd r wx
  tn : Turn r W wx
theorem SE.set {r : Nat} {W wx : World} (h : SE r W wx) (p : ByteArray) (t s l z : Int) : DE r W (((((wx.setCell ⟨W.heap.size, 0, none⟩ (.string p)).setCell ⟨W.heap.size, 1, none⟩ (.int .i64 t)).setCell ⟨W.heap.size, 2, none⟩ (.int .i64 s)).setCell ⟨W.heap.size, 3, none⟩ (.int .i64 l)).setCell ⟨W.heap.size, 4, none⟩ (.int .i64 z)) p t s l z := by
  have hl := h.lt
  refine ⟨h.an.all p t s l z, ?_, ?_⟩
  · refine h.rd.kept (B := r + 1) ?_ (by omega)
    exact (((((Below.refl _ _).setCell (p := ⟨W.heap.size, 0, none⟩) hl _).setCell (p := ⟨W.heap.size, 1, none⟩) hl _).setCell (p := ⟨W.heap.size, 2, none⟩) hl _).setCell (p := ⟨W.heap.size, 3, none⟩) hl _).setCell (p := ⟨W.heap.size, 4, none⟩) hl _
  · exact ((((h.tn.setCell (p := ⟨W.heap.size, 0, none⟩) (Nat.le_refl _) hl _).setCell (p := ⟨W.heap.size, 1, none⟩) (Nat.le_refl _) hl _).setCell (p := ⟨W.heap.size, 2, none⟩) (Nat.le_refl _) hl _).setCell (p := ⟨W.heap.size, 3, none⟩) (Nat.le_refl _) hl _).setCell (p := ⟨W.heap.size, 4, none⟩) (Nat.le_refl _) hl _
/-- a literal that lies behind the answer's block -/
structure LT (r : Nat) (W : World) (o : Obj) (wx : World) (b : Nat) : Prop where
  on : wx.heap[b]? = some o
  hb : W.heap.size < b
  lt : r < W.heap.size
theorem LT.sz {r : Nat} {W wx : World} {o : Obj} {b : Nat} (h : LT r W o wx b) : b < wx.heap.size := lt_of_block h.on
theorem LT.turn {r : Nat} {W wx w' : World} {o : Obj} {b : Nat} (h : LT r W o wx b) (t : Turn r wx w') : LT r W o w' b :=
  ⟨blk_turn h.on t (by have := h.hb; have := h.lt; omega), h.hb, h.lt⟩
theorem LT.alloc {r : Nat} {W wx : World} {o : Obj} {b : Nat} (h : LT r W o wx b) (o' : Obj) : LT r W o (wx.alloc o') b := ⟨blk_alloc h.on o', h.hb, h.lt⟩
theorem LT.new {r : Nat} {W wx : World} (h : SE r W wx) (o : Obj) : LT r W o (wx.alloc o) wx.heap.size := ⟨heap_alloc_new wx o, h.sz, h.lt⟩
abbrev words : Obj := .cells #[.string ⟨#[116]⟩, .string ⟨#[117]⟩, .string ⟨#[118]⟩, .string ⟨#[109, 115, 108]⟩, .string ⟨#[116, 112]⟩] 9
abbrev levels : Obj := .cells #[.int .i64 0, .int .i64 500, .int .i64 850] 2
theorem word_of (z : Int) (h0 : 0 ≤ z) (h1 : z < 5) : ∃ q, pok q = true ∧ ([.string ⟨#[116]⟩, .string ⟨#[117]⟩, .string ⟨#[118]⟩, .string ⟨#[109, 115, 108]⟩, .string ⟨#[116, 112]⟩] : List Value)[z.toNat]? = some (.string q) := by
  have : z = 0 ∨ z = 1 ∨ z = 2 ∨ z = 3 ∨ z = 4 := by omega
  rcases this with rfl | rfl | rfl | rfl | rfl
  · exact ⟨⟨#[116]⟩, by decide +kernel, rfl⟩
  · exact ⟨⟨#[117]⟩, by decide +kernel, rfl⟩
  · exact ⟨⟨#[118]⟩, by decide +kernel, rfl⟩
  · exact ⟨⟨#[109, 115, 108]⟩, by decide +kernel, rfl⟩
  · exact ⟨⟨#[116, 112]⟩, by decide +kernel, rfl⟩
theorem level_of (z : Int) (h0 : 0 ≤ z) (h1 : z < 3) : ∃ q : Int, (0 ≤ q ∧ q ≤ 850) ∧ ([.int .i64 0, .int .i64 500, .int .i64 850] : List Value)[z.toNat]? = some (.int .i64 q) := by
  have : z = 0 ∨ z = 1 ∨ z = 2 := by omega
  rcases this with rfl | rfl | rfl
  · exact ⟨0, by omega, rfl⟩
  · exact ⟨500, by omega, rfl⟩
  · exact ⟨850, by omega, rfl⟩
theorem blk_cell {w : World} {b i : Nat} {l : List Value} {t : TypeId} {v : Value} (h : w.heap[b]? = some (.cells l.toArray t)) (hl : l[i]? = some v) : w.cell? ⟨b, i, none⟩ = some v := by
  simp [World.cell?, h, hl]
/-- what a place of a literal holds, in each world where it may be asked for -/
structure At (l : List Value) (t : TypeId) (i : Nat) (v : Value) : Prop where
  it : l[i]? = some v
  f1 : ∀ X : World, (X.alloc (.cells l.toArray t)).cell? ⟨X.heap.size, i, none⟩ = some v
  f2 : ∀ (X : World) (o : Obj), ((X.alloc (.cells l.toArray t)).alloc o).cell? ⟨X.heap.size, i, none⟩ = some v
  f3 : ∀ (X : World) (o : Obj), ((X.alloc o).alloc (.cells l.toArray t)).cell? ⟨X.heap.size + 1, i, none⟩ = some v
  f4 : ∀ (r : Nat) (W wx : World) (b : Nat), LT r W (.cells l.toArray t) wx b → wx.cell? ⟨b, i, none⟩ = some v ∧ ∀ o, (wx.alloc o).cell? ⟨b, i, none⟩ = some v
theorem at_of {l : List Value} {i : Nat} {v : Value} (t : TypeId) (h : l[i]? = some v) : At l t i v :=
  ⟨h, fun X => blk_cell (heap_alloc_new X _) h, fun X o => blk_cell (blk_alloc (heap_alloc_new X _) o) h, fun X o => blk_cell (by have := heap_alloc_new (X.alloc o) (.cells l.toArray t); simpa using this) h,
   fun r W wx b hL => ⟨blk_cell hL.on h, fun o => blk_cell (blk_alloc hL.on o) h⟩⟩
/-- the answer's block may be written -/
theorem SE.open {r : Nat} {W wx : World} (h : SE r W wx) : ∀ i, i < 5 → wx.frozen? ⟨W.heap.size, i, none⟩ = false ∧ wx.cell? ⟨W.heap.size, i, none⟩ = some (if i = 0 then .string E else .int .i64 0) := by
  intro i hi
  obtain ⟨e0, e1, e2, e3, e4, ef⟩ := h.an.cells
  refine ⟨ef i, ?_⟩
  have : i = 0 ∨ i = 1 ∨ i = 2 ∨ i = 3 ∨ i = 4 := by omega
  rcases this with rfl | rfl | rfl | rfl | rfl <;> simp [e0, e1, e2, e3, e4]
end Go.Proofs.Ytfnkcoppdelmjaa.Ed
