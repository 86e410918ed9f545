/- Forecasts in the laws: copied, compared, measured. -/
import Derived.Test.YtoaabdmbgemkjaaGreatDoorCh
namespace Go.Proofs.YtoaabdmbgemkjaaGreatDoor.Tf
open Go.ChangeShapes Go.WideShapes Go.ChangeAt Go.RowKit
open Go.Proofs.YtoaabdmbgemkjaaGreatDoor.Al

abbrev tv (C : ByteArray) (I f t d p v : Int) (W O : ByteArray) (b : Int) (u : Value) : Value := .agg #[.string C, .int .i64 I, .int .i64 f, .int .i64 t, .int .i64 d, .int .i64 p, .int .i64 v, .string W, .string O, .int .i64 b, u]
abbrev sp (f t : Int) : Value := .agg #[.int .i64 f, .int .i64 t]
def AB (w : World) (r : Nat) (x0 : ByteArray) (x1 x2 x3 x4 x5 x6 : Int) (x7 x8 : ByteArray) (x9 : Int) (x10 : Value) : Prop := w.heap[r]? = some (.cells #[.string x0, .int .i64 x1, .int .i64 x2, .int .i64 x3, .int .i64 x4, .int .i64 x5, .int .i64 x6, .string x7, .string x8, .int .i64 x9, x10] 28 (0, 0))
theorem AB.lt {w : World} {r : Nat} {x0 : ByteArray} {x1 x2 x3 x4 x5 x6 : Int} {x7 x8 : ByteArray} {x9 : Int} {x10 : Value} (h : AB w r x0 x1 x2 x3 x4 x5 x6 x7 x8 x9 x10) : r < w.heap.size := lt_of_block h
theorem AB.on {w : World} {r : Nat} {x0 : ByteArray} {x1 x2 x3 x4 x5 x6 : Int} {x7 x8 : ByteArray} {x9 : Int} {x10 : Value} {w' : World} {B : Nat} (h : AB w r x0 x1 x2 x3 x4 x5 x6 x7 x8 x9 x10) (hb : Below B w w') (hr : r < B) : AB w' r x0 x1 x2 x3 x4 x5 x6 x7 x8 x9 x10 := (hb.block r hr).trans h
theorem AB.new (w : World) (x0 : ByteArray) (x1 x2 x3 x4 x5 x6 : Int) (x7 x8 : ByteArray) (x9 : Int) (x10 : Value) : AB (w.alloc (.cells #[.string x0, .int .i64 x1, .int .i64 x2, .int .i64 x3, .int .i64 x4, .int .i64 x5, .int .i64 x6, .string x7, .string x8, .int .i64 x9, x10] 28)) w.heap.size x0 x1 x2 x3 x4 x5 x6 x7 x8 x9 x10 := heap_alloc_new w _
theorem AB.keep {w : World} {r : Nat} {x0 : ByteArray} {x1 x2 x3 x4 x5 x6 : Int} {x7 x8 : ByteArray} {x9 : Int} {x10 : Value} (h : AB w r x0 x1 x2 x3 x4 x5 x6 x7 x8 x9 x10) {r' : Nat} (hne : r ≠ r') (o : Nat) (x : Value) : AB (w.setCell ⟨r', o, none⟩ x) r x0 x1 x2 x3 x4 x5 x6 x7 x8 x9 x10 := (Below.heap_setCell w ⟨r', o, none⟩ x r hne).trans h
theorem AB.cells {w : World} {r : Nat} {x0 : ByteArray} {x1 x2 x3 x4 x5 x6 : Int} {x7 x8 : ByteArray} {x9 : Int} {x10 : Value} (h : AB w r x0 x1 x2 x3 x4 x5 x6 x7 x8 x9 x10) : w.cell? ⟨r, 0, none⟩ = some (.string x0) ∧ w.cell? ⟨r, 1, none⟩ = some (.int .i64 x1) ∧ w.cell? ⟨r, 2, none⟩ = some (.int .i64 x2) ∧ w.cell? ⟨r, 3, none⟩ = some (.int .i64 x3) ∧ w.cell? ⟨r, 4, none⟩ = some (.int .i64 x4) ∧ w.cell? ⟨r, 5, none⟩ = some (.int .i64 x5) ∧ w.cell? ⟨r, 6, none⟩ = some (.int .i64 x6) ∧ w.cell? ⟨r, 7, none⟩ = some (.string x7) ∧ w.cell? ⟨r, 8, none⟩ = some (.string x8) ∧ w.cell? ⟨r, 9, none⟩ = some (.int .i64 x9) ∧ w.cell? ⟨r, 10, none⟩ = some (x10) ∧ ∀ o, w.frozen? ⟨r, o, none⟩ = false := by
  unfold AB at h
  simp [World.cell?, World.frozen?, h]
def TB (w : World) (r : Nat) (x0 : ByteArray) (x1 x2 x3 x4 x5 x6 : Int) (x7 x8 : ByteArray) (x9 : Int) (x10 : Value) : Prop := w.heap[r]? = some (.cells #[.string x0, .int .i64 x1, .int .i64 x2, .int .i64 x3, .int .i64 x4, .int .i64 x5, .int .i64 x6, .string x7, .string x8, .int .i64 x9, x10] 35 (0, 0))
theorem TB.lt {w : World} {r : Nat} {x0 : ByteArray} {x1 x2 x3 x4 x5 x6 : Int} {x7 x8 : ByteArray} {x9 : Int} {x10 : Value} (h : TB w r x0 x1 x2 x3 x4 x5 x6 x7 x8 x9 x10) : r < w.heap.size := lt_of_block h
theorem TB.on {w : World} {r : Nat} {x0 : ByteArray} {x1 x2 x3 x4 x5 x6 : Int} {x7 x8 : ByteArray} {x9 : Int} {x10 : Value} {w' : World} {B : Nat} (h : TB w r x0 x1 x2 x3 x4 x5 x6 x7 x8 x9 x10) (hb : Below B w w') (hr : r < B) : TB w' r x0 x1 x2 x3 x4 x5 x6 x7 x8 x9 x10 := (hb.block r hr).trans h
theorem TB.new (w : World) (x0 : ByteArray) (x1 x2 x3 x4 x5 x6 : Int) (x7 x8 : ByteArray) (x9 : Int) (x10 : Value) : TB (w.alloc (.cells #[.string x0, .int .i64 x1, .int .i64 x2, .int .i64 x3, .int .i64 x4, .int .i64 x5, .int .i64 x6, .string x7, .string x8, .int .i64 x9, x10] 35)) w.heap.size x0 x1 x2 x3 x4 x5 x6 x7 x8 x9 x10 := heap_alloc_new w _
theorem TB.keep {w : World} {r : Nat} {x0 : ByteArray} {x1 x2 x3 x4 x5 x6 : Int} {x7 x8 : ByteArray} {x9 : Int} {x10 : Value} (h : TB w r x0 x1 x2 x3 x4 x5 x6 x7 x8 x9 x10) {r' : Nat} (hne : r ≠ r') (o : Nat) (x : Value) : TB (w.setCell ⟨r', o, none⟩ x) r x0 x1 x2 x3 x4 x5 x6 x7 x8 x9 x10 := (Below.heap_setCell w ⟨r', o, none⟩ x r hne).trans h
theorem TB.cells {w : World} {r : Nat} {x0 : ByteArray} {x1 x2 x3 x4 x5 x6 : Int} {x7 x8 : ByteArray} {x9 : Int} {x10 : Value} (h : TB w r x0 x1 x2 x3 x4 x5 x6 x7 x8 x9 x10) : w.cell? ⟨r, 0, none⟩ = some (.string x0) ∧ w.cell? ⟨r, 1, none⟩ = some (.int .i64 x1) ∧ w.cell? ⟨r, 2, none⟩ = some (.int .i64 x2) ∧ w.cell? ⟨r, 3, none⟩ = some (.int .i64 x3) ∧ w.cell? ⟨r, 4, none⟩ = some (.int .i64 x4) ∧ w.cell? ⟨r, 5, none⟩ = some (.int .i64 x5) ∧ w.cell? ⟨r, 6, none⟩ = some (.int .i64 x6) ∧ w.cell? ⟨r, 7, none⟩ = some (.string x7) ∧ w.cell? ⟨r, 8, none⟩ = some (.string x8) ∧ w.cell? ⟨r, 9, none⟩ = some (.int .i64 x9) ∧ w.cell? ⟨r, 10, none⟩ = some (x10) ∧ ∀ o, w.frozen? ⟨r, o, none⟩ = false := by
  unfold TB at h
  simp [World.cell?, World.frozen?, h]
theorem TB.s0 {w : World} {r : Nat} {x0 : ByteArray} {x1 x2 x3 x4 x5 x6 : Int} {x7 x8 : ByteArray} {x9 : Int} {x10 : Value} (h : TB w r x0 x1 x2 x3 x4 x5 x6 x7 x8 x9 x10) (z : ByteArray) : TB (w.setCell ⟨r, 0, none⟩ (.string z)) r z x1 x2 x3 x4 x5 x6 x7 x8 x9 x10 := by
  have hlt := h.lt
  unfold TB at h ⊢
  have h' : w.heap[r] = .cells #[.string x0, .int .i64 x1, .int .i64 x2, .int .i64 x3, .int .i64 x4, .int .i64 x5, .int .i64 x6, .string x7, .string x8, .int .i64 x9, x10] 35 (0, 0) := by simpa [Array.getElem?_eq_getElem hlt] using h
  show (w.heap.modify r _)[r]? = _
  rw [Array.getElem?_eq_getElem (by simpa using hlt), Array.getElem_modify_self, h']
  rfl
theorem TB.s1 {w : World} {r : Nat} {x0 : ByteArray} {x1 x2 x3 x4 x5 x6 : Int} {x7 x8 : ByteArray} {x9 : Int} {x10 : Value} (h : TB w r x0 x1 x2 x3 x4 x5 x6 x7 x8 x9 x10) (z : Int) : TB (w.setCell ⟨r, 1, none⟩ (.int .i64 z)) r x0 z x2 x3 x4 x5 x6 x7 x8 x9 x10 := by
  have hlt := h.lt
  unfold TB at h ⊢
  have h' : w.heap[r] = .cells #[.string x0, .int .i64 x1, .int .i64 x2, .int .i64 x3, .int .i64 x4, .int .i64 x5, .int .i64 x6, .string x7, .string x8, .int .i64 x9, x10] 35 (0, 0) := by simpa [Array.getElem?_eq_getElem hlt] using h
  show (w.heap.modify r _)[r]? = _
  rw [Array.getElem?_eq_getElem (by simpa using hlt), Array.getElem_modify_self, h']
  rfl
theorem TB.s2 {w : World} {r : Nat} {x0 : ByteArray} {x1 x2 x3 x4 x5 x6 : Int} {x7 x8 : ByteArray} {x9 : Int} {x10 : Value} (h : TB w r x0 x1 x2 x3 x4 x5 x6 x7 x8 x9 x10) (z : Int) : TB (w.setCell ⟨r, 2, none⟩ (.int .i64 z)) r x0 x1 z x3 x4 x5 x6 x7 x8 x9 x10 := by
  have hlt := h.lt
  unfold TB at h ⊢
  have h' : w.heap[r] = .cells #[.string x0, .int .i64 x1, .int .i64 x2, .int .i64 x3, .int .i64 x4, .int .i64 x5, .int .i64 x6, .string x7, .string x8, .int .i64 x9, x10] 35 (0, 0) := by simpa [Array.getElem?_eq_getElem hlt] using h
  show (w.heap.modify r _)[r]? = _
  rw [Array.getElem?_eq_getElem (by simpa using hlt), Array.getElem_modify_self, h']
  rfl
theorem TB.s3 {w : World} {r : Nat} {x0 : ByteArray} {x1 x2 x3 x4 x5 x6 : Int} {x7 x8 : ByteArray} {x9 : Int} {x10 : Value} (h : TB w r x0 x1 x2 x3 x4 x5 x6 x7 x8 x9 x10) (z : Int) : TB (w.setCell ⟨r, 3, none⟩ (.int .i64 z)) r x0 x1 x2 z x4 x5 x6 x7 x8 x9 x10 := by
  have hlt := h.lt
  unfold TB at h ⊢
  have h' : w.heap[r] = .cells #[.string x0, .int .i64 x1, .int .i64 x2, .int .i64 x3, .int .i64 x4, .int .i64 x5, .int .i64 x6, .string x7, .string x8, .int .i64 x9, x10] 35 (0, 0) := by simpa [Array.getElem?_eq_getElem hlt] using h
  show (w.heap.modify r _)[r]? = _
  rw [Array.getElem?_eq_getElem (by simpa using hlt), Array.getElem_modify_self, h']
  rfl
theorem TB.s4 {w : World} {r : Nat} {x0 : ByteArray} {x1 x2 x3 x4 x5 x6 : Int} {x7 x8 : ByteArray} {x9 : Int} {x10 : Value} (h : TB w r x0 x1 x2 x3 x4 x5 x6 x7 x8 x9 x10) (z : Int) : TB (w.setCell ⟨r, 4, none⟩ (.int .i64 z)) r x0 x1 x2 x3 z x5 x6 x7 x8 x9 x10 := by
  have hlt := h.lt
  unfold TB at h ⊢
  have h' : w.heap[r] = .cells #[.string x0, .int .i64 x1, .int .i64 x2, .int .i64 x3, .int .i64 x4, .int .i64 x5, .int .i64 x6, .string x7, .string x8, .int .i64 x9, x10] 35 (0, 0) := by simpa [Array.getElem?_eq_getElem hlt] using h
  show (w.heap.modify r _)[r]? = _
  rw [Array.getElem?_eq_getElem (by simpa using hlt), Array.getElem_modify_self, h']
  rfl
theorem TB.s5 {w : World} {r : Nat} {x0 : ByteArray} {x1 x2 x3 x4 x5 x6 : Int} {x7 x8 : ByteArray} {x9 : Int} {x10 : Value} (h : TB w r x0 x1 x2 x3 x4 x5 x6 x7 x8 x9 x10) (z : Int) : TB (w.setCell ⟨r, 5, none⟩ (.int .i64 z)) r x0 x1 x2 x3 x4 z x6 x7 x8 x9 x10 := by
  have hlt := h.lt
  unfold TB at h ⊢
  have h' : w.heap[r] = .cells #[.string x0, .int .i64 x1, .int .i64 x2, .int .i64 x3, .int .i64 x4, .int .i64 x5, .int .i64 x6, .string x7, .string x8, .int .i64 x9, x10] 35 (0, 0) := by simpa [Array.getElem?_eq_getElem hlt] using h
  show (w.heap.modify r _)[r]? = _
  rw [Array.getElem?_eq_getElem (by simpa using hlt), Array.getElem_modify_self, h']
  rfl
theorem TB.s6 {w : World} {r : Nat} {x0 : ByteArray} {x1 x2 x3 x4 x5 x6 : Int} {x7 x8 : ByteArray} {x9 : Int} {x10 : Value} (h : TB w r x0 x1 x2 x3 x4 x5 x6 x7 x8 x9 x10) (z : Int) : TB (w.setCell ⟨r, 6, none⟩ (.int .i64 z)) r x0 x1 x2 x3 x4 x5 z x7 x8 x9 x10 := by
  have hlt := h.lt
  unfold TB at h ⊢
  have h' : w.heap[r] = .cells #[.string x0, .int .i64 x1, .int .i64 x2, .int .i64 x3, .int .i64 x4, .int .i64 x5, .int .i64 x6, .string x7, .string x8, .int .i64 x9, x10] 35 (0, 0) := by simpa [Array.getElem?_eq_getElem hlt] using h
  show (w.heap.modify r _)[r]? = _
  rw [Array.getElem?_eq_getElem (by simpa using hlt), Array.getElem_modify_self, h']
  rfl
theorem TB.s7 {w : World} {r : Nat} {x0 : ByteArray} {x1 x2 x3 x4 x5 x6 : Int} {x7 x8 : ByteArray} {x9 : Int} {x10 : Value} (h : TB w r x0 x1 x2 x3 x4 x5 x6 x7 x8 x9 x10) (z : ByteArray) : TB (w.setCell ⟨r, 7, none⟩ (.string z)) r x0 x1 x2 x3 x4 x5 x6 z x8 x9 x10 := by
  have hlt := h.lt
  unfold TB at h ⊢
  have h' : w.heap[r] = .cells #[.string x0, .int .i64 x1, .int .i64 x2, .int .i64 x3, .int .i64 x4, .int .i64 x5, .int .i64 x6, .string x7, .string x8, .int .i64 x9, x10] 35 (0, 0) := by simpa [Array.getElem?_eq_getElem hlt] using h
  show (w.heap.modify r _)[r]? = _
  rw [Array.getElem?_eq_getElem (by simpa using hlt), Array.getElem_modify_self, h']
  rfl
theorem TB.s8 {w : World} {r : Nat} {x0 : ByteArray} {x1 x2 x3 x4 x5 x6 : Int} {x7 x8 : ByteArray} {x9 : Int} {x10 : Value} (h : TB w r x0 x1 x2 x3 x4 x5 x6 x7 x8 x9 x10) (z : ByteArray) : TB (w.setCell ⟨r, 8, none⟩ (.string z)) r x0 x1 x2 x3 x4 x5 x6 x7 z x9 x10 := by
  have hlt := h.lt
  unfold TB at h ⊢
  have h' : w.heap[r] = .cells #[.string x0, .int .i64 x1, .int .i64 x2, .int .i64 x3, .int .i64 x4, .int .i64 x5, .int .i64 x6, .string x7, .string x8, .int .i64 x9, x10] 35 (0, 0) := by simpa [Array.getElem?_eq_getElem hlt] using h
  show (w.heap.modify r _)[r]? = _
  rw [Array.getElem?_eq_getElem (by simpa using hlt), Array.getElem_modify_self, h']
  rfl
theorem TB.s9 {w : World} {r : Nat} {x0 : ByteArray} {x1 x2 x3 x4 x5 x6 : Int} {x7 x8 : ByteArray} {x9 : Int} {x10 : Value} (h : TB w r x0 x1 x2 x3 x4 x5 x6 x7 x8 x9 x10) (z : Int) : TB (w.setCell ⟨r, 9, none⟩ (.int .i64 z)) r x0 x1 x2 x3 x4 x5 x6 x7 x8 z x10 := by
  have hlt := h.lt
  unfold TB at h ⊢
  have h' : w.heap[r] = .cells #[.string x0, .int .i64 x1, .int .i64 x2, .int .i64 x3, .int .i64 x4, .int .i64 x5, .int .i64 x6, .string x7, .string x8, .int .i64 x9, x10] 35 (0, 0) := by simpa [Array.getElem?_eq_getElem hlt] using h
  show (w.heap.modify r _)[r]? = _
  rw [Array.getElem?_eq_getElem (by simpa using hlt), Array.getElem_modify_self, h']
  rfl
theorem TB.s10 {w : World} {r : Nat} {x0 : ByteArray} {x1 x2 x3 x4 x5 x6 : Int} {x7 x8 : ByteArray} {x9 : Int} {x10 : Value} (h : TB w r x0 x1 x2 x3 x4 x5 x6 x7 x8 x9 x10) (z : Value) : TB (w.setCell ⟨r, 10, none⟩ (z)) r x0 x1 x2 x3 x4 x5 x6 x7 x8 x9 z := by
  have hlt := h.lt
  unfold TB at h ⊢
  have h' : w.heap[r] = .cells #[.string x0, .int .i64 x1, .int .i64 x2, .int .i64 x3, .int .i64 x4, .int .i64 x5, .int .i64 x6, .string x7, .string x8, .int .i64 x9, x10] 35 (0, 0) := by simpa [Array.getElem?_eq_getElem hlt] using h
  show (w.heap.modify r _)[r]? = _
  rw [Array.getElem?_eq_getElem (by simpa using hlt), Array.getElem_modify_self, h']
  rfl
theorem TB.all {w : World} {r : Nat} {x0 : ByteArray} {x1 x2 x3 x4 x5 x6 : Int} {x7 x8 : ByteArray} {x9 : Int} {x10 : Value} (h : TB w r x0 x1 x2 x3 x4 x5 x6 x7 x8 x9 x10) (y0 : ByteArray) (y1 y2 y3 y4 y5 y6 : Int) (y7 y8 : ByteArray) (y9 : Int) (y10 : Value) : TB (((((((((((w.setCell ⟨r, 0, none⟩ (.string y0)).setCell ⟨r, 1, none⟩ (.int .i64 y1)).setCell ⟨r, 2, none⟩ (.int .i64 y2)).setCell ⟨r, 3, none⟩ (.int .i64 y3)).setCell ⟨r, 4, none⟩ (.int .i64 y4)).setCell ⟨r, 5, none⟩ (.int .i64 y5)).setCell ⟨r, 6, none⟩ (.int .i64 y6)).setCell ⟨r, 7, none⟩ (.string y7)).setCell ⟨r, 8, none⟩ (.string y8)).setCell ⟨r, 9, none⟩ (.int .i64 y9)).setCell ⟨r, 10, none⟩ (y10)) r y0 y1 y2 y3 y4 y5 y6 y7 y8 y9 y10 := (((((((((((h.s0 y0).s1 y1).s2 y2).s3 y3).s4 y4).s5 y5).s6 y6).s7 y7).s8 y8).s9 y9).s10 y10)
theorem size35 : (Tryz.prog.info? 35).map (·.size) = some 11 := by kernel_rfl
set_option maxHeartbeats 1000000 in
theorem toSpan_any (f t : Int) (w : World) : Calls Tryz.prog 16 #[sp f t] w fun e w' => e = .returned (sp f t) ∧ Below w.heap.size w w' := by
  go_enter Tryz.func16, Tryz.ntmps16
  go_wp2_with fail
  refine bodyPost_ret (v := sp f t) (by simp [results, Tryz.results16, go_sem]) rfl ⟨rfl, ?_⟩
  repeat' first | exact Below.refl _ _ | refine Below.setCell ?_ (by simp <;> omega) _ | refine Below.alloc ?_ (by simp <;> omega) _
set_option maxHeartbeats 1000000 in
theorem eqSpan_any (f t : Int) (w : World) : Calls Tryz.prog 26 #[sp f t, sp f t] w fun e w' => e = .returned (.bool true) ∧ Below w.heap.size w w' := by
  have hii : ∀ b : Int, (b != b) = false := fun b => by simp
  go_enter Tryz.func26, Tryz.ntmps26
  go_wp2_with fail
  go_ret
  refine ⟨rfl, ?_⟩
  repeat' first | exact Below.refl _ _ | refine Below.setCell ?_ (by simp <;> omega) _ | refine Below.alloc ?_ (by simp <;> omega) _

set_option maxRecDepth 20000 in
set_option maxHeartbeats 4000000 in
theorem to_any (C : ByteArray) (I f t d p v : Int) (W O : ByteArray) (b : Int) (u : Value) (L : Ch.Ls) (w : World) (hL : Ch.Reads w u L) (hl : L.length ≤ 1048576) :
    Calls Tryz.prog 6 #[tv C I f t d p v W O b u] w fun e w' => ∃ u2, e = .returned (tv C I f t d p v W O b u2) ∧ Ch.Row w' w.heap.size u2 L ∧ Below w.heap.size w w' := by
  have C1 : Hid (∀ w, Calls Tryz.prog 16 #[sp f t] w fun e w' => e = .returned (sp f t) ∧ Below w.heap.size w w') := fun w => toSpan_any f t w
  have C2 : Hid (∀ w, Calls Tryz.prog 17 #[Sk.sk d p v W O b] w fun e w' => e = .returned (Sk.sk d p v W O b) ∧ Below w.heap.size w w') := fun w => Sk.to_any d p v W O b w
  have C3 : Hid (∀ w', Below w.heap.size w w' → Calls Tryz.prog 18 #[u] w' fun e w'' => ∃ v', e = .returned v' ∧ Ch.Row w'' w'.heap.size v' L ∧ Below w'.heap.size w' w'') := fun w' hb => Ch.to_own w' u L (hL.on hb) hl
  obtain ⟨ua, uc, hu⟩ := hL.form
  subst hu
  clear hL hl
  obtain ⟨nL, hnL⟩ : ∃ nL, nL = L.length := ⟨_, rfl⟩
  have HNL : Hid (nL = L.length) := hnL
  rw [← hnL] at C3 ⊢
  clear hnL
  obtain ⟨wb, hwb⟩ : ∃ wb, wb = ((w.alloc (.cells #[.string C, .int .i64 I, .int .i64 f, .int .i64 t, .int .i64 d, .int .i64 p, .int .i64 v, .string W, .string O, .int .i64 b, .slice ua nL uc] 28)).alloc (.cells #[.string ⟨#[]⟩, .int .i64 0, .int .i64 0, .int .i64 0, .int .i64 0, .int .i64 0, .int .i64 0, .string ⟨#[]⟩, .string ⟨#[]⟩, .int .i64 0, (.slice none 0 0)] 35)).alloc (.cells #[.string C, .int .i64 I, .int .i64 0, .int .i64 0, .int .i64 0, .int .i64 0, .int .i64 0, .string ⟨#[]⟩, .string ⟨#[]⟩, .int .i64 0, (.slice none 0 0)] 35) := ⟨_, rfl⟩
  have HW : Hid (wb = ((w.alloc (.cells #[.string C, .int .i64 I, .int .i64 f, .int .i64 t, .int .i64 d, .int .i64 p, .int .i64 v, .string W, .string O, .int .i64 b, .slice ua nL uc] 28)).alloc (.cells #[.string ⟨#[]⟩, .int .i64 0, .int .i64 0, .int .i64 0, .int .i64 0, .int .i64 0, .int .i64 0, .string ⟨#[]⟩, .string ⟨#[]⟩, .int .i64 0, (.slice none 0 0)] 35)).alloc (.cells #[.string C, .int .i64 I, .int .i64 0, .int .i64 0, .int .i64 0, .int .i64 0, .int .i64 0, .string ⟨#[]⟩, .string ⟨#[]⟩, .int .i64 0, (.slice none 0 0)] 35)) := hwb
  have BW : Hid (Below w.heap.size w wb) := (by show Below _ _ _; rw [hwb]; exact (((Below.refl _ _).alloc (Nat.le_refl _) _).alloc (by simp) _).alloc (by simp; omega) _)
  have ZZ : Hid (wb.heap.size = w.heap.size + 3) := (by show _ = _; rw [hwb]; simp)
  have A_w0 : Hid (AB wb w.heap.size C I f t d p v W O b (.slice ua nL uc)) := (by
    show AB _ _ _ _ _ _ _ _ _ _ _ _ _
    rw [hwb]
    exact ((AB.new w C I f t d p v W O b (.slice ua nL uc)).on ((Below.refl _ _).alloc (Nat.le_refl _) _) (by simp)).on ((Below.refl _ _).alloc (Nat.le_refl _) _) (by simp; omega))
  have R_w0 : Hid (TB wb (w.heap.size + 1) ⟨#[]⟩ 0 0 0 0 0 0 ⟨#[]⟩ ⟨#[]⟩ 0 (.slice none 0 0)) := (by
    show TB _ _ _ _ _ _ _ _ _ _ _ _ _
    rw [hwb]
    have := (TB.new (w.alloc (.cells #[.string C, .int .i64 I, .int .i64 f, .int .i64 t, .int .i64 d, .int .i64 p, .int .i64 v, .string W, .string O, .int .i64 b, .slice ua nL uc] 28)) ⟨#[]⟩ 0 0 0 0 0 0 ⟨#[]⟩ ⟨#[]⟩ 0 (.slice none 0 0)).on ((Below.refl _ _).alloc (Nat.le_refl _) (.cells #[.string C, .int .i64 I, .int .i64 0, .int .i64 0, .int .i64 0, .int .i64 0, .int .i64 0, .string ⟨#[]⟩, .string ⟨#[]⟩, .int .i64 0, (.slice none 0 0)] 35)) (by simp)
    simpa using this)
  have O_w0 : Hid (TB wb (w.heap.size + 2) C I 0 0 0 0 0 ⟨#[]⟩ ⟨#[]⟩ 0 (.slice none 0 0)) := (by
    show TB _ _ _ _ _ _ _ _ _ _ _ _ _
    rw [hwb]
    have := TB.new ((w.alloc (.cells #[.string C, .int .i64 I, .int .i64 f, .int .i64 t, .int .i64 d, .int .i64 p, .int .i64 v, .string W, .string O, .int .i64 b, .slice ua nL uc] 28)).alloc (.cells #[.string ⟨#[]⟩, .int .i64 0, .int .i64 0, .int .i64 0, .int .i64 0, .int .i64 0, .int .i64 0, .string ⟨#[]⟩, .string ⟨#[]⟩, .int .i64 0, (.slice none 0 0)] 35)) C I 0 0 0 0 0 ⟨#[]⟩ ⟨#[]⟩ 0 (.slice none 0 0)
    simpa using this)
  have B_w0 : Hid (Below (w.heap.size + 2) wb wb) := Below.refl _ _
  clear hwb
  go_enter Tryz.func6, Tryz.ntmps6
  go_wp2_with fail
  rw [← HW.out]
  clear HW
  obtain ⟨w0_, hw0_⟩ : ∃ q, q = wb := ⟨_, rfl⟩
  have HW0 : Hid (w0_ = wb) := hw0_
  rw [← hw0_]
  rw [← hw0_] at A_w0 R_w0 O_w0
  have B_w0 : Hid (Below (w.heap.size + 2) wb w0_) := (by rw [hw0_]; exact Below.refl _ _)
  have Z0 : Hid (wb.heap.size ≤ w0_.heap.size) := (by rw [hw0_]; exact Nat.le_refl _)
  clear hw0_
  refine (C1.out _).mono ?_
  rintro e w1 ⟨rfl, hb⟩
  have zz := ZZ.out
  have zb := B_w0.out.size
  have Bx : Below (w.heap.size + 2) wb w1 := B_w0.out.trans (hb.mono (by omega))
  have Ax := A_w0.out.on hb (by omega)
  have Rx := R_w0.out.on hb (by omega)
  have Ox := O_w0.out.on hb (by omega)
  obtain ⟨w1_, hw1⟩ : ∃ q, q = ((w1.setCell ⟨w.heap.size + 2, 2, none⟩ (.int .i64 f)).setCell ⟨w.heap.size + 2, 3, none⟩ (.int .i64 t)) := ⟨_, rfl⟩
  have HQ : Hid (w1_ = ((w1.setCell ⟨w.heap.size + 2, 2, none⟩ (.int .i64 f)).setCell ⟨w.heap.size + 2, 3, none⟩ (.int .i64 t))) := hw1
  have A_w1 : Hid (AB w1_ w.heap.size C I f t d p v W O b (.slice ua nL uc)) := (by show AB _ _ _ _ _ _ _ _ _ _ _ _ _; rw [hw1]; exact ((Ax.keep (by omega) _ _).keep (by omega) _ _))
  have R_w1 : Hid (TB w1_ (w.heap.size + 1) ⟨#[]⟩ 0 0 0 0 0 0 ⟨#[]⟩ ⟨#[]⟩ 0 (.slice none 0 0)) := (by show TB _ _ _ _ _ _ _ _ _ _ _ _ _; rw [hw1]; exact ((Rx.keep (by omega) _ _).keep (by omega) _ _))
  have O_w1 : Hid (TB w1_ (w.heap.size + 2) C I f t 0 0 0 ⟨#[]⟩ ⟨#[]⟩ 0 (.slice none 0 0)) := (by show TB _ _ _ _ _ _ _ _ _ _ _ _ _; rw [hw1]; exact ((Ox.s2 _).s3 _))
  have B_w1 : Hid (Below (w.heap.size + 2) wb w1_) := (by rw [hw1]; exact Ch.below_cells (Nat.le_refl _) [(2, .int .i64 f), (3, .int .i64 t)] Bx)
  obtain ⟨o0, o1, o2, o3, o4, o5, o6, o7, o8, o9, o10, of⟩ := Ox.cells
  have of2 := of 2
  have of3 := of 3
  clear of hw1 zz zb
  have HBX : Hid (Below w0_.heap.size w0_ w1) := hb
  clear hb Ax Rx Ox Bx
  go_upto_region 5 with fail
  rw [← HQ.out]
  clear o0 o1 o2 o3 o4 o5 o6 o7 o8 o9 o10 of2 of3
  clear HQ HBX A_w0 R_w0 O_w0
  obtain ⟨a0, a1, a2, a3, a4, a5, a6, a7, a8, a9, a10, _⟩ := A_w1.out.cells
  go_wp2_with fail
  clear a0 a1 a2 a3 a4 a5 a6 a7 a8 a9 a10
  refine (C2.out _).mono ?_
  rintro e w2 ⟨rfl, hb⟩
  have zz := ZZ.out
  have zb := B_w1.out.size
  have Bx : Below (w.heap.size + 2) wb w2 := B_w1.out.trans (hb.mono (by omega))
  have Ax := A_w1.out.on hb (by omega)
  have Rx := R_w1.out.on hb (by omega)
  have Ox := O_w1.out.on hb (by omega)
  obtain ⟨w2_, hw2⟩ : ∃ q, q = ((((((w2.setCell ⟨w.heap.size + 2, 4, none⟩ (.int .i64 d)).setCell ⟨w.heap.size + 2, 5, none⟩ (.int .i64 p)).setCell ⟨w.heap.size + 2, 6, none⟩ (.int .i64 v)).setCell ⟨w.heap.size + 2, 7, none⟩ (.string W)).setCell ⟨w.heap.size + 2, 8, none⟩ (.string O)).setCell ⟨w.heap.size + 2, 9, none⟩ (.int .i64 b)) := ⟨_, rfl⟩
  have HQ : Hid (w2_ = ((((((w2.setCell ⟨w.heap.size + 2, 4, none⟩ (.int .i64 d)).setCell ⟨w.heap.size + 2, 5, none⟩ (.int .i64 p)).setCell ⟨w.heap.size + 2, 6, none⟩ (.int .i64 v)).setCell ⟨w.heap.size + 2, 7, none⟩ (.string W)).setCell ⟨w.heap.size + 2, 8, none⟩ (.string O)).setCell ⟨w.heap.size + 2, 9, none⟩ (.int .i64 b))) := hw2
  have A_w2 : Hid (AB w2_ w.heap.size C I f t d p v W O b (.slice ua nL uc)) := (by show AB _ _ _ _ _ _ _ _ _ _ _ _ _; rw [hw2]; exact ((((((Ax.keep (by omega) _ _).keep (by omega) _ _).keep (by omega) _ _).keep (by omega) _ _).keep (by omega) _ _).keep (by omega) _ _))
  have R_w2 : Hid (TB w2_ (w.heap.size + 1) ⟨#[]⟩ 0 0 0 0 0 0 ⟨#[]⟩ ⟨#[]⟩ 0 (.slice none 0 0)) := (by show TB _ _ _ _ _ _ _ _ _ _ _ _ _; rw [hw2]; exact ((((((Rx.keep (by omega) _ _).keep (by omega) _ _).keep (by omega) _ _).keep (by omega) _ _).keep (by omega) _ _).keep (by omega) _ _))
  have O_w2 : Hid (TB w2_ (w.heap.size + 2) C I f t d p v W O b (.slice none 0 0)) := (by show TB _ _ _ _ _ _ _ _ _ _ _ _ _; rw [hw2]; exact ((((((Ox.s4 _).s5 _).s6 _).s7 _).s8 _).s9 _))
  have B_w2 : Hid (Below (w.heap.size + 2) wb w2_) := (by rw [hw2]; exact Ch.below_cells (Nat.le_refl _) [(4, .int .i64 d), (5, .int .i64 p), (6, .int .i64 v), (7, .string W), (8, .string O), (9, .int .i64 b)] Bx)
  obtain ⟨o0, o1, o2, o3, o4, o5, o6, o7, o8, o9, o10, of⟩ := Ox.cells
  have of4 := of 4
  have of5 := of 5
  have of6 := of 6
  have of7 := of 7
  have of8 := of 8
  have of9 := of 9
  clear of hw2 zz zb
  have HBX : Hid (Below w1_.heap.size w1_ w2) := hb
  clear hb Ax Rx Ox Bx
  go_upto_region 6 with fail
  rw [← HQ.out]
  clear o0 o1 o2 o3 o4 o5 o6 o7 o8 o9 o10 of4 of5 of6 of7 of8 of9
  clear HQ HBX A_w1 R_w1 O_w1
  obtain ⟨a0, a1, a2, a3, a4, a5, a6, a7, a8, a9, a10, _⟩ := A_w2.out.cells
  go_wp2_with fail
  clear a0 a1 a2 a3 a4 a5 a6 a7 a8 a9 a10
  refine (C3.out _ (BW.out.trans (B_w2.out.mono (by omega)))).mono ?_
  rintro e w3 ⟨v2, rfl, rr, hb⟩
  obtain ⟨sa2, sc2, hv2⟩ := rr.reads.form
  subst hv2
  have HB2 : Hid (∀ k, (Value.slice sa2 L.length sc2).ownBlock = some k → w2_.heap.size ≤ k) := fun k hk => (by obtain ⟨xs, h1, _⟩ := rr; exact (h1.lt k hk).1)
  have zz := ZZ.out
  have zb := B_w2.out.size
  have Bx : Below (w.heap.size + 2) wb w3 := B_w2.out.trans (hb.mono (by omega))
  have Ax := A_w2.out.on hb (by omega)
  have Rx := R_w2.out.on hb (by omega)
  have Ox := O_w2.out.on hb (by omega)
  obtain ⟨w3_, hw3⟩ : ∃ q, q = (w3.setCell ⟨w.heap.size + 2, 10, none⟩ ((.slice sa2 L.length sc2))) := ⟨_, rfl⟩
  have HQ : Hid (w3_ = (w3.setCell ⟨w.heap.size + 2, 10, none⟩ ((.slice sa2 L.length sc2)))) := hw3
  have A_w3 : Hid (AB w3_ w.heap.size C I f t d p v W O b (.slice ua nL uc)) := (by show AB _ _ _ _ _ _ _ _ _ _ _ _ _; rw [hw3]; exact (Ax.keep (by omega) _ _))
  have R_w3 : Hid (TB w3_ (w.heap.size + 1) ⟨#[]⟩ 0 0 0 0 0 0 ⟨#[]⟩ ⟨#[]⟩ 0 (.slice none 0 0)) := (by show TB _ _ _ _ _ _ _ _ _ _ _ _ _; rw [hw3]; exact (Rx.keep (by omega) _ _))
  have O_w3 : Hid (TB w3_ (w.heap.size + 2) C I f t d p v W O b (.slice sa2 L.length sc2)) := (by show TB _ _ _ _ _ _ _ _ _ _ _ _ _; rw [hw3]; exact (Ox.s10 _))
  have B_w3 : Hid (Below (w.heap.size + 2) wb w3_) := (by rw [hw3]; exact Ch.below_cells (Nat.le_refl _) [(10, (.slice sa2 L.length sc2))] Bx)
  obtain ⟨o0, o1, o2, o3, o4, o5, o6, o7, o8, o9, o10, of⟩ := Ox.cells
  have of10 := of 10
  clear of hw3 zz zb
  have RW : Hid (Ch.Row w3 w2_.heap.size (.slice sa2 L.length sc2) L) := rr
  clear rr
  have HBX : Hid (Below w2_.heap.size w2_ w3) := hb
  clear hb Ax Rx Ox Bx
  go_upto_region 7 with fail
  rw [← HQ.out]
  clear o0 o1 o2 o3 o4 o5 o6 o7 o8 o9 o10 of10
  obtain ⟨o0, o1, o2, o3, o4, o5, o6, o7, o8, o9, o10, _⟩ := O_w3.out.cells
  obtain ⟨r0, r1, r2, r3, r4, r5, r6, r7, r8, r9, r10, rf⟩ := R_w3.out.cells
  have rf0 := rf 0
  have rf1 := rf 1
  have rf2 := rf 2
  have rf3 := rf 3
  have rf4 := rf 4
  have rf5 := rf 5
  have rf6 := rf 6
  have rf7 := rf 7
  have rf8 := rf 8
  have rf9 := rf 9
  have rf10 := rf 10
  clear rf
  have zz := ZZ.out
  have z2 : wb.heap.size ≤ w2_.heap.size := B_w2.out.size
  have RE : Hid (Ch.Row (((((((((((w3_.setCell ⟨w.heap.size + 1, 0, none⟩ (.string C)).setCell ⟨w.heap.size + 1, 1, none⟩ (.int .i64 I)).setCell ⟨w.heap.size + 1, 2, none⟩ (.int .i64 f)).setCell ⟨w.heap.size + 1, 3, none⟩ (.int .i64 t)).setCell ⟨w.heap.size + 1, 4, none⟩ (.int .i64 d)).setCell ⟨w.heap.size + 1, 5, none⟩ (.int .i64 p)).setCell ⟨w.heap.size + 1, 6, none⟩ (.int .i64 v)).setCell ⟨w.heap.size + 1, 7, none⟩ (.string W)).setCell ⟨w.heap.size + 1, 8, none⟩ (.string O)).setCell ⟨w.heap.size + 1, 9, none⟩ (.int .i64 b)).setCell ⟨w.heap.size + 1, 10, none⟩ ((.slice sa2 L.length sc2))) w.heap.size (.slice sa2 L.length sc2) L) := (by
    obtain ⟨xs, h1, h2⟩ := RW.out
    refine ⟨xs, ?_, h2⟩
    have hne : ∀ k, (Value.slice sa2 L.length sc2).ownBlock = some k → w.heap.size + 3 ≤ k := fun k hk => (by have := HB2.out k hk; omega)
    have q0 := ownsRow_setCell_other h1 (a := ⟨w.heap.size + 2, 10, none⟩) (fun e => by have := hne _ e; simp at this) (.slice sa2 L.length sc2)
    rw [← HQ.out] at q0
    have q1 := ownsRow_setCell_other q0 (a := ⟨w.heap.size + 1, 0, none⟩) (fun e => by have := hne _ e; simp at this) (.string C)
    have q2 := ownsRow_setCell_other q1 (a := ⟨w.heap.size + 1, 1, none⟩) (fun e => by have := hne _ e; simp at this) (.int .i64 I)
    have q3 := ownsRow_setCell_other q2 (a := ⟨w.heap.size + 1, 2, none⟩) (fun e => by have := hne _ e; simp at this) (.int .i64 f)
    have q4 := ownsRow_setCell_other q3 (a := ⟨w.heap.size + 1, 3, none⟩) (fun e => by have := hne _ e; simp at this) (.int .i64 t)
    have q5 := ownsRow_setCell_other q4 (a := ⟨w.heap.size + 1, 4, none⟩) (fun e => by have := hne _ e; simp at this) (.int .i64 d)
    have q6 := ownsRow_setCell_other q5 (a := ⟨w.heap.size + 1, 5, none⟩) (fun e => by have := hne _ e; simp at this) (.int .i64 p)
    have q7 := ownsRow_setCell_other q6 (a := ⟨w.heap.size + 1, 6, none⟩) (fun e => by have := hne _ e; simp at this) (.int .i64 v)
    have q8 := ownsRow_setCell_other q7 (a := ⟨w.heap.size + 1, 7, none⟩) (fun e => by have := hne _ e; simp at this) (.string W)
    have q9 := ownsRow_setCell_other q8 (a := ⟨w.heap.size + 1, 8, none⟩) (fun e => by have := hne _ e; simp at this) (.string O)
    have q10 := ownsRow_setCell_other q9 (a := ⟨w.heap.size + 1, 9, none⟩) (fun e => by have := hne _ e; simp at this) (.int .i64 b)
    have q11 := ownsRow_setCell_other q10 (a := ⟨w.heap.size + 1, 10, none⟩) (fun e => by have := hne _ e; simp at this) ((.slice sa2 L.length sc2))
    refine ⟨q11.1, ?_⟩
    rcases q11.2 with x | ⟨g, cap, cur, e1, e2, e3⟩
    · exact .inl x
    · exact .inr ⟨g, cap, cur, e1, by omega, e3⟩)
  have BE : Hid (Below w.heap.size w (((((((((((w3_.setCell ⟨w.heap.size + 1, 0, none⟩ (.string C)).setCell ⟨w.heap.size + 1, 1, none⟩ (.int .i64 I)).setCell ⟨w.heap.size + 1, 2, none⟩ (.int .i64 f)).setCell ⟨w.heap.size + 1, 3, none⟩ (.int .i64 t)).setCell ⟨w.heap.size + 1, 4, none⟩ (.int .i64 d)).setCell ⟨w.heap.size + 1, 5, none⟩ (.int .i64 p)).setCell ⟨w.heap.size + 1, 6, none⟩ (.int .i64 v)).setCell ⟨w.heap.size + 1, 7, none⟩ (.string W)).setCell ⟨w.heap.size + 1, 8, none⟩ (.string O)).setCell ⟨w.heap.size + 1, 9, none⟩ (.int .i64 b)).setCell ⟨w.heap.size + 1, 10, none⟩ ((.slice sa2 L.length sc2)))) := Ch.below_cells (Nat.le_add_right _ 1) [(0, .string C), (1, .int .i64 I), (2, .int .i64 f), (3, .int .i64 t), (4, .int .i64 d), (5, .int .i64 p), (6, .int .i64 v), (7, .string W), (8, .string O), (9, .int .i64 b), (10, (.slice sa2 L.length sc2))] (BW.out.trans (B_w3.out.mono (by omega)))
  have RF : Hid (TB (((((((((((w3_.setCell ⟨w.heap.size + 1, 0, none⟩ (.string C)).setCell ⟨w.heap.size + 1, 1, none⟩ (.int .i64 I)).setCell ⟨w.heap.size + 1, 2, none⟩ (.int .i64 f)).setCell ⟨w.heap.size + 1, 3, none⟩ (.int .i64 t)).setCell ⟨w.heap.size + 1, 4, none⟩ (.int .i64 d)).setCell ⟨w.heap.size + 1, 5, none⟩ (.int .i64 p)).setCell ⟨w.heap.size + 1, 6, none⟩ (.int .i64 v)).setCell ⟨w.heap.size + 1, 7, none⟩ (.string W)).setCell ⟨w.heap.size + 1, 8, none⟩ (.string O)).setCell ⟨w.heap.size + 1, 9, none⟩ (.int .i64 b)).setCell ⟨w.heap.size + 1, 10, none⟩ ((.slice sa2 L.length sc2))) (w.heap.size + 1) C I f t d p v W O b (.slice sa2 L.length sc2)) := R_w3.out.all C I f t d p v W O b (.slice sa2 L.length sc2)
  clear zz z2 HQ HBX RW A_w3
  rw [HNL.out]
  go_wp2_with fail
  exact bodyPost_ret (v := tv C I f t d p v W O b (.slice sa2 L.length sc2)) (results_cell_row Tryz.results6 _ _ (w.heap.size + 1) 35 _ (0, 0) _ rfl RF.out Tryz.underlying35 rfl size35) rfl ⟨_, rfl, RE.out, BE.out⟩
end Go.Proofs.YtoaabdmbgemkjaaGreatDoor.Tf
