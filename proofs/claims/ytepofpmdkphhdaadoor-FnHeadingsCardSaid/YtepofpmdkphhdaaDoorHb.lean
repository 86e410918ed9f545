/- A heading drawn of a code: its box, the words it is drawn from, a mark drawn. -/
import Derived.Test.YtepofpmdkphhdaaDoorHok
import Derived.Test.YtepofpmdkphhdaaDoorRdJ
import Derived.OneCell
import Derived.Laws.BytesArg
import Derived.Deep.DeepCutAuto
import Derived.Deep.Cut
import Derived.Deep.RegionWith
import Derived.Deep.RegionHeld3
import Derived.Deep.DrawnRows
import Derived.Deep.DeepMust
import Derived.Deep.RegionHeldLaw
namespace Go.Proofs.YtepofpmdkphhdaaDoor.Hd
open Go.ChangeShapes Go.WideShapes Go.ChangeAt Go.RowKit
open Go.Proofs.YtepofpmdkphhdaaDoor.Rd Mk Fig Head
abbrev E : ByteArray := ⟨#[]⟩
def HB (w : World) (r : Nat) (x0 x1 : ByteArray) (x2 : Int) (x3 : ByteArray) (x4 x5 x6 : Int) (x7 : ByteArray) : Prop := w.heap[r]? = some (.cells #[.string x0, .string x1, .int .i64 x2, .string x3, .int .i64 x4, .int .i64 x5, .int .i64 x6, .string x7] 25 (0, 0))
theorem HB.lt {w : World} {r : Nat} {x0 x1 : ByteArray} {x2 : Int} {x3 : ByteArray} {x4 x5 x6 : Int} {x7 : ByteArray} (h : HB w r x0 x1 x2 x3 x4 x5 x6 x7) : r < w.heap.size := lt_of_block h
theorem HB.on {w : World} {r : Nat} {x0 x1 : ByteArray} {x2 : Int} {x3 : ByteArray} {x4 x5 x6 : Int} {x7 : ByteArray} {w' : World} {B : Nat} (h : HB w r x0 x1 x2 x3 x4 x5 x6 x7) (hb : Below B w w') (hr : r < B) : HB w' r x0 x1 x2 x3 x4 x5 x6 x7 := (hb.block r hr).trans h
theorem HB.new (w : World) (x0 x1 : ByteArray) (x2 : Int) (x3 : ByteArray) (x4 x5 x6 : Int) (x7 : ByteArray) : HB (w.alloc (.cells #[.string x0, .string x1, .int .i64 x2, .string x3, .int .i64 x4, .int .i64 x5, .int .i64 x6, .string x7] 25)) w.heap.size x0 x1 x2 x3 x4 x5 x6 x7 := heap_alloc_new w _
theorem HB.keep {w : World} {r : Nat} {x0 x1 : ByteArray} {x2 : Int} {x3 : ByteArray} {x4 x5 x6 : Int} {x7 : ByteArray} (h : HB w r x0 x1 x2 x3 x4 x5 x6 x7) {r' : Nat} (hne : r ≠ r') (o : Nat) (x : Value) : HB (w.setCell ⟨r', o, none⟩ x) r x0 x1 x2 x3 x4 x5 x6 x7 := (Below.heap_setCell w ⟨r', o, none⟩ x r hne).trans h
theorem HB.cells {w : World} {r : Nat} {x0 x1 : ByteArray} {x2 : Int} {x3 : ByteArray} {x4 x5 x6 : Int} {x7 : ByteArray} (h : HB w r x0 x1 x2 x3 x4 x5 x6 x7) : w.cell? ⟨r, 0, none⟩ = some (.string x0) ∧ w.cell? ⟨r, 1, none⟩ = some (.string x1) ∧ w.cell? ⟨r, 2, none⟩ = some (.int .i64 x2) ∧ w.cell? ⟨r, 3, none⟩ = some (.string x3) ∧ w.cell? ⟨r, 4, none⟩ = some (.int .i64 x4) ∧ w.cell? ⟨r, 5, none⟩ = some (.int .i64 x5) ∧ w.cell? ⟨r, 6, none⟩ = some (.int .i64 x6) ∧ w.cell? ⟨r, 7, none⟩ = some (.string x7) ∧ ∀ o, w.frozen? ⟨r, o, none⟩ = false := by
  unfold HB at h
  simp [World.cell?, World.frozen?, h]
theorem HB.s0 {w : World} {r : Nat} {x0 x1 : ByteArray} {x2 : Int} {x3 : ByteArray} {x4 x5 x6 : Int} {x7 : ByteArray} (h : HB w r x0 x1 x2 x3 x4 x5 x6 x7) (z : ByteArray) : HB (w.setCell ⟨r, 0, none⟩ (.string z)) r z x1 x2 x3 x4 x5 x6 x7 := by
  have hlt := h.lt
  unfold HB at h ⊢
  have h' : w.heap[r] = .cells #[.string x0, .string x1, .int .i64 x2, .string x3, .int .i64 x4, .int .i64 x5, .int .i64 x6, .string x7] 25 (0, 0) := by simpa [Array.getElem?_eq_getElem hlt] using h
  show (w.heap.modify r _)[r]? = _
  rw [Array.getElem?_eq_getElem (by simpa using hlt), Array.getElem_modify_self, h']
  rfl
theorem HB.s1 {w : World} {r : Nat} {x0 x1 : ByteArray} {x2 : Int} {x3 : ByteArray} {x4 x5 x6 : Int} {x7 : ByteArray} (h : HB w r x0 x1 x2 x3 x4 x5 x6 x7) (z : ByteArray) : HB (w.setCell ⟨r, 1, none⟩ (.string z)) r x0 z x2 x3 x4 x5 x6 x7 := by
  have hlt := h.lt
  unfold HB at h ⊢
  have h' : w.heap[r] = .cells #[.string x0, .string x1, .int .i64 x2, .string x3, .int .i64 x4, .int .i64 x5, .int .i64 x6, .string x7] 25 (0, 0) := by simpa [Array.getElem?_eq_getElem hlt] using h
  show (w.heap.modify r _)[r]? = _
  rw [Array.getElem?_eq_getElem (by simpa using hlt), Array.getElem_modify_self, h']
  rfl
theorem HB.s2 {w : World} {r : Nat} {x0 x1 : ByteArray} {x2 : Int} {x3 : ByteArray} {x4 x5 x6 : Int} {x7 : ByteArray} (h : HB w r x0 x1 x2 x3 x4 x5 x6 x7) (z : Int) : HB (w.setCell ⟨r, 2, none⟩ (.int .i64 z)) r x0 x1 z x3 x4 x5 x6 x7 := by
  have hlt := h.lt
  unfold HB at h ⊢
  have h' : w.heap[r] = .cells #[.string x0, .string x1, .int .i64 x2, .string x3, .int .i64 x4, .int .i64 x5, .int .i64 x6, .string x7] 25 (0, 0) := by simpa [Array.getElem?_eq_getElem hlt] using h
  show (w.heap.modify r _)[r]? = _
  rw [Array.getElem?_eq_getElem (by simpa using hlt), Array.getElem_modify_self, h']
  rfl
theorem HB.s3 {w : World} {r : Nat} {x0 x1 : ByteArray} {x2 : Int} {x3 : ByteArray} {x4 x5 x6 : Int} {x7 : ByteArray} (h : HB w r x0 x1 x2 x3 x4 x5 x6 x7) (z : ByteArray) : HB (w.setCell ⟨r, 3, none⟩ (.string z)) r x0 x1 x2 z x4 x5 x6 x7 := by
  have hlt := h.lt
  unfold HB at h ⊢
  have h' : w.heap[r] = .cells #[.string x0, .string x1, .int .i64 x2, .string x3, .int .i64 x4, .int .i64 x5, .int .i64 x6, .string x7] 25 (0, 0) := by simpa [Array.getElem?_eq_getElem hlt] using h
  show (w.heap.modify r _)[r]? = _
  rw [Array.getElem?_eq_getElem (by simpa using hlt), Array.getElem_modify_self, h']
  rfl
theorem HB.s4 {w : World} {r : Nat} {x0 x1 : ByteArray} {x2 : Int} {x3 : ByteArray} {x4 x5 x6 : Int} {x7 : ByteArray} (h : HB w r x0 x1 x2 x3 x4 x5 x6 x7) (z : Int) : HB (w.setCell ⟨r, 4, none⟩ (.int .i64 z)) r x0 x1 x2 x3 z x5 x6 x7 := by
  have hlt := h.lt
  unfold HB at h ⊢
  have h' : w.heap[r] = .cells #[.string x0, .string x1, .int .i64 x2, .string x3, .int .i64 x4, .int .i64 x5, .int .i64 x6, .string x7] 25 (0, 0) := by simpa [Array.getElem?_eq_getElem hlt] using h
  show (w.heap.modify r _)[r]? = _
  rw [Array.getElem?_eq_getElem (by simpa using hlt), Array.getElem_modify_self, h']
  rfl
theorem HB.s5 {w : World} {r : Nat} {x0 x1 : ByteArray} {x2 : Int} {x3 : ByteArray} {x4 x5 x6 : Int} {x7 : ByteArray} (h : HB w r x0 x1 x2 x3 x4 x5 x6 x7) (z : Int) : HB (w.setCell ⟨r, 5, none⟩ (.int .i64 z)) r x0 x1 x2 x3 x4 z x6 x7 := by
  have hlt := h.lt
  unfold HB at h ⊢
  have h' : w.heap[r] = .cells #[.string x0, .string x1, .int .i64 x2, .string x3, .int .i64 x4, .int .i64 x5, .int .i64 x6, .string x7] 25 (0, 0) := by simpa [Array.getElem?_eq_getElem hlt] using h
  show (w.heap.modify r _)[r]? = _
  rw [Array.getElem?_eq_getElem (by simpa using hlt), Array.getElem_modify_self, h']
  rfl
theorem HB.s6 {w : World} {r : Nat} {x0 x1 : ByteArray} {x2 : Int} {x3 : ByteArray} {x4 x5 x6 : Int} {x7 : ByteArray} (h : HB w r x0 x1 x2 x3 x4 x5 x6 x7) (z : Int) : HB (w.setCell ⟨r, 6, none⟩ (.int .i64 z)) r x0 x1 x2 x3 x4 x5 z x7 := by
  have hlt := h.lt
  unfold HB at h ⊢
  have h' : w.heap[r] = .cells #[.string x0, .string x1, .int .i64 x2, .string x3, .int .i64 x4, .int .i64 x5, .int .i64 x6, .string x7] 25 (0, 0) := by simpa [Array.getElem?_eq_getElem hlt] using h
  show (w.heap.modify r _)[r]? = _
  rw [Array.getElem?_eq_getElem (by simpa using hlt), Array.getElem_modify_self, h']
  rfl
theorem HB.s7 {w : World} {r : Nat} {x0 x1 : ByteArray} {x2 : Int} {x3 : ByteArray} {x4 x5 x6 : Int} {x7 : ByteArray} (h : HB w r x0 x1 x2 x3 x4 x5 x6 x7) (z : ByteArray) : HB (w.setCell ⟨r, 7, none⟩ (.string z)) r x0 x1 x2 x3 x4 x5 x6 z := by
  have hlt := h.lt
  unfold HB at h ⊢
  have h' : w.heap[r] = .cells #[.string x0, .string x1, .int .i64 x2, .string x3, .int .i64 x4, .int .i64 x5, .int .i64 x6, .string x7] 25 (0, 0) := by simpa [Array.getElem?_eq_getElem hlt] using h
  show (w.heap.modify r _)[r]? = _
  rw [Array.getElem?_eq_getElem (by simpa using hlt), Array.getElem_modify_self, h']
  rfl
theorem HB.all {w : World} {r : Nat} {x0 x1 : ByteArray} {x2 : Int} {x3 : ByteArray} {x4 x5 x6 : Int} {x7 : ByteArray} (h : HB w r x0 x1 x2 x3 x4 x5 x6 x7) (y0 y1 : ByteArray) (y2 : Int) (y3 : ByteArray) (y4 y5 y6 : Int) (y7 : ByteArray) : HB ((((((((w.setCell ⟨r, 0, none⟩ (.string y0)).setCell ⟨r, 1, none⟩ (.string y1)).setCell ⟨r, 2, none⟩ (.int .i64 y2)).setCell ⟨r, 3, none⟩ (.string y3)).setCell ⟨r, 4, none⟩ (.int .i64 y4)).setCell ⟨r, 5, none⟩ (.int .i64 y5)).setCell ⟨r, 6, none⟩ (.int .i64 y6)).setCell ⟨r, 7, none⟩ (.string y7)) r y0 y1 y2 y3 y4 y5 y6 y7 := ((((((((h.s0 y0).s1 y1).s2 y2).s3 y3).s4 y4).s5 y5).s6 y6).s7 y7)

theorem blk_turn {r k : Nat} {w w' : World} {o : Obj} (h : w.heap[k]? = some o) (t : Turn r w w') (hk : k ≠ r) : w'.heap[k]? = some o := by
  have hlt := lt_of_block h
  rw [← h]
  by_cases hb : k < r
  · exact t.bel.block k hb
  · exact t.abv k (by omega) hlt
theorem blk_alloc {k : Nat} {w : World} {o : Obj} (h : w.heap[k]? = some o) (o' : Obj) : (w.alloc o').heap[k]? = some o := by
  have hlt := lt_of_block h
  exact (((Below.refl w.heap.size w).alloc (Nat.le_refl _) o').block k hlt).trans h
/-- what lies behind the answer's block -/
structure LT (r : Nat) (W : World) (o : Obj) (wx : World) (b : Nat) : Prop where
  on : wx.heap[b]? = some o
  hb : W.heap.size < b
  lt : r < W.heap.size
theorem LT.turn {r : Nat} {W wx w' : World} {o : Obj} {b : Nat} (h : LT r W o wx b) (t : Turn r wx w') : LT r W o w' b :=
  ⟨blk_turn h.on t (by have := h.hb; have := h.lt; omega), h.hb, h.lt⟩
theorem LT.alloc {r : Nat} {W wx : World} {o : Obj} {b : Nat} (h : LT r W o wx b) (o' : Obj) : LT r W o (wx.alloc o') b := ⟨blk_alloc h.on o', h.hb, h.lt⟩
theorem blk_cell {w : World} {b i : Nat} {l : List Value} {t : TypeId} {v : Value} (h : w.heap[b]? = some (.cells l.toArray t)) (hl : l[i]? = some v) : w.cell? ⟨b, i, none⟩ = some v := by
  simp [World.cell?, h, hl]
abbrev WK : List Value := [.string ⟨#[83, 77]⟩, .string ⟨#[83, 73]⟩, .string ⟨#[85, 83]⟩, .string ⟨#[70, 84]⟩, .string ⟨#[87, 87]⟩]
abbrev WA : List Value := [.string ⟨#[68, 76]⟩, .string ⟨#[78, 79]⟩, .string ⟨#[88, 88]⟩]
abbrev WC : List Value := [.string ⟨#[65, 77, 77, 67]⟩, .string ⟨#[69, 78, 77, 73]⟩, .string ⟨#[75, 49, 65, 65]⟩]
abbrev oK : Obj := .cells #[.string ⟨#[83, 77]⟩, .string ⟨#[83, 73]⟩, .string ⟨#[85, 83]⟩, .string ⟨#[70, 84]⟩, .string ⟨#[87, 87]⟩] 9
abbrev oA : Obj := .cells #[.string ⟨#[68, 76]⟩, .string ⟨#[78, 79]⟩, .string ⟨#[88, 88]⟩] 9
abbrev oC : Obj := .cells #[.string ⟨#[65, 77, 77, 67]⟩, .string ⟨#[69, 78, 77, 73]⟩, .string ⟨#[75, 49, 65, 65]⟩] 9
abbrev oH : Obj := .cells #[.string E, .string E, .int .i64 0, .string E, .int .i64 0, .int .i64 0, .int .i64 0, .string E] 25
theorem kind_of (z : Int) (h0 : 0 ≤ z) (h1 : z < 5) : ∃ q, two q = true ∧ WK[z.toNat]? = some (.string q) := by
  have : z = 0 ∨ z = 1 ∨ z = 2 ∨ z = 3 ∨ z = 4 := by omega
  rcases this with rfl | rfl | rfl | rfl | rfl
  all_goals exact ⟨_, by rfl, rfl⟩
theorem area_of (z : Int) (h0 : 0 ≤ z) (h1 : z < 3) : ∃ q, two q = true ∧ WA[z.toNat]? = some (.string q) := by
  have : z = 0 ∨ z = 1 ∨ z = 2 := by omega
  rcases this with rfl | rfl | rfl
  all_goals exact ⟨_, by rfl, rfl⟩
theorem centre_of (z : Int) (h0 : 0 ≤ z) (h1 : z < 3) : ∃ q, cen q = true ∧ WC[z.toNat]? = some (.string q) := by
  have : z = 0 ∨ z = 1 ∨ z = 2 := by omega
  rcases this with rfl | rfl | rfl
  all_goals exact ⟨_, by rfl, rfl⟩

theorem cv_one (c : Int) (X : World) : (convert 22 9 (.slice (some ⟨X.heap.size, 0, none⟩) 1 1)).run Tryd.prog (X.alloc (.cells #[.int .u8 c] 5)) = .ok (.string (strOfNums [c])) (X.alloc (.cells #[.int .u8 c] 5)) :=
  run_convert_bytes_arg (P := Tryd.prog) _ 22 5 Tryd.underlying22 Tryd.underlying5 X.heap.size 0 1 1 [c] rfl (fun i hi => by
    have : i = 0 := by omega
    subst this
    simp [go_sem]) 9 Tryd.underlying9
theorem one_size (c : Int) : (strOfNums [c]).size = 1 := by simp [strOfNums, ByteArray.size]
set_option maxRecDepth 20000 in
set_option maxHeartbeats 4000000 in
theorem mark_any (r : Nat) (w : World) (h : Rd r w) : Calls Tryd.prog 28 #[.pointer (some ⟨r, 0, none⟩)] w fun e w' => (∃ M : ByteArray, e = .returned (.string M) ∧ M.size ≤ 3) ∧ Rd r w' ∧ Turn r w w' := by
  have hr := h.lt
  go_enter Tryd.func28, Tryd.ntmps28
  go_wp2_with fail
  refine (below_any r _ h 26 (by omega) (by omega)).mono ?_
  rintro e w1 ⟨⟨u, ⟨hu1, hu2⟩, rfl⟩, k1, t1⟩
  have e1 : IntKind.i64.wrap (65 + u) = 65 + u := IntWalk.i64_in _ (by omega)
  have cv := cv_one (65 + u) w1
  have sz := one_size (65 + u)
  generalize strOfNums [65 + u] = A at *
  have K1 : Hid (Rd r (w1.alloc (.cells #[.int .u8 (65 + u)] 5))) := k1.kept ((Below.refl w1.heap.size w1).alloc (Nat.le_refl _) _) k1.lt
  have T1 : Hid (Turn r w (w1.alloc (.cells #[.int .u8 (65 + u)] 5))) := t1.alloc hr _
  clear k1 t1 h
  go_upto_region 2 with fail
  generalize hw2 : w1.alloc (.cells #[.int .u8 (65 + u)] 5) = w2 at *
  clear hw2 cv
  go_wp2_with fail
  refine (below_any r _ K1.out 8 (by omega) (by omega)).mono ?_
  rintro e w3 ⟨⟨v, ⟨hv1, hv2⟩, rfl⟩, k3, t3⟩
  have K3 : Hid (Rd r w3) := k3
  have T3 : Hid (Turn r w w3) := T1.out.trans t3
  clear k3 t3 K1 T1 e1 hu1 hu2
  have sA : A.size = 1 := sz
  have u2 : ¬ 9223372036854775807 < 2 + A.size := by omega
  have z2 : ∀ x y : UInt8, ((⟨#[x, y]⟩ : ByteArray) ++ A).size ≤ 3 := fun x y => by rw [ByteArray.size_append]; show 2 + A.size ≤ 3; omega
  rcases (by omega : v = 0 ∨ v = 1 ∨ v = 2 ∨ v = 3 ∨ v = 4 ∨ v = 5 ∨ v = 6 ∨ v = 7) with rfl | rfl | rfl | rfl | rfl | rfl | rfl | rfl
  · go_wp2_with fail
    go_ret
    exact ⟨⟨_, rfl, by decide⟩, K3.out, T3.out⟩
  · go_wp2_with fail
    go_ret
    exact ⟨⟨_, rfl, by decide⟩, K3.out, T3.out⟩
  · go_wp2_with fail
    go_ret
    exact ⟨⟨_, rfl, by decide⟩, K3.out, T3.out⟩
  · go_wp2_with fail
    go_ret
    exact ⟨⟨_, rfl, z2 _ _⟩, K3.out, T3.out⟩
  · go_wp2_with fail
    go_ret
    exact ⟨⟨_, rfl, z2 _ _⟩, K3.out, T3.out⟩
  · go_wp2_with fail
    go_ret
    exact ⟨⟨_, rfl, z2 _ _⟩, K3.out, T3.out⟩
  · go_wp2_with fail
    refine (below_any r _ K3.out 26 (by omega) (by omega)).mono ?_
    rintro e w4 ⟨⟨y, ⟨hy1, hy2⟩, rfl⟩, k4, t4⟩
    have e1 : IntKind.i64.wrap (65 + y) = 65 + y := IntWalk.i64_in _ (by omega)
    have cv := cv_one (65 + y) w4
    have sB := one_size (65 + y)
    generalize strOfNums [65 + y] = B at *
    have K4 : Hid (Rd r (w4.alloc (.cells #[.int .u8 (65 + y)] 5)) ∧ Turn r w (w4.alloc (.cells #[.int .u8 (65 + y)] 5))) := ⟨k4.kept ((Below.refl w4.heap.size w4).alloc (Nat.le_refl _) _) k4.lt, (T3.out.trans t4).alloc hr _⟩
    have u3 : ¬ 9223372036854775807 < 1 + B.size := by omega
    have u4 : ¬ 9223372036854775807 < 1 + B.size + A.size := by omega
    have z3 : ((⟨#[80]⟩ : ByteArray) ++ B ++ A).size ≤ 3 := by rw [ByteArray.size_append, ByteArray.size_append]; show 1 + B.size + A.size ≤ 3; omega
    clear k4 t4
    go_wp2_with fail
    go_ret
    exact ⟨⟨_, rfl, z3⟩, K4.out.1, K4.out.2⟩
  · have kA : Hid (Rd r (w3.alloc (.cells #[.string ⟨#[82, 82, 88]⟩, .string ⟨#[67, 67, 88]⟩, .string ⟨#[80, 90, 90]⟩, .string ⟨#[80, 65, 65]⟩, .string ⟨#[65, 65, 88]⟩] 9))) := K3.out.kept ((Below.refl w3.heap.size w3).alloc (Nat.le_refl _) _) K3.out.lt
    have hne : w3.heap.size ≠ r := by have := K3.out.lt; omega
    go_wp2_with fail
    refine (below_any r _ kA.out 5 (by omega) (by omega)).mono ?_
    rintro e w4 ⟨⟨y, ⟨hy1, hy2⟩, rfl⟩, k4, t4⟩
    have c0 : w4.cell? ⟨w3.heap.size, 0, none⟩ = some (.string ⟨#[82, 82, 88]⟩) := (t4.cell 0 (by simp) hne).trans (by simp [go_sem])
    have c1 : w4.cell? ⟨w3.heap.size, 1, none⟩ = some (.string ⟨#[67, 67, 88]⟩) := (t4.cell 1 (by simp) hne).trans (by simp [go_sem])
    have c2 : w4.cell? ⟨w3.heap.size, 2, none⟩ = some (.string ⟨#[80, 90, 90]⟩) := (t4.cell 2 (by simp) hne).trans (by simp [go_sem])
    have c3 : w4.cell? ⟨w3.heap.size, 3, none⟩ = some (.string ⟨#[80, 65, 65]⟩) := (t4.cell 3 (by simp) hne).trans (by simp [go_sem])
    have c4 : w4.cell? ⟨w3.heap.size, 4, none⟩ = some (.string ⟨#[65, 65, 88]⟩) := (t4.cell 4 (by simp) hne).trans (by simp [go_sem])
    have K4 : Hid (Rd r w4 ∧ Turn r w w4) := ⟨k4, (T3.out.alloc hr _).trans t4⟩
    clear k4 t4 kA
    rcases (by omega : y = 0 ∨ y = 1 ∨ y = 2 ∨ y = 3 ∨ y = 4) with rfl | rfl | rfl | rfl | rfl
    all_goals
      go_wp2_with fail
      go_ret
      exact ⟨⟨_, rfl, by decide⟩, K4.out.1, K4.out.2⟩
end Go.Proofs.YtepofpmdkphhdaaDoor.Hd
