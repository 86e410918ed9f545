/- A grid drawn of a code. -/
import Derived.Test.YtknkmkhnakcjiaaRdJ
import Derived.Test.YtknkmkhnakcjiaaRdG
import Derived.Test.YtknkmkhnakcjiaaAtC
import Derived.OneCell
import Derived.Deep.DeepCutAuto
import Derived.Deep.Cut
import Derived.Deep.RegionWith
import Derived.Deep.RegionHeld3
import Derived.Deep.DrawnRows
import Derived.Deep.DeepMust
import Derived.Deep.RegionHeldLaw
namespace Go.Proofs.Ytknkmkhnakcjiaa.Gd
open Go.ChangeShapes Go.WideShapes Go.ChangeAt Go.RowKit
open Go.Proofs.Ytknkmkhnakcjiaa.Rd Go.Proofs.Ytknkmkhnakcjiaa.Flt
def GB (w : World) (r : Nat) (x0 x1 x2 x3 x4 : Int) : Prop := w.heap[r]? = some (.cells #[.int .i64 x0, .int .i64 x1, .int .i64 x2, .int .i64 x3, .int .i64 x4] 25 (0, 0))
theorem GB.lt {w : World} {r : Nat} {x0 x1 x2 x3 x4 : Int} (h : GB w r x0 x1 x2 x3 x4) : r < w.heap.size := by
  unfold GB at h
  rcases Nat.lt_or_ge r w.heap.size with x | x
  · exact x
  · rw [Array.getElem?_eq_none x] at h; cases h
theorem GB.on {w : World} {r : Nat} {x0 x1 x2 x3 x4 : Int} {w' : World} {B : Nat} (h : GB w r x0 x1 x2 x3 x4) (hb : Below B w w') (hr : r < B) : GB w' r x0 x1 x2 x3 x4 := (hb.block r hr).trans h
theorem GB.new (w : World) (x0 x1 x2 x3 x4 : Int) : GB (w.alloc (.cells #[.int .i64 x0, .int .i64 x1, .int .i64 x2, .int .i64 x3, .int .i64 x4] 25)) w.heap.size x0 x1 x2 x3 x4 := by
  unfold GB World.alloc
  simp
theorem GB.keep {w : World} {r : Nat} {x0 x1 x2 x3 x4 : Int} (h : GB w r x0 x1 x2 x3 x4) {r' : Nat} (hne : r ≠ r') (o : Nat) (x : Value) : GB (w.setCell ⟨r', o, none⟩ x) r x0 x1 x2 x3 x4 := (Below.heap_setCell w ⟨r', o, none⟩ x r hne).trans h
theorem GB.turn {b r : Nat} {w w' : World} {x0 x1 x2 x3 x4 : Int} (h : GB w b x0 x1 x2 x3 x4) (t : Turn r w w') (hne : b ≠ r) : GB w' b x0 x1 x2 x3 x4 := by
  unfold GB at h ⊢
  rw [← h]
  by_cases e : b < r
  · exact t.bel.block b e
  · exact t.abv b (by omega) (GB.lt h)
theorem GB.alloc {w : World} {r : Nat} {x0 x1 x2 x3 x4 : Int} (h : GB w r x0 x1 x2 x3 x4) (o : Obj) : GB (w.alloc o) r x0 x1 x2 x3 x4 := h.on ((Below.refl _ _).alloc (Nat.le_refl _) _) h.lt
theorem GB.grown {w w' : World} {b : Nat} {row : Option Nat} {x0 x1 x2 x3 x4 : Int} (h : GB w b x0 x1 x2 x3 x4) (hg : w.grownBy w' row) (hn : row ≠ some b) : GB w' b x0 x1 x2 x3 x4 := (hg.block b h.lt (fun e => hn e.symm)).trans h
theorem GB.cells {w : World} {r : Nat} {x0 x1 x2 x3 x4 : Int} (h : GB w r x0 x1 x2 x3 x4) : w.cell? ⟨r, 0, none⟩ = some (.int .i64 x0) ∧ w.cell? ⟨r, 1, none⟩ = some (.int .i64 x1) ∧ w.cell? ⟨r, 2, none⟩ = some (.int .i64 x2) ∧ w.cell? ⟨r, 3, none⟩ = some (.int .i64 x3) ∧ w.cell? ⟨r, 4, none⟩ = some (.int .i64 x4) ∧ ∀ o, w.frozen? ⟨r, o, none⟩ = false := by
  unfold GB at h
  simp [World.cell?, World.frozen?, h]
theorem GB.s0 {w : World} {r : Nat} {x0 x1 x2 x3 x4 : Int} (h : GB w r x0 x1 x2 x3 x4) (z : Int) : GB (w.setCell ⟨r, 0, none⟩ (.int .i64 z)) r z x1 x2 x3 x4 := by
  have hlt := h.lt
  unfold GB at h ⊢
  have h' : w.heap[r] = .cells #[.int .i64 x0, .int .i64 x1, .int .i64 x2, .int .i64 x3, .int .i64 x4] 25 (0, 0) := by simpa [Array.getElem?_eq_getElem hlt] using h
  show (w.heap.modify r _)[r]? = _
  rw [Array.getElem?_eq_getElem (by simpa using hlt), Array.getElem_modify_self, h']
  rfl
theorem GB.s1 {w : World} {r : Nat} {x0 x1 x2 x3 x4 : Int} (h : GB w r x0 x1 x2 x3 x4) (z : Int) : GB (w.setCell ⟨r, 1, none⟩ (.int .i64 z)) r x0 z x2 x3 x4 := by
  have hlt := h.lt
  unfold GB at h ⊢
  have h' : w.heap[r] = .cells #[.int .i64 x0, .int .i64 x1, .int .i64 x2, .int .i64 x3, .int .i64 x4] 25 (0, 0) := by simpa [Array.getElem?_eq_getElem hlt] using h
  show (w.heap.modify r _)[r]? = _
  rw [Array.getElem?_eq_getElem (by simpa using hlt), Array.getElem_modify_self, h']
  rfl
theorem GB.s2 {w : World} {r : Nat} {x0 x1 x2 x3 x4 : Int} (h : GB w r x0 x1 x2 x3 x4) (z : Int) : GB (w.setCell ⟨r, 2, none⟩ (.int .i64 z)) r x0 x1 z x3 x4 := by
  have hlt := h.lt
  unfold GB at h ⊢
  have h' : w.heap[r] = .cells #[.int .i64 x0, .int .i64 x1, .int .i64 x2, .int .i64 x3, .int .i64 x4] 25 (0, 0) := by simpa [Array.getElem?_eq_getElem hlt] using h
  show (w.heap.modify r _)[r]? = _
  rw [Array.getElem?_eq_getElem (by simpa using hlt), Array.getElem_modify_self, h']
  rfl
theorem GB.s3 {w : World} {r : Nat} {x0 x1 x2 x3 x4 : Int} (h : GB w r x0 x1 x2 x3 x4) (z : Int) : GB (w.setCell ⟨r, 3, none⟩ (.int .i64 z)) r x0 x1 x2 z x4 := by
  have hlt := h.lt
  unfold GB at h ⊢
  have h' : w.heap[r] = .cells #[.int .i64 x0, .int .i64 x1, .int .i64 x2, .int .i64 x3, .int .i64 x4] 25 (0, 0) := by simpa [Array.getElem?_eq_getElem hlt] using h
  show (w.heap.modify r _)[r]? = _
  rw [Array.getElem?_eq_getElem (by simpa using hlt), Array.getElem_modify_self, h']
  rfl
theorem GB.s4 {w : World} {r : Nat} {x0 x1 x2 x3 x4 : Int} (h : GB w r x0 x1 x2 x3 x4) (z : Int) : GB (w.setCell ⟨r, 4, none⟩ (.int .i64 z)) r x0 x1 x2 x3 z := by
  have hlt := h.lt
  unfold GB at h ⊢
  have h' : w.heap[r] = .cells #[.int .i64 x0, .int .i64 x1, .int .i64 x2, .int .i64 x3, .int .i64 x4] 25 (0, 0) := by simpa [Array.getElem?_eq_getElem hlt] using h
  show (w.heap.modify r _)[r]? = _
  rw [Array.getElem?_eq_getElem (by simpa using hlt), Array.getElem_modify_self, h']
  rfl
theorem below_five {A B : Nat} {w wx : World} (h : Below B w wx) (hA : B ≤ A) (x0 x1 x2 x3 x4 : Value) : Below B w (((((wx.setCell ⟨A, 0, none⟩ x0).setCell ⟨A, 1, none⟩ x1).setCell ⟨A, 2, none⟩ x2).setCell ⟨A, 3, none⟩ x3).setCell ⟨A, 4, none⟩ x4) :=
  ((((h.setCell (p := ⟨A, 0, none⟩) hA _).setCell (p := ⟨A, 1, none⟩) hA _).setCell (p := ⟨A, 2, none⟩) hA _).setCell (p := ⟨A, 3, none⟩) hA _).setCell (p := ⟨A, 4, none⟩) hA _
theorem turn_below {r : Nat} {w w2 w3 : World} (t : Turn r w w2) (hb : Below w.heap.size w2 w3) (hr : r < w.heap.size) : Turn r w w3 :=
  ⟨t.bel.trans (hb.mono (by omega)), fun i h1 h2 => (hb.block i h2).trans (t.abv i h1 h2)⟩
theorem turn_five {r A : Nat} {w wx : World} (h : Turn r w wx) (hr : r < w.heap.size) (hA : w.heap.size ≤ A) (x0 x1 x2 x3 x4 : Value) : Turn r w (((((wx.setCell ⟨A, 0, none⟩ x0).setCell ⟨A, 1, none⟩ x1).setCell ⟨A, 2, none⟩ x2).setCell ⟨A, 3, none⟩ x3).setCell ⟨A, 4, none⟩ x4) :=
  turn_below h (below_five (Below.refl _ _) hA x0 x1 x2 x3 x4) hr
theorem rd_five {r A : Nat} {wx : World} (h : Rd r wx) (hr : r < A) (x0 x1 x2 x3 x4 : Value) : Rd r (((((wx.setCell ⟨A, 0, none⟩ x0).setCell ⟨A, 1, none⟩ x1).setCell ⟨A, 2, none⟩ x2).setCell ⟨A, 3, none⟩ x3).setCell ⟨A, 4, none⟩ x4) :=
  h.kept (below_five (Below.refl (r + 1) wx) (by omega) x0 x1 x2 x3 x4) (by omega)
/-- what a drawn grid's numbers keep to -/
def Gq (r c s ws st : Int) : Prop := (1 ≤ r ∧ r ≤ 65) ∧ (2 ≤ c ∧ c ≤ 5) ∧ (-9001 ≤ s ∧ s ≤ 9000) ∧ (-18000 ≤ ws ∧ ws ≤ 18001) ∧ (0 ≤ st ∧ st ≤ 3001)

set_option maxHeartbeats 1000000 in
theorem grid_any (r : Nat) (w : World) (h : Rd r w) : Calls Try.prog 20 #[.pointer (some ⟨r, 0, none⟩)] w fun e w' => ∃ x0 x1 x2 x3 x4 : Int, e = .returned (gv x0 x1 x2 x3 x4) ∧ (2 ≤ x0 ∧ x0 ≤ 5) ∧ Gq x0 x1 x2 x3 x4 ∧ Rd r w' ∧ Turn r w w' := by
  have hr := h.lt
  have B0 := (Below.refl w.heap.size w).alloc (Nat.le_refl _) (.cells #[.int .i64 0, .int .i64 0, .int .i64 0, .int .i64 0, .int .i64 0] 25)
  have K0 : Hid (Rd r (w.alloc (.cells #[.int .i64 0, .int .i64 0, .int .i64 0, .int .i64 0, .int .i64 0] 25))) := h.kept B0 hr
  have T0 : Hid (Turn r w (w.alloc (.cells #[.int .i64 0, .int .i64 0, .int .i64 0, .int .i64 0, .int .i64 0] 25))) := Turn.of B0 (Nat.le_refl _) (by omega)
  have G0 : Hid (GB (w.alloc (.cells #[.int .i64 0, .int .i64 0, .int .i64 0, .int .i64 0, .int .i64 0] 25)) w.heap.size 0 0 0 0 0) := GB.new w 0 0 0 0 0
  obtain ⟨A, hA⟩ : ∃ A, A = w.heap.size := ⟨_, rfl⟩
  have HA : Hid (A = w.heap.size) := hA
  rw [← hA] at G0
  have hrA : r < A := by omega
  clear h B0 hA
  go_enter Try.func20, Try.ntmps20
  go_upto_region 1 with fail
  rw [← HA.out]
  go_wp2_with fail
  refine (below_all r _ K0.out 4 (by omega) (by omega)).mono ?_
  rintro e w1 ⟨⟨u1, ⟨hu1, hv1⟩, rfl⟩, k, t⟩
  replace hv1 : u1 < 4 := hv1
  have K1 : Hid (Rd r w1) := k
  have T1 : Hid (Turn r w w1) := T0.out.trans t
  have G1 : Hid (GB w1 A 0 0 0 0 0) := G0.out.turn t (by omega)
  clear k t K0 T0 G0
  go_wp2_with fail
  refine (below_all r _ K1.out 4 (by omega) (by omega)).mono ?_
  rintro e w2 ⟨⟨u2, ⟨hu2, hv2⟩, rfl⟩, k, t⟩
  replace hv2 : u2 < 4 := hv2
  have K2 : Hid (Rd r w2) := k
  have T2 : Hid (Turn r w w2) := T1.out.trans t
  have G2 : Hid (GB w2 A 0 0 0 0 0) := G1.out.turn t (by omega)
  clear k t K1 T1 G1
  go_wp2_with fail
  refine (below_all r _ K2.out 100 (by omega) (by omega)).mono ?_
  rintro e w3 ⟨⟨u3, ⟨hu3, hv3⟩, rfl⟩, k, t⟩
  replace hv3 : u3 < 100 := hv3
  have K3 : Hid (Rd r w3) := k
  have T3 : Hid (Turn r w w3) := T2.out.trans t
  have G3 : Hid (GB w3 A 0 0 0 0 0) := G2.out.turn t (by omega)
  clear k t K2 T2 G2
  go_wp2_with fail
  refine (below_all r _ K3.out 100 (by omega) (by omega)).mono ?_
  rintro e w4 ⟨⟨u4, ⟨hu4, hv4⟩, rfl⟩, k, t⟩
  replace hv4 : u4 < 100 := hv4
  have K4 : Hid (Rd r w4) := k
  have T4 : Hid (Turn r w w4) := T3.out.trans t
  have G4 : Hid (GB w4 A 0 0 0 0 0) := G3.out.turn t (by omega)
  clear k t K3 T3 G3
  go_wp2_with fail
  refine (below_all r _ K4.out 300 (by omega) (by omega)).mono ?_
  rintro e w5 ⟨⟨u5, ⟨hu5, hv5⟩, rfl⟩, k, t⟩
  replace hv5 : u5 < 300 := hv5
  have K5 : Hid (Rd r w5) := k
  have T5 : Hid (Turn r w w5) := T4.out.trans t
  have G5 : Hid (GB w5 A 0 0 0 0 0) := G4.out.turn t (by omega)
  clear k t K4 T4 G4
  obtain ⟨a0, a1, a2, a3, a4, af⟩ := G5.out.cells
  have f0 := af 0; have f1 := af 1; have f2 := af 2; have f3 := af 3; have f4 := af 4
  clear af
  have HF : Hid (∀ x0 x1 x2 x3 x4 : Value, Rd r (((((w5.setCell ⟨A, 0, none⟩ x0).setCell ⟨A, 1, none⟩ x1).setCell ⟨A, 2, none⟩ x2).setCell ⟨A, 3, none⟩ x3).setCell ⟨A, 4, none⟩ x4) ∧ Turn r w (((((w5.setCell ⟨A, 0, none⟩ x0).setCell ⟨A, 1, none⟩ x1).setCell ⟨A, 2, none⟩ x2).setCell ⟨A, 3, none⟩ x3).setCell ⟨A, 4, none⟩ x4)) := fun x0 x1 x2 x3 x4 => ⟨rd_five K5.out hrA x0 x1 x2 x3 x4, turn_five T5.out hr (by have := HA.out; omega) x0 x1 x2 x3 x4⟩
  go_wp2_with fail
  exact bodyPost_ret (v := gv (2 + u1) (2 + u2) (u3 * 50) (u4 * 50 - 2500) (1 + u5)) (by simp [results, Try.results20, go_sem, a0, a1, a2, a3, a4]) rfl ⟨2 + u1, 2 + u2, u3 * 50, u4 * 50 - 2500, 1 + u5, rfl, by omega, ⟨by omega, by omega, by omega, by omega, by omega⟩, (HF.out _ _ _ _ _).1, (HF.out _ _ _ _ _).2⟩
end Go.Proofs.Ytknkmkhnakcjiaa.Gd
