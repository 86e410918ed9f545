/- A soil read of its text: what both sides share. -/
import Derived.Test.YtgimdhdioigmiaaDoorRsP
import Derived.Deep.RegionHeld3
import Derived.Deep.RegionWith
namespace Go.Proofs.YtgimdhdioigmiaaDoor.Rs
open Go.ChangeShapes Go.WideShapes Go.ChangeAt Go.RowKit
open Go.Proofs.YtgimdhdioigmiaaDoor.So Go.Proofs.YtgimdhdioigmiaaDoor.Dec Go.Proofs.YtgimdhdioigmiaaDoor.Head Go.Proofs.YtgimdhdioigmiaaDoor.Fig

theorem five {s : ByteArray} (h : (pcs s).length = 5) : ∃ p0 p1 p2 p3 p4, pcs s = [p0, p1, p2, p3, p4] := by
  match hq : pcs s, h with
  | [p0, p1, p2, p3, p4], _ => exact ⟨p0, p1, p2, p3, p4, rfl⟩
theorem pc_len (l : List UInt8) : ∀ acc, ∀ x ∈ cutB acc l, x.length ≤ acc.length + l.length := by
  induction l with
  | nil => intro acc x hx; simp [cutB] at hx; subst hx; simp
  | cons b l ih =>
    intro acc x hx
    unfold cutB at hx
    split at hx
    · rcases List.mem_cons.1 hx with rfl | hx
      · simp
      · have := ih [] x hx; simp at this ⊢; omega
    · have := ih _ x hx; simp at this ⊢; omega
theorem pcs_size {s p : ByteArray} (h : p ∈ pcs s) : p.size ≤ s.size := by
  unfold pcs at h
  obtain ⟨l, hl, rfl⟩ := List.mem_map.1 h
  have := pc_len s.data.toList [] l hl
  have e : (⟨l.toArray⟩ : ByteArray).size = l.length := by show l.toArray.size = _; simp
  rw [e]
  simpa using this
theorem str_ne {t s : ByteArray} (h : t ≠ s) : (t.toList != s.toList) = true := by
  simp only [bne_iff_ne, ne_eq]
  intro e
  apply h
  apply ByteArray.ext
  apply Array.ext'
  rwa [Lib.toList_data, Lib.toList_data] at e
/-- The box of the answer: five numbers. -/
structure RB (w wx : World) (a b c d f : Int) : Prop where
  r : wx.cell? ⟨w.heap.size, 0, none⟩ = some (.int .i64 a) ∧ wx.cell? ⟨w.heap.size, 1, none⟩ = some (.int .i64 b) ∧ wx.cell? ⟨w.heap.size, 2, none⟩ = some (.int .i64 c) ∧ wx.cell? ⟨w.heap.size, 3, none⟩ = some (.int .i64 d) ∧ wx.cell? ⟨w.heap.size, 4, none⟩ = some (.int .i64 f)
  k : ∀ o, wx.frozen? ⟨w.heap.size, o, none⟩ = false
  z : w.heap.size < wx.heap.size
  b : Below w.heap.size w wx
theorem RB.start (w : World) : RB w (w.alloc (Obj.cells #[.int .i64 0, .int .i64 0, .int .i64 0, .int .i64 0, .int .i64 0] 25)) 0 0 0 0 0 :=
  ⟨by simp [go_sem], fun o => by simp [go_sem], by simp, (Below.refl _ _).alloc (Nat.le_refl _) _⟩
theorem RB.on {w wx wy : World} {a b c d f : Int} (h : RB w wx a b c d f) (hb : Below wx.heap.size wx wy) : RB w wy a b c d f := by
  have z := h.z
  have L0 : ∀ o, wy.cell? ⟨w.heap.size, o, none⟩ = wx.cell? ⟨w.heap.size, o, none⟩ := fun o => hb.cell (p := ⟨w.heap.size, o, none⟩) z
  have F0 : ∀ o, wy.frozen? ⟨w.heap.size, o, none⟩ = wx.frozen? ⟨w.heap.size, o, none⟩ := fun o => hb.frozen (p := ⟨w.heap.size, o, none⟩) z
  exact ⟨by rw [L0, L0, L0, L0, L0]; exact h.r, fun o => by rw [F0]; exact h.k o, Nat.lt_of_lt_of_le z hb.size, h.b.trans (hb.mono (Nat.le_of_lt z))⟩
theorem RB.put {w wx : World} {a b c d f : Int} (h : RB w wx a b c d f) (a' b' c' d' f' : Int) :
    RB w (((((wx.setCell ⟨w.heap.size, 0, none⟩ (.int .i64 a')).setCell ⟨w.heap.size, 1, none⟩ (.int .i64 b')).setCell ⟨w.heap.size, 2, none⟩ (.int .i64 c')).setCell ⟨w.heap.size, 3, none⟩ (.int .i64 d')).setCell ⟨w.heap.size, 4, none⟩ (.int .i64 f')) a' b' c' d' f' := by
  obtain ⟨r0, r1, r2, r3, r4⟩ := h.r
  have k := h.k
  refine ⟨?_, fun o => ?_, by simpa using h.z, ?_⟩
  · simp [go_sem, r0, r1, r2, r3, r4]
  · simp [go_sem, k]
  · exact ((((h.b.setCell (Nat.le_refl _) _).setCell (Nat.le_refl _) _).setCell (Nat.le_refl _) _).setCell (Nat.le_refl _) _).setCell (Nat.le_refl _) _

theorem n5_on {g : Nat} {n0 n1 n2 n3 n4 : Int} {w w' : World} (h : (w.cell? ⟨g, 0, none⟩ = some (.int .i64 n0) ∧ w.cell? ⟨g, 1, none⟩ = some (.int .i64 n1) ∧ w.cell? ⟨g, 2, none⟩ = some (.int .i64 n2) ∧ w.cell? ⟨g, 3, none⟩ = some (.int .i64 n3) ∧ w.cell? ⟨g, 4, none⟩ = some (.int .i64 n4)) ∧ g < w.heap.size) (hb : Below w.heap.size w w') :
    (w'.cell? ⟨g, 0, none⟩ = some (.int .i64 n0) ∧ w'.cell? ⟨g, 1, none⟩ = some (.int .i64 n1) ∧ w'.cell? ⟨g, 2, none⟩ = some (.int .i64 n2) ∧ w'.cell? ⟨g, 3, none⟩ = some (.int .i64 n3) ∧ w'.cell? ⟨g, 4, none⟩ = some (.int .i64 n4)) ∧ g < w'.heap.size := by
  have L : ∀ o, w'.cell? ⟨g, o, none⟩ = w.cell? ⟨g, o, none⟩ := fun o => hb.cell (p := ⟨g, o, none⟩) h.2
  exact ⟨by rw [L, L, L, L, L]; exact h.1, Nat.lt_of_lt_of_le h.2 hb.size⟩
end Go.Proofs.YtgimdhdioigmiaaDoor.Rs
