/- A suite (a list of tasks, a list of limits) by value: measured, copied, compared. -/
import Derived.Test.YtfhpomfdkpfooaaTk
namespace Go.Proofs.Ytfhpomfdkpfooaa.Su
open Go.ChangeShapes Go.WideShapes Go.ChangeAt Go.RowKit
open Go.Proofs.Ytfhpomfdkpfooaa.Lists

abbrev pv (r l : Value) : Value := .agg #[r, l]
def Box (w : World) (b : Nat) (v0 v1 : Value) : Prop := w.cell? ⟨b, 0, none⟩ = some v0 ∧ w.cell? ⟨b, 1, none⟩ = some v1
def Free (w : World) (b : Nat) : Prop := w.frozen? ⟨b, 0, none⟩ = false ∧ w.frozen? ⟨b, 1, none⟩ = false
theorem Box.on {w w' : World} {B b : Nat} {v0 v1 : Value} (h : Box w b v0 v1) (hb : Below B w w') (hg : b < B) : Box w' b v0 v1 := by
  obtain ⟨h0, h1⟩ := h
  exact ⟨(hb.cell (p := ⟨b, 0, none⟩) hg).trans h0, (hb.cell (p := ⟨b, 1, none⟩) hg).trans h1⟩
theorem Free.on {w w' : World} {B b : Nat} (h : Free w b) (hb : Below B w w') (hg : b < B) : Free w' b := by
  obtain ⟨h0, h1⟩ := h
  exact ⟨(hb.frozen (p := ⟨b, 0, none⟩) hg).trans h0, (hb.frozen (p := ⟨b, 1, none⟩) hg).trans h1⟩
theorem Box.off {w : World} {b g o : Nat} {u v0 v1 : Value} (h : Box w b v0 v1) (hg : b ≠ g) : Box (w.setCell ⟨g, o, none⟩ u) b v0 v1 := by
  have e := Below.heap_setCell w ⟨g, o, none⟩ u b hg
  obtain ⟨h0, h1⟩ := h
  exact ⟨(World.cell?_of_block (a := ⟨b, 0, none⟩) e).trans h0, (World.cell?_of_block (a := ⟨b, 1, none⟩) e).trans h1⟩
theorem Free.off {w : World} {b g o : Nat} {u : Value} (h : Free w b) (hg : b ≠ g) : Free (w.setCell ⟨g, o, none⟩ u) b := by
  have e := Below.heap_setCell w ⟨g, o, none⟩ u b hg
  obtain ⟨h0, h1⟩ := h
  exact ⟨(World.frozen?_of_block (a := ⟨b, 0, none⟩) e).trans h0, (World.frozen?_of_block (a := ⟨b, 1, none⟩) e).trans h1⟩
theorem Free.own {w : World} {b o : Nat} {u : Value} (h : Free w b) : Free (w.setCell ⟨b, o, none⟩ u) b := by
  obtain ⟨h0, h1⟩ := h
  exact ⟨by simp [go_sem, h0], by simp [go_sem, h1]⟩
theorem Box.set0 {w : World} {b : Nat} {u v0 v1 : Value} (h : Box w b v0 v1) : Box (w.setCell ⟨b, 0, none⟩ u) b u v1 := by
  obtain ⟨h0, h1⟩ := h
  exact ⟨by simp [go_sem, h0], by simp [go_sem, h1]⟩
theorem row_set {w : World} {base : Nat} {v : Value} {L : Tk.Ls} (h : Tk.Row w base v L) (g o : Nat) (u : Value) (hg : g < base) : Tk.Row (w.setCell ⟨g, o, none⟩ u) base v L := by
  obtain ⟨xs, h, hh⟩ := h
  refine ⟨xs, ?_, fun i hi => ?_⟩
  · refine h.kept (row := some g) (grown_setCell (World.grownBy.refl w (some g)) o u) ?_
    cases e : v.ownBlock with
    | none => exact .inl rfl
    | some k =>
      refine .inr fun x => ?_
      have := (h.lt k e).1
      simp at x
      omega
  · obtain ⟨h1, h2, h3, z, hz, hr⟩ := hh i hi
    exact ⟨h1, h2, h3, z, hz, Tk1.row_set hr g o u hg⟩
theorem row_down {w : World} {B B' : Nat} {v : Value} {L : Tk.Ls} (h : Tk.Row w B v L) (hb : B' ≤ B) : Tk.Row w B' v L := by
  obtain ⟨xs, h, hh⟩ := h
  refine ⟨xs, ⟨h.1, ?_⟩, fun i hi => ?_⟩
  · rcases h.2 with h | ⟨gx, cap, cur, h1, h2, h3⟩
    · exact .inl h
    · exact .inr ⟨gx, cap, cur, h1, by omega, h3⟩
  · obtain ⟨h1, h2, h3, z, hz, hr⟩ := hh i hi
    exact ⟨h1, h2, h3, z, hz, Tk1.own_down hr hb⟩

end Go.Proofs.Ytfhpomfdkpfooaa.Su
