/- Runs (a suite, a time, jobs): compared, marked, held. -/
import Derived.Test.YtfhpomfdkpfooaaTh
import Derived.Test.YtfhpomfdkpfooaaJbW
namespace Go.Proofs.Ytfhpomfdkpfooaa.Ru
open Go.ChangeShapes Go.WideShapes Go.ChangeAt Go.RowKit
open Go.Proofs.Ytfhpomfdkpfooaa.Lists Go.Proofs.Ytfhpomfdkpfooaa.Tm

abbrev rv (r x : Value) (n : Int) (j : Value) : Value := .agg #[r, x, .int .i64 n, j]
def RR (w : World) (r x j : Value) (R : Tk.Ls) (X : List Int) (J : Jb.Ls) : Prop := Tk.Reads w r R ∧ Lists.Reads w x X ∧ Jb.Reads w j J
theorem RR.on {w w' : World} {r x j : Value} {R : Tk.Ls} {X : List Int} {J : Jb.Ls} (h : RR w r x j R X J) (hb : Below w.heap.size w w') : RR w' r x j R X J := ⟨h.1.on hb, h.2.1.on hb, h.2.2.on hb⟩
/-- A suite whose lists lie apart. -/
def SO (w : World) (base : Nat) (r x : Value) (xs : List Value) (R : Tk.Ls) (X : List Int) : Prop := Own w base r xs R ∧ w.ownsRow base 2 1 x X.length (ints X) ∧ ∀ i a, i < R.length → bk xs i = some a → x.ownBlock ≠ some a
def SB (r x : Value) (xs : List Value) (n : Nat) (g : Nat) : Prop := Bs r xs n g ∨ x.ownBlock = some g
theorem SO.reads {w : World} {base : Nat} {r x : Value} {xs : List Value} {R : Tk.Ls} {X : List Int} (h : SO w base r x xs R X) : Tk.Reads w r R ∧ Lists.Reads w x X := ⟨h.1.row.reads, Lists.reads_row h.2.1⟩
theorem SO.kb {S : Nat → Prop} {w w' : World} {base : Nat} {r x : Value} {xs : List Value} {R : Tk.Ls} {X : List Int} (h : SO w base r x xs R X) (hb : KB S w w') (hn : ∀ g, SB r x xs R.length g → ¬ S g) : SO w' base r x xs R X :=
  ⟨h.1.kb hb (fun g hg => hn g (.inl hg)), row_kb h.2.1 hb (fun g hg => hn g (.inr hg)), h.2.2⟩
theorem SO.on {w w' : World} {base : Nat} {r x : Value} {xs : List Value} {R : Tk.Ls} {X : List Int} (h : SO w base r x xs R X) (hb : Below w.heap.size w w') : SO w' base r x xs R X := h.kb (S := fun _ => False) (KB.of_below hb) (fun _ _ y => y)
theorem SO.bs {w : World} {base : Nat} {r x : Value} {xs : List Value} {R : Tk.Ls} {X : List Int} (h : SO w base r x xs R X) (g : Nat) (hg : SB r x xs R.length g) : base ≤ g ∧ g < w.heap.size := by
  rcases hg with hg | hg
  · exact h.1.bs g hg
  · exact h.2.1.lt g hg
/-- A run whose lists lie apart. -/
def RO (w : World) (base : Nat) (r x j : Value) (xs : List Value) (R : Tk.Ls) (X : List Int) (J : Jb.Ls) : Prop := SO w base r x xs R X ∧ Jb.Row w base j J
def RB (r x j : Value) (xs : List Value) (n : Nat) (g : Nat) : Prop := SB r x xs n g ∨ j.ownBlock = some g
theorem jrow_kb {S : Nat → Prop} {w w' : World} {base : Nat} {j : Value} {J : Jb.Ls} (h : Jb.Row w base j J) (hb : KB S w w') (hn : ∀ g, j.ownBlock = some g → ¬ S g) : Jb.Row w' base j J := by
  obtain ⟨ys, h1, h2⟩ := h
  exact ⟨ys, row_kb h1 hb hn, h2⟩
theorem RO.kb {S : Nat → Prop} {w w' : World} {base : Nat} {r x j : Value} {xs : List Value} {R : Tk.Ls} {X : List Int} {J : Jb.Ls} (h : RO w base r x j xs R X J) (hb : KB S w w') (hn : ∀ g, RB r x j xs R.length g → ¬ S g) : RO w' base r x j xs R X J :=
  ⟨h.1.kb hb (fun g hg => hn g (.inl hg)), jrow_kb h.2 hb (fun g hg => hn g (.inr hg))⟩
theorem RO.on {w w' : World} {base : Nat} {r x j : Value} {xs : List Value} {R : Tk.Ls} {X : List Int} {J : Jb.Ls} (h : RO w base r x j xs R X J) (hb : Below w.heap.size w w') : RO w' base r x j xs R X J := h.kb (S := fun _ => False) (KB.of_below hb) (fun _ _ y => y)
theorem RO.bs {w : World} {base : Nat} {r x j : Value} {xs : List Value} {R : Tk.Ls} {X : List Int} {J : Jb.Ls} (h : RO w base r x j xs R X J) (g : Nat) (hg : RB r x j xs R.length g) : base ≤ g ∧ g < w.heap.size := by
  rcases hg with hg | hg
  · exact h.1.bs g hg
  · obtain ⟨ys, h1, _⟩ := h.2
    exact h1.lt g hg
theorem RO.reads {w : World} {base : Nat} {r x j : Value} {xs : List Value} {R : Tk.Ls} {X : List Int} {J : Jb.Ls} (h : RO w base r x j xs R X J) : RR w r x j R X J := ⟨h.1.reads.1, h.1.reads.2, h.2.reads⟩
def Box (w : World) (b : Nat) (v0 v1 v2 v3 : Value) : Prop := w.cell? ⟨b, 0, none⟩ = some v0 ∧ w.cell? ⟨b, 1, none⟩ = some v1 ∧ w.cell? ⟨b, 2, none⟩ = some v2 ∧ w.cell? ⟨b, 3, none⟩ = some v3
theorem Box.on {w w' : World} {B b : Nat} {v0 v1 v2 v3 : Value} (h : Box w b v0 v1 v2 v3) (hb : Below B w w') (hg : b < B) : Box w' b v0 v1 v2 v3 := by
  obtain ⟨h0, h1, h2, h3⟩ := h
  exact ⟨(hb.cell (p := ⟨b, 0, none⟩) hg).trans h0, (hb.cell (p := ⟨b, 1, none⟩) hg).trans h1, (hb.cell (p := ⟨b, 2, none⟩) hg).trans h2, (hb.cell (p := ⟨b, 3, none⟩) hg).trans h3⟩
theorem cell_kb {S : Nat → Prop} {w w' : World} (hb : KB S w w') {b o : Nat} (hl : b < w.heap.size) (hn : ¬ S b) : w'.cell? ⟨b, o, none⟩ = w.cell? ⟨b, o, none⟩ := World.cell?_of_block (a := ⟨b, o, none⟩) (hb.block b hl hn)
theorem Box.kb {S : Nat → Prop} {w w' : World} {b : Nat} {v0 v1 v2 v3 : Value} (h : Box w b v0 v1 v2 v3) (hb : KB S w w') (hl : b < w.heap.size) (hn : ¬ S b) : Box w' b v0 v1 v2 v3 := by
  obtain ⟨h0, h1, h2, h3⟩ := h
  exact ⟨(cell_kb hb hl hn).trans h0, (cell_kb hb hl hn).trans h1, (cell_kb hb hl hn).trans h2, (cell_kb hb hl hn).trans h3⟩

end Go.Proofs.Ytfhpomfdkpfooaa.Ru
