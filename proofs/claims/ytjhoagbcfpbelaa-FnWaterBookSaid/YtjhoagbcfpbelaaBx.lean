/- A struct of two int64 and a list of int64: measured, copied, compared. -/
import Derived.Test.YtjhoagbcfpbelaaXoA
import Derived.WalkKit
import Derived.ProofKit
import Derived.Below
import Derived.Deep.RegionHeld3
namespace Go.Proofs.Ytjhoagbcfpbelaa.Bx
open Go.ChangeShapes Go.WideShapes Go.ChangeAt Go.RowKit
open Go.Proofs.Ytjhoagbcfpbelaa.Lists

abbrev sv (x y : Int) (v : Value) : Value := .agg #[.int .i64 x, .int .i64 y, v]
theorem below_drewN {B : Nat} {a w : World} (h : Below B a w) (n : Nat) : Below B a (w.drewN n) := h.trans ⟨rfl, rfl, rfl, Nat.le_refl _, fun _ _ => rfl⟩
theorem row_on {w w' : World} {base n : Nat} {v : Value} {xs : List Value} (h : w.ownsRow base 2 1 v n xs) (hb : Below w.heap.size w w') : w'.ownsRow base 2 1 v n xs := by
  refine h.kept (row := none) ⟨hb.os, hb.tape, hb.output, hb.size, fun k hk _ => hb.block k hk⟩ ?_
  by_cases e : v.ownBlock = none
  · exact Or.inl e
  · exact Or.inr e
theorem row_set {w : World} {base n : Nat} {v : Value} {xs : List Value} (h : w.ownsRow base 2 1 v n xs) (g o : Nat) (u : Value) (hg : g < base) : (w.setCell ⟨g, o, none⟩ u).ownsRow base 2 1 v n xs := by
  refine h.kept (row := some g) (grown_setCell (World.grownBy.refl w (some g)) o u) ?_
  cases e : v.ownBlock with
  | none => exact .inl rfl
  | some k =>
    refine .inr fun x => ?_
    have := (h.lt k e).1
    simp at x
    omega
theorem own_down {w : World} {B B' n : Nat} {v : Value} {xs : List Value} (h : w.ownsRow B 2 1 v n xs) (hb : B' ≤ B) : w.ownsRow B' 2 1 v n xs := by
  refine ⟨h.1, ?_⟩
  rcases h.2 with h | ⟨gx, cap, cur, h1, h2, h3⟩
  · exact .inl h
  · exact .inr ⟨gx, cap, cur, h1, by omega, h3⟩

def Box3 (w : World) (g : Nat) (v0 v1 v2 : Value) : Prop := w.cell? ⟨g, 0, none⟩ = some v0 ∧ w.cell? ⟨g, 1, none⟩ = some v1 ∧ w.cell? ⟨g, 2, none⟩ = some v2
theorem Box3.on {w w' : World} {B g : Nat} {v0 v1 v2 : Value} (h : Box3 w g v0 v1 v2) (hb : Below B w w') (hg : g < B) : Box3 w' g v0 v1 v2 := by
  obtain ⟨h0, h1, h2⟩ := h
  exact ⟨(hb.cell (p := ⟨g, 0, none⟩) hg).trans h0, (hb.cell (p := ⟨g, 1, none⟩) hg).trans h1, (hb.cell (p := ⟨g, 2, none⟩) hg).trans h2⟩

end Go.Proofs.Ytjhoagbcfpbelaa.Bx
