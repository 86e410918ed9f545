/- Lists of levels that are read. -/
import Derived.Test.YtjnjpbbpphklhaaBetL
import Derived.OwnWalk
import Derived.WalkSmall
import Derived.Laws.OwnMore
import Derived.Deep.QuietTactic
import Derived.BigQuiet
namespace Go.Proofs.Ytjnjpbbpphklhaa.Flt
open Go.ChangeShapes Go.WideShapes Go.ChangeAt Go.RowKit
attribute [local go_sem] run_store_float

abbrev Lv := List (Int × Nat)
def pOf (L : Lv) (i : Nat) : Int := (L.getD i (0, 0)).1
def tOf (L : Lv) (i : Nat) : Nat := (L.getD i (0, 0)).2
def Reads (w : World) (v : Value) (L : Lv) : Prop :=
  (L = [] ∧ ∃ a cap, v = .slice a 0 cap) ∨ ∃ b o cap, v = .slice (some ⟨b, o, none⟩) L.length cap ∧ L.length ≤ cap ∧ cap ≤ maxLen ∧ b < w.heap.size ∧ ∀ i, i < L.length → w.cell? ⟨b, o + i * 2, none⟩ = some (.int .i64 (pOf L i)) ∧ w.cell? ⟨b, o + i * 2 + 1, none⟩ = some (.float .f64 (tOf L i))
theorem Reads.below {w w' : World} {v : Value} {L : Lv} {B : Nat} (h : Reads w v L) (hb : Below B w w') (hB : w.heap.size ≤ B) : Reads w' v L := by
  rcases h with h | ⟨b, o, cap, h1, h2, h3, h4, h5⟩
  · exact Or.inl h
  · exact Or.inr ⟨b, o, cap, h1, h2, h3, Nat.lt_of_lt_of_le h4 hb.size, fun i hi => ⟨(hb.cell (p := ⟨b, o + i * 2, none⟩) (by show b < B; omega)).trans (h5 i hi).1, (hb.cell (p := ⟨b, o + i * 2 + 1, none⟩) (by show b < B; omega)).trans (h5 i hi).2⟩⟩
theorem Reads.on {w w' : World} {v : Value} {L : Lv} (h : Reads w v L) (hb : Below w.heap.size w w') : Reads w' v L := h.below hb (Nat.le_refl _)
theorem Reads.form {w : World} {v : Value} {L : Lv} (h : Reads w v L) : ∃ a cap, v = .slice a L.length cap := by
  rcases h with ⟨rfl, a, cap, rfl⟩ | ⟨b, o, cap, rfl, _⟩
  · exact ⟨_, _, rfl⟩
  · exact ⟨_, _, rfl⟩

end Go.Proofs.Ytjnjpbbpphklhaa.Flt
