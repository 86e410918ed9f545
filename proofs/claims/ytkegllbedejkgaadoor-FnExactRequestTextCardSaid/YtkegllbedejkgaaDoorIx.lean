/- slices.Index, slices.Contains, asksFor, of numbers and of words. -/
import Derived.Test.YtkegllbedejkgaaDoorEo
import Derived.Test.YtkegllbedejkgaaDoorXoA
namespace Go.Proofs.YtkegllbedejkgaaDoor.Ix
open Go.ChangeShapes Go.WideShapes Go.ChangeAt Go.RowKit
/-- a list of words in memory -/
def Reads (w : World) (v : Value) (L : List ByteArray) : Prop :=
  (L = [] ∧ ∃ a cap, v = .slice a 0 cap) ∨ ∃ b o cap, v = .slice (some ⟨b, o, none⟩) L.length cap ∧ L.length ≤ cap ∧ cap ≤ maxLen ∧ b < w.heap.size ∧ ∀ i, i < L.length → w.cell? ⟨b, o + i, none⟩ = some (.string (L.getD i ⟨#[]⟩))
theorem Reads.form {w : World} {v : Value} {L : List ByteArray} (h : Reads w v L) : ∃ a cap, v = .slice a L.length cap := by
  rcases h with ⟨rfl, a, cap, rfl⟩ | ⟨b, o, cap, rfl, _⟩
  · exact ⟨_, _, rfl⟩
  · exact ⟨_, _, rfl⟩
theorem Reads.on {w w' : World} {v : Value} {L : List ByteArray} (h : Reads w v L) (hb : Below w.heap.size w w') : Reads w' v L := by
  rcases h with h | ⟨b, o, cap, h1, h2, h3, h4, h5⟩
  · exact Or.inl h
  · exact Or.inr ⟨b, o, cap, h1, h2, h3, Nat.lt_of_lt_of_le h4 hb.size, fun i hi => (hb.cell (p := ⟨b, o + i, none⟩) h4).trans (h5 i hi)⟩
theorem Reads.fits {w : World} {v : Value} {L : List ByteArray} (h : Reads w v L) : L.length < 9223372036854775808 := by
  rcases h with ⟨rfl, _⟩ | ⟨b, o, c, _, h1, h2, _⟩
  · decide
  · unfold maxLen at h2; omega
def hasS (L : List ByteArray) (s : ByteArray) : Bool := L.any fun x => s.toList == x.toList
def hasI (L : List Int) (x : Int) : Bool := L.any fun y => x == y
theorem any_at {α : Type} (P : α → Bool) (L : List α) (d : α) (k : Nat) (hk : k < L.length) (h : P (L.getD k d) = true) : L.any P = true := by
  rw [List.any_eq_true]
  have e : L.getD k d = L[k] := by simp [List.getD_eq_getElem?_getD, hk]
  rw [e] at h
  exact ⟨_, List.getElem_mem hk, h⟩
theorem any_no {α : Type} (P : α → Bool) (L : List α) (d : α) (h : ∀ j, j < L.length → P (L.getD j d) = false) : L.any P = false := by
  rw [List.any_eq_false]
  intro x hx
  obtain ⟨j, hj, rfl⟩ := List.getElem_of_mem hx
  have := h j hj
  have e : L.getD j d = L[j] := by simp [List.getD_eq_getElem?_getD, hj]
  rw [e] at this
  simp [this]

def askI (L : List Int) (x : Int) : Bool := decide (L.length = 0) || hasI L x
def askS (L : List ByteArray) (x : ByteArray) : Bool := decide (L.length = 0) || hasS L x
end Go.Proofs.YtkegllbedejkgaaDoor.Ix
