/- Rows of spans that a call owns: compared, marked, held; a row of levels marked. -/
import Derived.Test.YtjnjpbbpphklhaaAscL
namespace Go.Proofs.Ytjnjpbbpphklhaa.Flt
open Go.ChangeShapes Go.WideShapes Go.ChangeAt Go.RowKit
attribute [local go_sem] run_store_float

abbrev ints (C : List Int) : List Value := C.map (Value.int .i64)
abbrev sp (a b : Int) : Value := .agg #[.int .i64 a, .int .i64 b]
theorem row_cases {w : World} {base n : Nat} {e : TypeId} {k : Nat} {v : Value} {xs : List Value} (h : w.ownsRow base e k v n xs) :
    (n = 0 ∧ v = .slice none 0 0) ∨ ∃ g cap, v = .slice (some ⟨g, 0, none⟩) n cap ∧ base ≤ g ∧ g < w.heap.size ∧ n ≤ cap ∧ cap ≤ maxLen := by
  obtain ⟨h0, h⟩ := h
  rcases h with ⟨rfl, hn⟩ | ⟨g, cap, cur, rfl, hb, hh, hc, hm, _⟩
  · exact Or.inl ⟨hn, rfl⟩
  · refine Or.inr ⟨g, cap, rfl, hb, ?_, hc, hm⟩
    by_cases x : g < w.heap.size
    · exact x
    · rw [Array.getElem?_eq_none (by omega)] at hh; cases hh
theorem row_cell {w : World} {base g cap n : Nat} {e : TypeId} {C : List Int} (h : w.ownsRow base e 2 (.slice (some ⟨g, 0, none⟩) n cap) n (ints C)) (i : Nat) (hi : i < n * 2) : w.cell? ⟨g, i, none⟩ = some (.int .i64 (C.getD i 0)) := by
  have hl : C.length = n * 2 := by have := h.1; simpa [ints] using this
  rw [h.cellAt i hi]
  simp [ints, List.getElem?_map, List.getElem?_eq_getElem (by omega : i < C.length)]
theorem row_grown {w w' : World} {base n k : Nat} {e : TypeId} {v : Value} {xs : List Value} {row : Option Nat} (h : w.ownsRow base e k v n xs) (hg : w.grownBy w' row) (hne : ∀ g, v.ownBlock = some g → row ≠ some g) : w'.ownsRow base e k v n xs := by
  refine ⟨h.1, ?_⟩
  rcases h.2 with h2 | ⟨g, cap, cur, h1, h2, h3, h4⟩
  · exact .inl h2
  · have hlt : g < w.heap.size := by
      rcases Nat.lt_or_ge g w.heap.size with x | x
      · exact x
      · rw [Array.getElem?_eq_none x] at h3; cases h3
    exact .inr ⟨g, cap, cur, h1, h2, (hg.block g hlt (fun e => hne g (by rw [h1]; rfl) e.symm)).trans h3, h4⟩
theorem grown_setCell {w w1 : World} {g : Nat} (h : w.grownBy w1 (some g)) (o : Nat) (u : Value) : w.grownBy (w1.setCell ⟨g, o, none⟩ u) (some g) := by
  refine ⟨h.os, h.tape, h.output, ?_, ?_⟩
  · have := ((Below.refl 0 w1).setCell (p := ⟨g, o, none⟩) (Nat.zero_le _) u).size
    exact Nat.le_trans h.size this
  · intro k hk hne
    rw [Below.heap_setCell w1 ⟨g, o, none⟩ u k (fun e => hne (by rw [e]))]
    exact h.block k hk hne

def sq (k0 : Int) (m : Nat) : List Int := (List.range m).map fun (i : Nat) => k0 + (i : Int)
theorem sq_get (k0 : Int) (m i : Nat) (h : i < m) : (sq k0 m).getD i 0 = k0 + (i : Int) := by simp [sq, List.getD_eq_getElem?_getD, h]
theorem sq_of {xs : List Value} {k0 : Int} {m : Nat} (hl : xs.length = m) (h : ∀ i, i < m → xs[i]? = some (.int .i64 (k0 + (i : Int)))) : xs = ints (sq k0 m) := by
  apply List.ext_getElem (by simp [sq, hl])
  intro i h1 h2
  have := h i (by omega)
  rw [List.getElem?_eq_getElem h1] at this
  simp at this
  rw [this]
  simp [sq]

end Go.Proofs.Ytjnjpbbpphklhaa.Flt
