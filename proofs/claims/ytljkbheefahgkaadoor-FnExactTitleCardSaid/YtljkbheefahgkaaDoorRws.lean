/- Rows of texts and of bytes that a call owns. -/
import Derived.Test.YtljkbheefahgkaaDoorRnz
import Derived.Laws.BytesArg
import Derived.OpenShut
import Derived.Deep.Draws
import Derived.Deep.QuietTactic
import Derived.BigQuiet
import Derived.BigCall
import Derived.Deep.RegionWith
import Derived.Deep.RegionHeld3
import Derived.Deep.DrawnRows
import Derived.Deep.Cut
import Derived.Deep.DeepCutAuto
import Derived.Deep.DeepMust
import Derived.Shelf.Strings.FieldsFuncAny
import Derived.Shelf.Strings.BuilderRune
namespace Go.Proofs.YtljkbheefahgkaaDoor.Ru
open Go.ChangeShapes Go.WideShapes Go.ChangeAt Go.RowKit

theorem str_cells (l : List UInt8) : Lib.strCells ⟨l.toArray⟩ = Lib.byteCells l := by
  simp [Lib.strCells, Lib.byteCells]

theorem row_below {w w' : World} {base n : Nat} {e : TypeId} {v : Value} {xs : List Value} (h : w.ownsRow base e 1 v n xs) (hb : Below w.heap.size w w') : w'.ownsRow base e 1 v n xs := by
  refine ⟨h.1, ?_⟩
  rcases h.2 with h | ⟨g, cap, cur, h1, h2, h3, h4⟩
  · exact .inl h
  · refine .inr ⟨g, cap, cur, h1, h2, ?_, h4⟩
    rw [hb.block g (Array.getElem?_eq_some_iff.1 h3).1]
    exact h3
theorem row_low {w : World} {base base' n : Nat} {e : TypeId} {v : Value} {xs : List Value} (h : w.ownsRow base e 1 v n xs) (hb : base' ≤ base) : w.ownsRow base' e 1 v n xs := by
  refine ⟨h.1, ?_⟩
  rcases h.2 with h | ⟨g, cap, cur, h1, h2, h3⟩
  · exact .inl h
  · exact .inr ⟨g, cap, cur, h1, Nat.le_trans hb h2, h3⟩
theorem conv_row {w : World} {base : Nat} {a : Option Addr} {cap : Nat} {l : List UInt8} (h : w.ownsRow base 5 1 (.slice a l.length cap) l.length (Lib.byteCells l)) :
    (convert 32 9 (.slice a l.length cap)).run Tryd.prog w = .ok (.string ⟨l.toArray⟩) w := by
  rcases h.2 with ⟨hv, hn⟩ | ⟨g, cap', cur, hv, _, hb, hc, _, hsz, hx⟩
  · have : l = [] := List.eq_nil_of_length_eq_zero hn
    subst this
    simp at hv
    rw [hv.1]
    exact run_convert_bytes_nil (P := Tryd.prog) w 32 5 Tryd.underlying32 Tryd.underlying5 _ cap 9 Tryd.underlying9
  · simp at hv
    obtain ⟨rfl, rfl⟩ := hv
    refine run_convert_bytes_back (P := Tryd.prog) w 32 9 5 ⟨g, 0, none⟩ cap l Tryd.underlying32 Tryd.underlying5 Tryd.underlying9 ?_
    intro j hj
    have := h.cells (g := g) rfl j (.int .u8 (l[j].toNat : Int)) (by simp [Lib.byteCells, hj])
    exact this

abbrev emp : ByteArray := ⟨#[]⟩
abbrev strs (L : List ByteArray) : List Value := L.map Value.string

theorem srow_cases {w : World} {base : Nat} {v : Value} {L : List ByteArray} (h : w.ownsRow base 9 1 v L.length (strs L)) :
    (L = [] ∧ v = .slice none 0 0) ∨ ∃ g cap, v = .slice (some ⟨g, 0, none⟩) L.length cap ∧ base ≤ g ∧ g < w.heap.size ∧ L.length ≤ cap ∧ cap ≤ maxLen := by
  obtain ⟨h0, h⟩ := h
  rcases h with ⟨rfl, hn⟩ | ⟨g, cap, cur, rfl, hb, hh, hc, hm, _⟩
  · exact Or.inl ⟨List.eq_nil_of_length_eq_zero hn, rfl⟩
  · refine Or.inr ⟨g, cap, rfl, hb, ?_, hc, hm⟩
    by_cases x : g < w.heap.size
    · exact x
    · rw [Array.getElem?_eq_none (by omega)] at hh; cases hh
theorem srow_cell {w : World} {base g cap : Nat} {L : List ByteArray} (h : w.ownsRow base 9 1 (.slice (some ⟨g, 0, none⟩) L.length cap) L.length (strs L)) (i : Nat) (hi : i < L.length) : w.cell? ⟨g, i, none⟩ = some (.string (L.getD i emp)) := by
  have := h.cellAt i (by omega)
  rw [this]
  simp [strs, List.getElem?_map, List.getElem?_eq_getElem hi]

theorem strs_set (L : List ByteArray) (j : Nat) (x : ByteArray) : (strs L).set j (.string x) = strs (L.set j x) := by simp [strs, List.map_set]
end Go.Proofs.YtljkbheefahgkaaDoor.Ru
