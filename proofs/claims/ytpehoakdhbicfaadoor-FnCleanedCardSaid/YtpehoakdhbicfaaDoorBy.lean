/- Rows of bytes: copied, held against each other, read as a text. -/
import Derived.Test.YtpehoakdhbicfaaDoorCl
import Derived.ProofKit
import Derived.WalkSpells
import Derived.WalkLawsBesides
import Derived.WalkSmall
import Derived.Below
import Derived.OwnWalk
import Derived.Outline
import Derived.Laws.OwnMore
import Derived.Laws.IdiomStrings
import Derived.Laws.BytesArg
import Derived.Deep.Draws
import Derived.Deep.QuietTactic
import Derived.BigQuiet
namespace Go.Proofs.YtpehoakdhbicfaaDoor.Ru
open Go.ChangeShapes Go.WideShapes Go.ChangeAt Go.RowKit

abbrev bv (x : UInt8) : Value := .int .u8 (x.toNat : Int)
def Reads (w : World) (v : Value) (L : List UInt8) : Prop :=
  (L = [] ∧ ∃ a cap, v = .slice a 0 cap) ∨ ∃ b o cap, v = .slice (some ⟨b, o, none⟩) L.length cap ∧ L.length ≤ cap ∧ cap ≤ maxLen ∧ b < w.heap.size ∧ ∀ i, i < L.length → w.cell? ⟨b, o + i, none⟩ = some (bv (L.getD i 0))
theorem Reads.below {w w' : World} {v : Value} {L : List UInt8} {B : Nat} (h : Reads w v L) (hb : Below B w w') (hB : w.heap.size ≤ B) : Reads w' v L := by
  rcases h with h | ⟨b, o, cap, h1, h2, h3, h4, h5⟩
  · exact Or.inl h
  · exact Or.inr ⟨b, o, cap, h1, h2, h3, Nat.lt_of_lt_of_le h4 hb.size, fun i hi => (hb.cell (p := ⟨b, o + i, none⟩) (by show b < B; omega)).trans (h5 i hi)⟩
theorem Reads.form {w : World} {v : Value} {L : List UInt8} (h : Reads w v L) : ∃ a cap, v = .slice a L.length cap := by
  rcases h with ⟨rfl, a, cap, rfl⟩ | ⟨b, o, cap, rfl, _⟩
  · exact ⟨_, _, rfl⟩
  · exact ⟨_, _, rfl⟩

theorem conv_reads {w : World} {v : Value} {L : List UInt8} (h : Reads w v L) : (convert 22 9 v).run Tryd.prog w = .ok (.string ⟨L.toArray⟩) w := by
  rcases h with ⟨rfl, a, cap, rfl⟩ | ⟨b, o, cap, rfl, _, _, _, h5⟩
  · cases a with
    | none => exact run_convert_bytes_nil (P := Tryd.prog) w 22 5 Tryd.underlying22 Tryd.underlying5 _ cap 9 Tryd.underlying9
    | some a => exact run_convert_bytes_back (P := Tryd.prog) w 22 9 5 a cap [] Tryd.underlying22 Tryd.underlying5 Tryd.underlying9 (fun j hj => by simp at hj)
  · refine run_convert_bytes_back (P := Tryd.prog) w 22 9 5 ⟨b, o, none⟩ cap L Tryd.underlying22 Tryd.underlying5 Tryd.underlying9 ?_
    intro j hj
    have e : (⟨b, o, none⟩ : Addr).add j = ⟨b, o + j, none⟩ := by
      unfold Addr.add
      split
      · rename_i h; subst h; rfl
      · rfl
    rw [e, h5 j hj]
    simp [List.getD, hj]

theorem Tryd.info5 : (Tryd.prog.info? 5).map (fun i => (i.zero, i.size, i.bytes)) = some (some (.int .u8 0), 1, 1) := by kernel_rfl
def fill (L : List UInt8) (j : Nat) : List UInt8 := (List.range L.length).map fun i => if i < j then L.getD i 0 else 0
abbrev bvs (L : List UInt8) : List Value := L.map bv
theorem fill_len (L : List UInt8) (j : Nat) : (fill L j).length = L.length := by simp [fill]
theorem fill_zero (L : List UInt8) : (madeCells (Value.int .u8 0).cells (L.length * 1)).toList = bvs (fill L 0) := by
  apply List.ext_getElem
  · simp [madeCells, bvs, fill]
  · intro i h1 h2
    simp [madeCells, bvs, fill, Value.cells, Nat.mod_one]
theorem fill_all (L : List UInt8) : fill L L.length = L := by
  apply List.ext_getElem (fill_len _ _)
  intro i h1 h2
  simp [fill, h2]
theorem fill_set (L : List UInt8) (j : Nat) : (fill L j).set j (L.getD j 0) = fill L (j + 1) := by
  apply List.ext_getElem (by rw [List.length_set, fill_len, fill_len])
  intro i h1 h2
  rw [List.getElem_set]
  by_cases e : j = i
  · subst e; simp [fill]
  · rw [if_neg e]
    simp only [fill, List.getElem_map, List.getElem_range]
    by_cases x : i < j
    · rw [if_pos x, if_pos (by omega)]
    · rw [if_neg x, if_neg (by omega)]
theorem bvs_set (L : List UInt8) (j : Nat) (x : UInt8) : (bvs L).set j (bv x) = bvs (L.set j x) := by simp [bvs, List.map_set]
theorem reads_of_row {w : World} {base g : Nat} {L : List UInt8} (h : w.ownsRow base 5 1 (.slice (some ⟨g, 0, none⟩) L.length L.length) L.length (bvs L)) (hm : L.length ≤ maxLen) : Reads w (.slice (some ⟨g, 0, none⟩) L.length L.length) L := by
  refine Or.inr ⟨g, 0, L.length, rfl, Nat.le_refl _, hm, (h.lt g rfl).2, fun i hi => ?_⟩
  rw [Nat.zero_add, h.cellAt i (by omega)]
  simp [bvs, List.getElem?_map, List.getElem?_eq_getElem hi]

end Go.Proofs.YtpehoakdhbicfaaDoor.Ru
