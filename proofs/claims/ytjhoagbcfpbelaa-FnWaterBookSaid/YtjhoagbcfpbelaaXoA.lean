/- Rows of whole numbers that a call owns: compared, marked, held. -/
import Derived.Test.YtjhoagbcfpbelaaRows
import Derived.WalkKit
import Derived.ProofKit
import Derived.OpenShut
import Derived.WalkSpells
import Derived.Below
import Derived.Outline
import Derived.OwnWalk
import Derived.WalkSmall
import Derived.Laws.OwnMore
import Derived.Deep.QuietTactic
import Derived.BigQuiet
import Derived.Laws.MakeOwn
import Derived.Deep.RegionWith
import Derived.Deep.RegionHeld3
namespace Go.Proofs.Ytjhoagbcfpbelaa.Lists
open Go.ChangeShapes Go.WideShapes Go.ChangeAt Go.RowKit

abbrev ints (L : List Int) : List Value := L.map (Value.int .i64)

theorem row_cases {w : World} {base : Nat} {v : Value} {L : List Int} (h : w.ownsRow base 2 1 v L.length (ints L)) :
    (L = [] ∧ v = .slice none 0 0) ∨ ∃ g cap, v = .slice (some ⟨g, 0, none⟩) L.length cap ∧ base ≤ g ∧ g < w.heap.size ∧ L.length ≤ cap ∧ cap ≤ maxLen := by
  obtain ⟨h0, h⟩ := h
  rcases h with ⟨rfl, hn⟩ | ⟨g, cap, cur, rfl, hb, hh, hc, hm, _⟩
  · exact Or.inl ⟨List.eq_nil_of_length_eq_zero hn, rfl⟩
  · refine Or.inr ⟨g, cap, rfl, hb, ?_, hc, hm⟩
    by_cases x : g < w.heap.size
    · exact x
    · rw [Array.getElem?_eq_none (by omega)] at hh; cases hh

theorem row_cell {w : World} {base g cap : Nat} {L : List Int} (h : w.ownsRow base 2 1 (.slice (some ⟨g, 0, none⟩) L.length cap) L.length (ints L)) (i : Nat) (hi : i < L.length) : w.cell? ⟨g, i, none⟩ = some (.int .i64 (L.getD i 0)) := by
  have := h.cellAt i (by omega)
  rw [this]
  simp [ints, List.getElem?_map, List.getElem?_eq_getElem hi]

theorem row_len {w : World} {base : Nat} {v : Value} {L : List Int} (h : w.ownsRow base 2 1 v L.length (ints L)) : L.length ≤ maxLen := by
  rcases row_cases h with ⟨rfl, _⟩ | ⟨_, _, _, _, _, h1, h2⟩
  · exact Nat.zero_le _
  · omega

def mid (k0 : Int) (L : List Int) (j : Nat) : List Int := (List.range L.length).map fun (i : Nat) => if i < j then k0 + (i : Int) else L.getD i 0
def sq (k0 : Int) (n : Nat) : List Int := (List.range n).map fun (i : Nat) => k0 + (i : Int)
theorem mid_len (k0 : Int) (L : List Int) (j : Nat) : (mid k0 L j).length = L.length := by simp [mid]
theorem sq_len (k0 : Int) (n : Nat) : (sq k0 n).length = n := by simp [sq]
theorem mid_zero (k0 : Int) (L : List Int) : mid k0 L 0 = L := by
  apply List.ext_getElem (mid_len _ _ _)
  intro i h1 h2
  simp [mid, List.getElem?_eq_getElem h2]
theorem mid_all (k0 : Int) (L : List Int) : mid k0 L L.length = sq k0 L.length := by
  apply List.ext_getElem (by rw [mid_len, sq_len])
  intro i h1 h2
  rw [mid_len] at h1
  simp [mid, sq, h1]
theorem mid_set (k0 : Int) (L : List Int) (j : Nat) : (mid k0 L j).set j (k0 + (j : Int)) = mid k0 L (j + 1) := by
  apply List.ext_getElem (by rw [List.length_set, mid_len, mid_len])
  intro i h1 h2
  rw [mid_len] at h2
  rw [List.getElem_set]
  by_cases e : j = i
  · subst e; simp [mid]
  · rw [if_neg e]
    simp only [mid, List.getElem_map, List.getElem_range]
    by_cases x : i < j
    · rw [if_pos x, if_pos (by omega)]
    · rw [if_neg x, if_neg (by omega)]
theorem ints_set (L : List Int) (j : Nat) (x : Int) : (ints L).set j (.int .i64 x) = ints (L.set j x) := by simp [ints, List.map_set]
theorem sq_get (k0 : Int) (n i : Nat) (h : i < n) : (sq k0 n).getD i 0 = k0 + (i : Int) := by simp [sq, List.getD_eq_getElem?_getD, h]

theorem grown_setCell {w w1 : World} {g : Nat} (h : w.grownBy w1 (some g)) (o : Nat) (u : Value) : w.grownBy (w1.setCell ⟨g, o, none⟩ u) (some g) := by
  refine ⟨h.os, h.tape, h.output, ?_, ?_⟩
  · have := ((Below.refl 0 w1).setCell (p := ⟨g, o, none⟩) (Nat.zero_le _) u).size
    exact Nat.le_trans h.size this
  · intro k hk hne
    rw [Below.heap_setCell w1 ⟨g, o, none⟩ u k (fun e => hne (by rw [e]))]
    exact h.block k hk hne

theorem Try.info2 : (Try.prog.info? 2).map (fun i => (i.zero, i.size, i.bytes)) = some (some (.int .i64 0), 1, 8) := by kernel_rfl

def Reads (w : World) (v : Value) (L : List Int) : Prop :=
  (L = [] ∧ ∃ a cap, v = .slice a 0 cap) ∨ ∃ b o cap, v = .slice (some ⟨b, o, none⟩) L.length cap ∧ L.length ≤ cap ∧ cap ≤ maxLen ∧ b < w.heap.size ∧ ∀ i, i < L.length → w.cell? ⟨b, o + i, none⟩ = some (.int .i64 (L.getD i 0))

theorem Reads.form {w : World} {v : Value} {L : List Int} (h : Reads w v L) : ∃ a cap, v = .slice a L.length cap := by
  rcases h with ⟨rfl, a, cap, rfl⟩ | ⟨b, o, cap, rfl, _⟩
  · exact ⟨_, _, rfl⟩
  · exact ⟨_, _, rfl⟩
theorem Reads.on {w w' : World} {v : Value} {L : List Int} (h : Reads w v L) (hb : Below w.heap.size w w') : Reads w' v L := by
  rcases h with ⟨rfl, a, cap, rfl⟩ | ⟨b, o, cap, rfl, h1, h2, h3, h4⟩
  · exact .inl ⟨rfl, _, _, rfl⟩
  · exact .inr ⟨b, o, cap, rfl, h1, h2, Nat.lt_of_lt_of_le h3 hb.size, fun i hi => (hb.cell (p := ⟨b, o + i, none⟩) h3).trans (h4 i hi)⟩
theorem reads_row {w : World} {base : Nat} {v : Value} {L : List Int} (h : w.ownsRow base 2 1 v L.length (ints L)) : Reads w v L := by
  rcases row_cases h with ⟨rfl, rfl⟩ | ⟨g, cap, rfl, h1, h2, h3, h4⟩
  · exact .inl ⟨rfl, _, _, rfl⟩
  · exact .inr ⟨g, 0, cap, rfl, h3, h4, h2, fun i hi => by rw [Nat.zero_add]; exact row_cell h i hi⟩

set_option maxHeartbeats 400000 in
theorem sin_any (n a b : Int) (w : World) : Calls Try.prog 15 #[.int .i64 n, .int .i64 a, .int .i64 b] w fun e w' => e = .returned (.bool (decide (a ≤ n) && decide (n ≤ b))) ∧ w' = w := by
  by_cases h1 : a ≤ n
  · by_cases h2 : n ≤ b
    · go_enter Try.func15, Try.ntmps15
      go_wp2
      go_ret
      exact ⟨by simp [h1, h2], rfl⟩
    · have h2' : decide (n ≤ b) = false := by simp; omega
      go_enter Try.func15, Try.ntmps15
      go_wp2
      go_ret
      exact ⟨by simp, rfl⟩
  · have h1' : decide (a ≤ n) = false := by simp; omega
    go_enter Try.func15, Try.ntmps15
    go_wp2
    go_ret
    exact ⟨by simp, rfl⟩
set_option maxHeartbeats 400000 in
theorem win_any (n a b : Int) (w : World) : Calls Try.prog 26 #[.int .i64 n, .int .i64 a, .int .i64 b] w fun e w' => e = .returned (.bool (decide (a ≤ n) && decide (n ≤ b))) ∧ w' = w := by
  by_cases h1 : a ≤ n
  · by_cases h2 : n ≤ b
    · go_enter Try.func26, Try.ntmps26
      go_wp2
      go_ret
      exact ⟨by simp [h1, h2], rfl⟩
    · have h2' : decide (n ≤ b) = false := by simp; omega
      go_enter Try.func26, Try.ntmps26
      go_wp2
      go_ret
      exact ⟨by simp, rfl⟩
  · have h1' : decide (a ≤ n) = false := by simp; omega
    go_enter Try.func26, Try.ntmps26
    go_wp2
    go_ret
    exact ⟨by simp, rfl⟩

def fill (L : List Int) (j : Nat) : List Int := (List.range L.length).map fun i => if i < j then L.getD i 0 else 0
theorem fill_len (L : List Int) (j : Nat) : (fill L j).length = L.length := by simp [fill]
theorem fill_zero (L : List Int) : (madeCells (Value.int .i64 0).cells (L.length * 1)).toList = ints (fill L 0) := by
  apply List.ext_getElem
  · simp [madeCells, ints, fill]
  · intro i h1 h2
    simp [madeCells, ints, fill, Value.cells, Nat.mod_one]
theorem fill_all (L : List Int) : fill L L.length = L := by
  apply List.ext_getElem (fill_len _ _)
  intro i h1 h2
  simp [fill, h2]
theorem fill_set (L : List Int) (j : Nat) : (fill L j).set j (L.getD j 0) = fill L (j + 1) := by
  apply List.ext_getElem (by rw [List.length_set, fill_len, fill_len])
  intro i h1 h2
  rw [List.getElem_set]
  by_cases e : j = i
  · subst e; simp [fill]
  · rw [if_neg e]
    simp only [fill, List.getElem_map, List.getElem_range]
    by_cases x : i < j
    · rw [if_pos x, if_pos (by omega)]
    · rw [if_neg x, if_neg (by omega)]

end Go.Proofs.Ytjhoagbcfpbelaa.Lists
