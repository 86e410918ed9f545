/- No word is empty. -/
import Derived.Test.YtchdhiojhdoenaaGoJ
namespace Go.Proofs.Ytchdhiojhdoenaa.Ru
open Go.RowKit

theorem stB_lt (s : ByteArray) (i : Nat) (hi : i ≤ s.size) : (∀ a, (stB s i).1 = some a → a < i) ∧ ∀ p ∈ (stB s i).2, p.1 < p.2 ∧ p.2 ≤ s.size := by
  induction i with
  | zero => exact ⟨fun a h => (by cases h), fun p h => (by cases h)⟩
  | succ i ih =>
    obtain ⟨h1, h2⟩ := ih (by omega)
    rw [stB_step]
    by_cases hb : blk (bt s i) = true
    · rw [if_pos hb]
      refine ⟨fun a h => (by cases h), fun p hp => ?_⟩
      cases hst : (stB s i).1 with
      | none => rw [hst] at hp; exact h2 p hp
      | some c =>
        rw [hst] at hp
        rcases List.mem_append.1 hp with h | h
        · exact h2 p h
        · rw [List.mem_singleton.1 h]
          exact ⟨h1 c hst, by show i ≤ s.size; omega⟩
    · rw [if_neg hb]
      refine ⟨fun a h => ?_, h2⟩
      have e : (stB s i).1.getD i = a := Option.some.inj h
      cases hst : (stB s i).1 with
      | none => rw [hst] at e; have : i = a := e; omega
      | some c => rw [hst] at e; have : c = a := e; have := h1 c hst; omega
theorem words_pos (s : ByteArray) : ∀ x ∈ wordsB s, 0 < x.size ∧ x.size ≤ s.size := by
  obtain ⟨h1, h2⟩ := stB_lt s s.size (Nat.le_refl _)
  have hall : ∀ p ∈ spansB s, p.1 < p.2 ∧ p.2 ≤ s.size := by
    unfold spansB Lib.closeSpans
    cases hst : (stB s s.size).1 with
    | none => exact h2
    | some a =>
      intro p hp
      rcases List.mem_append.1 hp with h | h
      · exact h2 p h
      · rw [List.mem_singleton.1 h]
        exact ⟨h1 a hst, Nat.le_refl _⟩
  intro x hx
  obtain ⟨p, hp, rfl⟩ := List.mem_map.1 hx
  have := hall p hp
  rw [ByteArray.size_extract, Nat.min_eq_left this.2]
  omega
theorem cnt_pos (x : ByteArray) (h : 0 < x.size) : 1 ≤ cnt x := by
  have e := cnt_ends x
  by_cases c : cnt x = 0
  · rw [c] at e
    exact absurd h e.1
  · omega
theorem bnd_take (l : List ByteArray) (i : Nat) : bnd (l.take i) ≤ bnd l := by
  have : bnd l = bnd (l.take i) + bnd (l.drop i) := by
    conv => lhs; rw [← List.take_append_drop i l]
    unfold bnd
    rw [List.map_append, List.sum_append]
  omega
theorem take_snoc (l : List ByteArray) (i : Nat) (h : i < l.length) : l.take (i + 1) = l.take i ++ [l.getD i emp] := by
  rw [List.take_succ_eq_append_getElem h]
  congr 2
  simp [List.getD_eq_getElem?_getD, List.getElem?_eq_getElem h]
theorem getD_mem (l : List ByteArray) (i : Nat) (h : i < l.length) : l.getD i emp ∈ l := by
  rw [List.getD_eq_getElem?_getD, List.getElem?_eq_getElem h]
  exact List.getElem_mem h
end Go.Proofs.Ytchdhiojhdoenaa.Ru
