/- Lists cloned; the fronts of all steps; one step in place. -/
import Derived.Test.YtmopkbkdfipglaaWvA
import Derived.Maps.AppendAt
namespace Go.Proofs.Ytmopkbkdfipglaa.Lists
open Go.ChangeShapes Go.WideShapes Go.ChangeAt Go.RowKit

theorem empty_row {W : World} (e : TypeId) : (W.alloc (.cells #[] e)).ownsRow W.heap.size e 1 (.slice (some ⟨W.heap.size, 0, none⟩) 0 0) 0 [] := by
  refine ⟨by simp, .inr ⟨W.heap.size, 0, #[], rfl, Nat.le_refl _, ?_, Nat.le_refl _, Nat.zero_le _, by simp, by simp⟩⟩
  exact heap_alloc_new W _
theorem row_some {w : World} {base n : Nat} {e : TypeId} {v : Value} {xs : List Value} (h : w.ownsRow base e 1 v n xs) (hn : v ≠ .slice none 0 0) : ∃ g cap, v = .slice (some ⟨g, 0, none⟩) n cap ∧ base ≤ g ∧ g < w.heap.size ∧ n ≤ cap ∧ cap ≤ maxLen := by
  rcases h.2 with ⟨h1, _⟩ | ⟨g, cap, cur, h1, hb, hh, hc, hm, _⟩
  · exact absurd h1 hn
  · refine ⟨g, cap, h1, hb, ?_, hc, hm⟩
    by_cases x : g < w.heap.size
    · exact x
    · rw [Array.getElem?_eq_none (by omega)] at hh; cases hh
theorem one_cell (X : List Int) : ∀ u ∈ ints X, u.oneCell' = true := by intro u hu; simp [ints] at hu; obtain ⟨z, _, rfl⟩ := hu; rfl
theorem ints_at' {w : World} {g n : Nat} {X : List Int} (hn : X.length = n) (K : ∀ i, i < n → w.cell? ⟨g, i, none⟩ = some (.int .i64 (X.getD i 0))) : ∀ j u, (ints X)[j]? = some u → w.cell? ((⟨g, 0, none⟩ : Addr).add j) = some u := by
  intro j u hj
  have hl : j < X.length := by
    have := (List.getElem?_eq_some_iff.1 hj).1
    simpa [ints] using this
  have e : (⟨g, 0, none⟩ : Addr).add j = ⟨g, j, none⟩ := by
    unfold Addr.add
    split
    · rename_i h; subst h; rfl
    · simp
  rw [e, K j (by omega)]
  simp [ints, List.getElem?_map, List.getElem?_eq_getElem hl] at hj
  rw [← hj]
  simp [List.getElem?_eq_getElem hl]

theorem row_int {w : World} {base g cap n : Nat} {L : List Int} (h : w.ownsRow base 2 1 (.slice (some ⟨g, 0, none⟩) n cap) n (ints L)) (hl : L.length = n) (i : Nat) (hi : i < n) : ∃ z, w.cell? ⟨g, i, none⟩ = some (.int .i64 z) := by
  subst hl
  exact ⟨_, row_cell h i hi⟩

theorem grown_drewN {w w1 : World} {r : Option Nat} (h : w.grownBy w1 r) (n : Nat) : w.grownBy (w1.drewN n) r := ⟨h.os, h.tape, h.output, h.size, h.block⟩
theorem Below.grownBy {w w' : World} (h : Below w.heap.size w w') (r : Option Nat) : w.grownBy w' r := ⟨h.os, h.tape, h.output, h.size, fun k hk _ => h.block k hk⟩

end Go.Proofs.Ytmopkbkdfipglaa.Lists
