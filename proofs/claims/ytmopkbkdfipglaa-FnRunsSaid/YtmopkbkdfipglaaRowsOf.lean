/- Rows of whole numbers that a call owns: compared, marked, held. -/
import Derived.Test.YtmopkbkdfipglaaRows
import Derived.WalkKit
import Derived.ProofKit
import Derived.OpenShut
import Derived.WalkSpells
import Derived.Below
import Derived.Outline
import Derived.OwnWalk
import Derived.WalkSmall
import Derived.Laws.OwnMore
import Derived.Deep.QuietTactic
import Derived.BigQuiet
namespace Go.Proofs.Ytmopkbkdfipglaa.Lists
open Go.ChangeShapes Go.WideShapes Go.ChangeAt Go.RowKit

abbrev ints (L : List Int) : List Value := L.map (Value.int .i64)

theorem row_cases {w : World} {base : Nat} {v : Value} {L : List Int} (h : w.ownsRow base 2 1 v L.length (ints L)) :
    (L = [] ∧ v = .slice none 0 0) ∨ ∃ g cap, v = .slice (some ⟨g, 0, none⟩) L.length cap ∧ base ≤ g ∧ g < w.heap.size ∧ L.length ≤ cap ∧ cap ≤ maxLen := by
  obtain ⟨h0, h⟩ := h
  rcases h with ⟨rfl, hn⟩ | ⟨g, cap, cur, rfl, hb, hh, hc, hm, _⟩
  · exact Or.inl ⟨List.eq_nil_of_length_eq_zero hn, rfl⟩
  · refine Or.inr ⟨g, cap, rfl, hb, ?_, hc, hm⟩
    by_cases x : g < w.heap.size
    · exact x
    · rw [Array.getElem?_eq_none (by omega)] at hh; cases hh

theorem row_cell {w : World} {base g cap : Nat} {L : List Int} (h : w.ownsRow base 2 1 (.slice (some ⟨g, 0, none⟩) L.length cap) L.length (ints L)) (i : Nat) (hi : i < L.length) : w.cell? ⟨g, i, none⟩ = some (.int .i64 (L.getD i 0)) := by
  have := h.cellAt i (by omega)
  rw [this]
  simp [ints, List.getElem?_map, List.getElem?_eq_getElem hi]

theorem row_len {w : World} {base : Nat} {v : Value} {L : List Int} (h : w.ownsRow base 2 1 v L.length (ints L)) : L.length ≤ maxLen := by
  rcases row_cases h with ⟨rfl, _⟩ | ⟨_, _, _, _, _, h1, h2⟩
  · exact Nat.zero_le _
  · omega

set_option maxHeartbeats 1000000 in
theorem eq_same (w : World) (b1 b2 : Nat) (v1 v2 : Value) (L : List Int) (h1 : w.ownsRow b1 2 1 v1 L.length (ints L)) (h2 : w.ownsRow b2 2 1 v2 L.length (ints L)) :
    Calls Try.prog 10 #[v1, v2] w fun e w' => e = .returned (.bool true) ∧ ∃ n, w' = w.drewN n := by
  rcases row_cases h1 with ⟨rfl, rfl⟩ | ⟨g1, c1, rfl, _, _, x1, x2⟩
  · rcases row_cases h2 with ⟨_, rfl⟩ | ⟨g2, c2, rfl, _, _, _, _⟩
    · go_enter Try.func10, Try.ntmps10
      go_wp2
      go_loop [5] (fun i => i = .int .i64 0) (fun _ => 0)
      case atStart => rfl
      case round =>
        subst hrel
        go_wp2
        go_ret
        exact ⟨rfl, 0, rfl⟩
    · go_enter Try.func10, Try.ntmps10
      go_wp2
      go_loop [5] (fun i => i = .int .i64 0) (fun _ => 0)
      case atStart => rfl
      case round =>
        subst hrel
        go_wp2
        go_ret
        exact ⟨rfl, 0, rfl⟩
  · rcases row_cases h2 with ⟨e, rfl⟩ | ⟨g2, c2, rfl, _, _, y1, y2⟩
    · subst e
      go_enter Try.func10, Try.ntmps10
      go_wp2
      go_loop [5] (fun i => i = .int .i64 0) (fun _ => 0)
      case atStart => rfl
      case round =>
        subst hrel
        go_wp2
        go_ret
        exact ⟨rfl, 0, rfl⟩
    · have k1 := row_cell h1
      have k2 := row_cell h2
      have K1 : Hid (∀ i, i < L.length → w.cell? ⟨g1, i, none⟩ = some (.int .i64 (L.getD i 0))) := k1
      have K2 : Hid (∀ i, i < L.length → w.cell? ⟨g2, i, none⟩ = some (.int .i64 (L.getD i 0))) := k2
      obtain ⟨n, hn⟩ : ∃ n, n = L.length := ⟨_, rfl⟩
      rw [← hn] at x1 y1 ⊢
      have HN : Hid (n = L.length) := hn
      unfold maxLen at x2 y2
      clear k1 k2 h1 h2 hn
      go_enter Try.func10, Try.ntmps10
      go_wp2
      go_loopw [5] (fun i wr => ∃ k m : Nat, k ≤ n ∧ i = .int .i64 k ∧ wr = w.drewN m) (fun i _ => n - (intOf i).toNat)
      case atStart => exact ⟨0, 0, Nat.zero_le _, rfl, rfl⟩
      case round =>
        obtain ⟨k, m, hk, rfl, rfl⟩ := hrel
        by_cases hlt : k < n
        · have q1 := K1.out k (by rw [← HN.out]; exact hlt)
          have q2 := K2.out k (by rw [← HN.out]; exact hlt)
          have i0 : (0 : Int) ≤ (k : Int) := by omega
          have i1 : (k : Int) < (n : Int) := by omega
          have hne : (L.getD k 0 != L.getD k 0) = false := by simp
          generalize L.getD k 0 = z at *
          go_wp2_with fail
          go_quiet (fail)
          go_wp2_with fail
          go_roundw
          case rel => exact ⟨k + 1, m + nq, by omega, by go_num, rfl⟩
          case measure => simp [intOf]; omega
        · go_wp2
          go_ret
          exact ⟨rfl, m, rfl⟩

def mid (k0 : Int) (L : List Int) (j : Nat) : List Int := (List.range L.length).map fun (i : Nat) => if i < j then k0 + (i : Int) else L.getD i 0
def sq (k0 : Int) (n : Nat) : List Int := (List.range n).map fun (i : Nat) => k0 + (i : Int)
theorem mid_len (k0 : Int) (L : List Int) (j : Nat) : (mid k0 L j).length = L.length := by simp [mid]
theorem sq_len (k0 : Int) (n : Nat) : (sq k0 n).length = n := by simp [sq]
theorem mid_zero (k0 : Int) (L : List Int) : mid k0 L 0 = L := by
  apply List.ext_getElem (mid_len _ _ _)
  intro i h1 h2
  simp [mid, List.getElem?_eq_getElem h2]
theorem mid_all (k0 : Int) (L : List Int) : mid k0 L L.length = sq k0 L.length := by
  apply List.ext_getElem (by rw [mid_len, sq_len])
  intro i h1 h2
  rw [mid_len] at h1
  simp [mid, sq, h1]
theorem mid_set (k0 : Int) (L : List Int) (j : Nat) : (mid k0 L j).set j (k0 + (j : Int)) = mid k0 L (j + 1) := by
  apply List.ext_getElem (by rw [List.length_set, mid_len, mid_len])
  intro i h1 h2
  rw [mid_len] at h2
  rw [List.getElem_set]
  by_cases e : j = i
  · subst e; simp [mid]
  · rw [if_neg e]
    simp only [mid, List.getElem_map, List.getElem_range]
    by_cases x : i < j
    · rw [if_pos x, if_pos (by omega)]
    · rw [if_neg x, if_neg (by omega)]
theorem ints_set (L : List Int) (j : Nat) (x : Int) : (ints L).set j (.int .i64 x) = ints (L.set j x) := by simp [ints, List.map_set]
theorem sq_get (k0 : Int) (n i : Nat) (h : i < n) : (sq k0 n).getD i 0 = k0 + (i : Int) := by simp [sq, List.getD_eq_getElem?_getD, h]

theorem grown_setCell {w w1 : World} {g : Nat} (h : w.grownBy w1 (some g)) (o : Nat) (u : Value) : w.grownBy (w1.setCell ⟨g, o, none⟩ u) (some g) := by
  refine ⟨h.os, h.tape, h.output, ?_, ?_⟩
  · have := ((Below.refl 0 w1).setCell (p := ⟨g, o, none⟩) (Nat.zero_le _) u).size
    exact Nat.le_trans h.size this
  · intro k hk hne
    rw [Below.heap_setCell w1 ⟨g, o, none⟩ u k (fun e => hne (by rw [e]))]
    exact h.block k hk hne

set_option maxHeartbeats 1000000 in
theorem mark_any (w : World) (base : Nat) (v : Value) (L : List Int) (k0 : Int) (hk0 : 0 ≤ k0) (hk1 : k0 ≤ 1000000) (hn : L.length ≤ 2000000) (h : w.ownsRow base 2 1 v L.length (ints L)) :
    Calls Try.prog 11 #[v, .int .i64 k0] w fun e w' => e = .returned (.int .i64 (k0 + L.length)) ∧ w'.ownsRow base 2 1 v L.length (ints (sq k0 L.length)) ∧ w.grownBy w' v.ownBlock := by
  rcases row_cases h with ⟨rfl, rfl⟩ | ⟨g, c, rfl, _, _, x1, x2⟩
  · go_enter Try.func11, Try.ntmps11
    go_wp2
    go_loop [1, 5] (fun k i => k = .int .i64 k0 ∧ i = .int .i64 0) (fun _ _ => 0)
    case atStart => exact ⟨rfl, rfl⟩
    case round =>
      obtain ⟨rfl, rfl⟩ := hrel
      go_wp2
      go_ret
      exact ⟨by simp, h, World.grownBy.refl _ _⟩
  · have e0 : ints L = ints (mid k0 L 0) := by rw [mid_zero]
    have R0 : Hid (w.ownsRow base 2 1 (.slice (some ⟨g, 0, none⟩) L.length c) L.length (ints (mid k0 L 0))) := (by show World.ownsRow _ _ _ _ _ _ _; rw [← e0]; exact h)
    obtain ⟨n, hn'⟩ : ∃ n, n = L.length := ⟨_, rfl⟩
    rw [← hn'] at x1 hn R0 ⊢
    have HN : Hid (n = L.length) := hn'
    unfold maxLen at x2
    clear h e0 hn'
    go_enter Try.func11, Try.ntmps11
    go_wp2
    go_loopw [1, 5] (fun k i wr => ∃ j : Nat, j ≤ n ∧ k = .int .i64 (k0 + j) ∧ i = .int .i64 j ∧ Hid (wr.ownsRow base 2 1 (.slice (some ⟨g, 0, none⟩) n c) n (ints (mid k0 L j))) ∧ Hid (w.grownBy wr (some g))) (fun _ i _ => n - (intOf i).toNat)
    case atStart => exact ⟨0, Nat.zero_le _, by simp, rfl, R0, World.grownBy.refl _ _⟩
    case round =>
      obtain ⟨j, hj, rfl, rfl, R, G⟩ := hrel
      by_cases hlt : j < n
      · have i0 : (0 : Int) ≤ (j : Int) := by omega
        have i1 : (j : Int) < (n : Int) := by omega
        have q1 : ∃ z, wr.cell? ⟨g, j, none⟩ = some (.int .i64 z) := by
          have := R.out.cellAt j (by omega)
          rw [this]
          have hl : j < (mid k0 L j).length := by rw [mid_len, ← HN.out]; exact hlt
          exact ⟨(mid k0 L j)[j], by simp [ints, List.getElem?_map, List.getElem?_eq_getElem hl]⟩
        obtain ⟨z, q1⟩ := q1
        have q2 : wr.frozen? ⟨g, j, none⟩ = false := R.out.frozenAt j
        have R' : Hid ((wr.setCell ⟨g, j, none⟩ (.int .i64 (k0 + j))).ownsRow base 2 1 (.slice (some ⟨g, 0, none⟩) n c) n (ints (mid k0 L (j + 1)))) := by
          show World.ownsRow _ _ _ _ _ _ _
          rw [← mid_set, ← ints_set]
          exact (R.out.stored j _).1
        have G' : Hid (w.grownBy (wr.setCell ⟨g, j, none⟩ (.int .i64 (k0 + j))) (some g)) := grown_setCell G.out j _
        go_wp2_with fail
        go_roundw
        case rel => exact ⟨j + 1, by omega, by go_num, by go_num, R', G'⟩
        case measure => simp [intOf]; omega
      · have hjn : j = n := by omega
        subst hjn
        have R' : wr.ownsRow base 2 1 (.slice (some ⟨g, 0, none⟩) j c) j (ints (sq k0 j)) := by
          have := R.out
          rw [HN.out, mid_all] at this
          rw [HN.out]
          exact this
        have RH : Hid (wr.ownsRow base 2 1 (.slice (some ⟨g, 0, none⟩) j c) j (ints (sq k0 j))) := R'
        clear R' R
        go_wp2
        go_ret
        exact ⟨rfl, RH.out, G.out⟩

set_option maxHeartbeats 1000000 in
theorem held_any (w : World) (base : Nat) (v : Value) (n : Nat) (k0 : Int) (hk0 : 0 ≤ k0) (hk1 : k0 ≤ 1000000) (hn : n ≤ 2000000) (h : w.ownsRow base 2 1 v n (ints (sq k0 n))) :
    Calls Try.prog 17 #[v, .int .i64 k0] w fun e w' => e = .returned (.int .i64 (k0 + n)) ∧ w' = w := by
  have h' : w.ownsRow base 2 1 v (sq k0 n).length (ints (sq k0 n)) := by rw [sq_len]; exact h
  rcases row_cases h' with ⟨e, rfl⟩ | ⟨g, c, rfl, _, _, x1, x2⟩
  · have e0 : n = 0 := by have := sq_len k0 n; rw [e] at this; exact this.symm
    subst e0
    clear h h' e
    go_enter Try.func17, Try.ntmps17
    go_wp2
    go_loop [1, 5] (fun k i => k = .int .i64 k0 ∧ i = .int .i64 0) (fun _ _ => 0)
    case atStart => exact ⟨rfl, rfl⟩
    case round =>
      obtain ⟨rfl, rfl⟩ := hrel
      go_wp2
      go_ret
      exact ⟨by simp, rfl⟩
  · have K := row_cell h'
    rw [sq_len] at K x1 ⊢
    have KH : Hid (∀ i, i < n → w.cell? ⟨g, i, none⟩ = some (.int .i64 ((sq k0 n).getD i 0))) := K
    unfold maxLen at x2
    clear h h' K
    go_enter Try.func17, Try.ntmps17
    go_wp2
    go_loop [1, 5] (fun k i => ∃ j : Nat, j ≤ n ∧ k = .int .i64 (k0 + j) ∧ i = .int .i64 j) (fun _ i => n - (intOf i).toNat)
    case atStart => exact ⟨0, Nat.zero_le _, by simp, rfl⟩
    case round =>
      obtain ⟨j, hj, rfl, rfl⟩ := hrel
      by_cases hlt : j < n
      · have q1 := KH.out j hlt
        rw [sq_get k0 n j hlt] at q1
        have i0 : (0 : Int) ≤ (j : Int) := by omega
        have i1 : (j : Int) < (n : Int) := by omega
        have hne : (k0 + (j : Int) != k0 + (j : Int)) = false := by simp
        go_wp2
        go_round
        case rel => exact ⟨j + 1, by omega, by go_num, by go_num⟩
        case measure => simp [intOf]; omega
      · have hjn : j = n := by omega
        subst hjn
        go_wp2
        go_ret
        exact ⟨rfl, rfl⟩
end Go.Proofs.Ytmopkbkdfipglaa.Lists
