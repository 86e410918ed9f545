/- Rows of int64 marked and held, with great marks. -/
import Derived.Test.YtpdmfhbpedimaaaXoA
namespace Go.Proofs.Ytpdmfhbpedimaaa.Lists
open Go.ChangeShapes Go.WideShapes Go.ChangeAt Go.RowKit

set_option maxHeartbeats 1000000 in
theorem markW_any (w : World) (base : Nat) (v : Value) (L : List Int) (k0 : Int) (hk0 : 0 ≤ k0) (hk1 : k0 ≤ 4611686018427387904) (hn : L.length ≤ 2000000) (h : w.ownsRow base 2 1 v L.length (ints L)) :
    Calls Try.prog 15 #[v, .int .i64 k0] w fun e w' => e = .returned (.int .i64 (k0 + L.length)) ∧ w'.ownsRow base 2 1 v L.length (ints (sq k0 L.length)) ∧ w.grownBy w' v.ownBlock := by
  rcases row_cases h with ⟨rfl, rfl⟩ | ⟨g, c, rfl, _, _, x1, x2⟩
  · go_enter Try.func15, Try.ntmps15
    go_wp2
    go_loop [1, 5] (fun k i => k = .int .i64 k0 ∧ i = .int .i64 0) (fun _ _ => 0)
    case atStart => exact ⟨rfl, rfl⟩
    case round =>
      obtain ⟨rfl, rfl⟩ := hrel
      go_wp2
      go_ret
      exact ⟨by simp, h, World.grownBy.refl _ _⟩
  · have e0 : ints L = ints (mid k0 L 0) := by rw [mid_zero]
    have R0 : Hid (w.ownsRow base 2 1 (.slice (some ⟨g, 0, none⟩) L.length c) L.length (ints (mid k0 L 0))) := (by show World.ownsRow _ _ _ _ _ _ _; rw [← e0]; exact h)
    obtain ⟨n, hn'⟩ : ∃ n, n = L.length := ⟨_, rfl⟩
    rw [← hn'] at x1 hn R0 ⊢
    have HN : Hid (n = L.length) := hn'
    unfold maxLen at x2
    clear h e0 hn'
    go_enter Try.func15, Try.ntmps15
    go_wp2
    go_loopw [1, 5] (fun k i wr => ∃ j : Nat, j ≤ n ∧ k = .int .i64 (k0 + j) ∧ i = .int .i64 j ∧ Hid (wr.ownsRow base 2 1 (.slice (some ⟨g, 0, none⟩) n c) n (ints (mid k0 L j))) ∧ Hid (w.grownBy wr (some g))) (fun _ i _ => n - (intOf i).toNat)
    case atStart => exact ⟨0, Nat.zero_le _, by simp, rfl, R0, World.grownBy.refl _ _⟩
    case round =>
      obtain ⟨j, hj, rfl, rfl, R, G⟩ := hrel
      by_cases hlt : j < n
      · have i0 : (0 : Int) ≤ (j : Int) := by omega
        have i1 : (j : Int) < (n : Int) := by omega
        have q1 : ∃ z, wr.cell? ⟨g, j, none⟩ = some (.int .i64 z) := by
          have := R.out.cellAt j (by omega)
          rw [this]
          have hl : j < (mid k0 L j).length := by rw [mid_len, ← HN.out]; exact hlt
          exact ⟨(mid k0 L j)[j], by simp [ints, List.getElem?_map, List.getElem?_eq_getElem hl]⟩
        obtain ⟨z, q1⟩ := q1
        have q2 : wr.frozen? ⟨g, j, none⟩ = false := R.out.frozenAt j
        have R' : Hid ((wr.setCell ⟨g, j, none⟩ (.int .i64 (k0 + j))).ownsRow base 2 1 (.slice (some ⟨g, 0, none⟩) n c) n (ints (mid k0 L (j + 1)))) := by
          show World.ownsRow _ _ _ _ _ _ _
          rw [← mid_set, ← ints_set]
          exact (R.out.stored j _).1
        have G' : Hid (w.grownBy (wr.setCell ⟨g, j, none⟩ (.int .i64 (k0 + j))) (some g)) := grown_setCell G.out j _
        go_wp2_with fail
        go_roundw
        case rel => exact ⟨j + 1, by omega, by go_num, by go_num, R', G'⟩
        case measure => simp [intOf]; omega
      · have hjn : j = n := by omega
        subst hjn
        have R' : wr.ownsRow base 2 1 (.slice (some ⟨g, 0, none⟩) j c) j (ints (sq k0 j)) := by
          have := R.out
          rw [HN.out, mid_all] at this
          rw [HN.out]
          exact this
        have RH : Hid (wr.ownsRow base 2 1 (.slice (some ⟨g, 0, none⟩) j c) j (ints (sq k0 j))) := R'
        clear R' R
        go_wp2
        go_ret
        exact ⟨rfl, RH.out, G.out⟩

set_option maxHeartbeats 1000000 in
theorem heldW_any (w : World) (v : Value) (n : Nat) (k0 : Int) (hk0 : 0 ≤ k0) (hk1 : k0 ≤ 4611686018427387904) (hn : n ≤ 2000000) (h : Reads w v (sq k0 n)) :
    Calls Try.prog 17 #[v, .int .i64 k0] w fun e w' => e = .returned (.int .i64 (k0 + n)) ∧ ∃ m, w' = w.drewN m := by
  by_cases h0 : n = 0
  · subst h0
    obtain ⟨a, cap, rfl⟩ := h.form
    rw [sq_len]
    clear h
    go_enter Try.func17, Try.ntmps17
    go_wp2
    go_loop [1, 5] (fun k i => k = .int .i64 k0 ∧ i = .int .i64 0) (fun _ _ => 0)
    case atStart => exact ⟨rfl, rfl⟩
    case round =>
      obtain ⟨rfl, rfl⟩ := hrel
      go_wp2
      go_ret
      exact ⟨by simp, 0, rfl⟩
  · rcases h with ⟨e, _⟩ | ⟨b, o, c, rfl, x1, x2, x3, x4⟩
    · exact absurd (by have := sq_len k0 n; rw [e] at this; exact this.symm) h0
    rw [sq_len] at x1 x4 ⊢
    have HC : Hid (∀ i, i < n → w.cell? ⟨b, o + i, none⟩ = some (.int .i64 ((sq k0 n).getD i 0))) := x4
    unfold maxLen at x2
    clear x4
    go_enter Try.func17, Try.ntmps17
    go_wp2
    go_loopw [1, 5] (fun k i wr => ∃ j m : Nat, j ≤ n ∧ k = .int .i64 (k0 + j) ∧ i = .int .i64 j ∧ Hid (wr = w.drewN m)) (fun _ i _ => n - (intOf i).toNat)
    case atStart => exact ⟨0, 0, Nat.zero_le _, by simp, rfl, rfl⟩
    case round =>
      obtain ⟨j, m, hj, rfl, rfl, HR⟩ := hrel
      by_cases hlt : j < n
      · have q1 : wr.cell? ⟨b, o + j, none⟩ = some (.int .i64 (k0 + j)) := by
          rw [HR.out]; have := HC.out j hlt; rw [sq_get _ _ _ hlt] at this; exact this
        have i0 : (0 : Int) ≤ (j : Int) := by omega
        have i1 : (j : Int) < (n : Int) := by omega
        go_wp2_with fail
        go_roundw
        case rel => exact ⟨j + 1, m, by omega, by go_num, by go_num, HR⟩
        case measure => simp [intOf]; omega
      · have hjn : j = n := by omega
        subst hjn
        go_wp2
        go_ret
        exact ⟨rfl, m, HR.out⟩
end Go.Proofs.Ytpdmfhbpedimaaa.Lists
