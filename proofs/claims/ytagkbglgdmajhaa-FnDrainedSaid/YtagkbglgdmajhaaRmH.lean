/- Rows of int64 that hold their marks. -/
import Derived.Test.YtagkbglgdmajhaaXoA
namespace Go.Proofs.Ytagkbglgdmajhaa.Lists
open Go.ChangeShapes Go.WideShapes Go.ChangeAt Go.RowKit

set_option maxHeartbeats 1000000 in
theorem held_any (w : World) (v : Value) (n : Nat) (k0 : Int) (hk0 : 0 ≤ k0) (hk1 : k0 ≤ 1000000) (hn : n ≤ 2000000) (h : Reads w v (sq k0 n)) :
    Calls Try.prog 13 #[v, .int .i64 k0] w fun e w' => e = .returned (.int .i64 (k0 + n)) ∧ ∃ m, w' = w.drewN m := by
  by_cases h0 : n = 0
  · subst h0
    obtain ⟨a, cap, rfl⟩ := h.form
    rw [sq_len]
    clear h
    go_enter Try.func13, Try.ntmps13
    go_wp2
    go_loop [1, 5] (fun k i => k = .int .i64 k0 ∧ i = .int .i64 0) (fun _ _ => 0)
    case atStart => exact ⟨rfl, rfl⟩
    case round =>
      obtain ⟨rfl, rfl⟩ := hrel
      go_wp2
      go_ret
      exact ⟨by simp, 0, rfl⟩
  · rcases h with ⟨e, _⟩ | ⟨b, o, c, rfl, x1, x2, x3, x4⟩
    · exact absurd (by have := sq_len k0 n; rw [e] at this; exact this.symm) h0
    rw [sq_len] at x1 x4 ⊢
    have HC : Hid (∀ i, i < n → w.cell? ⟨b, o + i, none⟩ = some (.int .i64 ((sq k0 n).getD i 0))) := x4
    unfold maxLen at x2
    clear x4
    go_enter Try.func13, Try.ntmps13
    go_wp2
    go_loopw [1, 5] (fun k i wr => ∃ j m : Nat, j ≤ n ∧ k = .int .i64 (k0 + j) ∧ i = .int .i64 j ∧ Hid (wr = w.drewN m)) (fun _ i _ => n - (intOf i).toNat)
    case atStart => exact ⟨0, 0, Nat.zero_le _, by simp, rfl, rfl⟩
    case round =>
      obtain ⟨j, m, hj, rfl, rfl, HR⟩ := hrel
      by_cases hlt : j < n
      · have q1 : wr.cell? ⟨b, o + j, none⟩ = some (.int .i64 (k0 + j)) := by
          rw [HR.out]; have := HC.out j hlt; rw [sq_get _ _ _ hlt] at this; exact this
        have i0 : (0 : Int) ≤ (j : Int) := by omega
        have i1 : (j : Int) < (n : Int) := by omega
        go_wp2_with fail
        go_roundw
        case rel => exact ⟨j + 1, m, by omega, by go_num, by go_num, HR⟩
        case measure => simp [intOf]; omega
      · have hjn : j = n := by omega
        subst hjn
        go_wp2
        go_ret
        exact ⟨rfl, m, HR.out⟩
end Go.Proofs.Ytagkbglgdmajhaa.Lists
