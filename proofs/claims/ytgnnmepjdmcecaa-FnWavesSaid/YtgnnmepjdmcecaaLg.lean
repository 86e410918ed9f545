/- Lengths that divide 36: the model and the program. -/
import Derived.Test.YtgnnmepjdmcecaaPr
import Derived.WalkLawsBesides
namespace Go.Proofs.Ytgnnmepjdmcecaa.Lg
open Go.ChangeShapes Go.WideShapes Go.ChangeAt Go.RowKit
def lg (n : Nat) : Bool := decide (0 < n) && decide (36 % n = 0)
theorem lg_le {n : Nat} (h : lg n = true) : 1 ≤ n ∧ n ≤ 36 := by
  unfold lg at h
  rw [Bool.and_eq_true, decide_eq_true_eq, decide_eq_true_eq] at h
  refine ⟨h.1, ?_⟩
  by_cases e : n ≤ 36
  · exact e
  · rw [Nat.mod_eq_of_lt (by omega)] at h
    omega
theorem lg_small : ∀ k : Fin 37, lg k.val = true → k.val = 1 ∨ k.val = 2 ∨ k.val = 3 ∨ k.val = 4 ∨ k.val = 6 ∨ k.val = 9 ∨ k.val = 12 ∨ k.val = 18 ∨ k.val = 36 := by decide
theorem lg_no {n : Nat} (h : ¬ (n = 1 ∨ n = 2 ∨ n = 3 ∨ n = 4 ∨ n = 6 ∨ n = 9 ∨ n = 12 ∨ n = 18 ∨ n = 36)) : lg n = false := by
  cases e : lg n
  · rfl
  · have := lg_le e
    exact absurd (lg_small ⟨n, by omega⟩ e) h
set_option maxHeartbeats 1000000 in
theorem div_any (n : Nat) (hn : n < 9223372036854775808) (w : World) : Calls Try.prog 17 #[.int .i64 (n : Int), .int .i64 36] w fun e w' => e = .returned (.bool (lg n)) ∧ w' = w := by
  by_cases h0 : n = 0
  · subst h0
    go_enter Try.func17, Try.ntmps17
    go_wp2_with fail
    go_ret
    exact ⟨rfl, rfl⟩
  · have i1 : (0 : Int) < (n : Int) := by omega
    have i2 : ¬ (n : Int) = 0 := by omega
    have i3 : ((n : Int) == 0) = false := by simp; omega
    have q : ((36 % n : Nat) : Int) = (36 : Int) % (n : Int) := by simp
    have e : Hid (lg n = decide ((36 : Int) % (n : Int) = 0)) := (by
      show _ = _
      unfold lg
      rw [decide_eq_true (by omega : 0 < n), Bool.true_and]
      rw [← q]
      by_cases z : 36 % n = 0
      · rw [z]; rfl
      · rw [decide_eq_false z, decide_eq_false (by omega)])
    have m1 : 0 ≤ (36 : Int) % (n : Int) := Int.emod_nonneg _ i2
    have m2 : (36 : Int) % (n : Int) ≤ 36 := by
      have := Nat.mod_le 36 n
      omega
    have i5 : IntKind.i64.wrap ((36 : Int) % (n : Int)) = (36 : Int) % (n : Int) := IntWalk.i64_in _ (by omega)
    clear q
    go_enter Try.func17, Try.ntmps17
    go_wp2_with fail
    go_ret
    exact ⟨by rw [e.out]; rfl, rfl⟩
set_option maxHeartbeats 1000000 in
theorem long_any (n : Nat) (hn : n < 9223372036854775808) (w : World) : Calls Try.prog 14 #[.int .i64 (n : Int)] w fun e w' => e = .returned (.bool (lg n)) ∧ w' = w := by
  by_cases h1 : n = 1
  · subst h1
    go_enter Try.func14, Try.ntmps14
    go_wp2_with fail
    go_ret
    exact ⟨rfl, rfl⟩
  by_cases h2 : n = 2
  · subst h2
    go_enter Try.func14, Try.ntmps14
    go_wp2_with fail
    go_ret
    exact ⟨rfl, rfl⟩
  by_cases h3 : n = 3
  · subst h3
    go_enter Try.func14, Try.ntmps14
    go_wp2_with fail
    go_ret
    exact ⟨rfl, rfl⟩
  by_cases h4 : n = 4
  · subst h4
    go_enter Try.func14, Try.ntmps14
    go_wp2_with fail
    go_ret
    exact ⟨rfl, rfl⟩
  by_cases h6 : n = 6
  · subst h6
    go_enter Try.func14, Try.ntmps14
    go_wp2_with fail
    go_ret
    exact ⟨rfl, rfl⟩
  by_cases h9 : n = 9
  · subst h9
    go_enter Try.func14, Try.ntmps14
    go_wp2_with fail
    go_ret
    exact ⟨rfl, rfl⟩
  by_cases h12 : n = 12
  · subst h12
    go_enter Try.func14, Try.ntmps14
    go_wp2_with fail
    go_ret
    exact ⟨rfl, rfl⟩
  by_cases h18 : n = 18
  · subst h18
    go_enter Try.func14, Try.ntmps14
    go_wp2_with fail
    go_ret
    exact ⟨rfl, rfl⟩
  by_cases h36 : n = 36
  · subst h36
    go_enter Try.func14, Try.ntmps14
    go_wp2_with fail
    go_ret
    exact ⟨rfl, rfl⟩
  have hl : lg n = false := lg_no (by omega)
  have e1 : ((n : Int) == 1) = false := by simp; omega
  have e2 : ((n : Int) == 2) = false := by simp; omega
  have e3 : ((n : Int) == 3) = false := by simp; omega
  have e4 : ((n : Int) == 4) = false := by simp; omega
  have e6 : ((n : Int) == 6) = false := by simp; omega
  have e9 : ((n : Int) == 9) = false := by simp; omega
  have e12 : ((n : Int) == 12) = false := by simp; omega
  have e18 : ((n : Int) == 18) = false := by simp; omega
  have e36 : ((n : Int) == 36) = false := by simp; omega
  rw [hl]
  go_enter Try.func14, Try.ntmps14
  go_wp2_with fail
  go_ret
  exact ⟨rfl, rfl⟩

end Go.Proofs.Ytgnnmepjdmcecaa.Lg
