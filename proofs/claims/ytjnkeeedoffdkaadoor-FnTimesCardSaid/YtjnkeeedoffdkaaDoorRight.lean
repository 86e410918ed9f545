/- Contracts for whether a date is right, in the program and in its model. -/
import Derived.Test.YtjnkeeedoffdkaaDoorImpl
import Derived.Deep.QuietTactic
import Derived.BigQuiet
import Derived.Laws.StructEq
import Derived.WalkSmall
namespace Go.Proofs.YtjnkeeedoffdkaaDoor.Dates
open Go.ChangeShapes Go.WideShapes Go.ChangeAt Go.RowKit

def special (y m d h i : Int) : Prop := y = 2100 ∧ m = 1 ∧ d = 1 ∧ h = 0 ∧ i = 0
def plain (y m d h i : Int) : Prop := (2000 ≤ y ∧ y ≤ 2099) ∧ (1 ≤ m ∧ m ≤ 12) ∧ (1 ≤ d ∧ d ≤ dim y m) ∧ (0 ≤ h ∧ h ≤ 23) ∧ (0 ≤ i ∧ i ≤ 59)

set_option maxHeartbeats 400000 in
theorem win_yes (n a b : Int) (w : World) (h1 : a ≤ n) (h2 : n ≤ b) :
    Calls Tryd.prog 32 #[.int .i64 n, .int .i64 a, .int .i64 b] w fun e w' => e = .returned (.bool true) ∧ w' = w := by
  go_enter Tryd.func32, Tryd.ntmps32
  go_wp2
  go_ret
  exact ⟨rfl, rfl⟩
set_option maxHeartbeats 400000 in
theorem win_no (n a b : Int) (w : World) (h : n < a ∨ b < n) :
    Calls Tryd.prog 32 #[.int .i64 n, .int .i64 a, .int .i64 b] w fun e w' => e = .returned (.bool false) ∧ w' = w := by
  by_cases h1 : a ≤ n
  · have h2 : decide (n ≤ b) = false := by simp; omega
    clear h
    go_enter Tryd.func32, Tryd.ntmps32
    go_wp2
    go_ret
    exact ⟨rfl, rfl⟩
  · have h2 : decide (a ≤ n) = false := by simp; omega
    clear h h1
    go_enter Tryd.func32, Tryd.ntmps32
    go_wp2
    go_ret
    exact ⟨rfl, rfl⟩

set_option linter.unusedVariables false in
set_option maxHeartbeats 1000000 in
theorem dok_special (y m d h i : Int) (w : World) (H : Months w) (hs : special y m d h i) :
    Calls Tryd.prog 23 #[.agg #[.int .i64 y, .int .i64 m, .int .i64 d, .int .i64 h, .int .i64 i]] w fun e w' => e = .returned (.bool true) ∧ Below w.heap.size w w' := by
  obtain ⟨rfl, rfl, rfl, rfl, rfl⟩ := hs
  go_enter Tryd.func23, Tryd.ntmps23
  go_wp2
  go_ret
  exact ⟨rfl, (Below.refl _ _).alloc (Nat.le_refl _) _⟩

set_option linter.unusedVariables false in
set_option maxHeartbeats 1000000 in
theorem dok_plain (y m d h i : Int) (w : World) (H : Months w) (hp : plain y m d h i) :
    Calls Tryd.prog 23 #[.agg #[.int .i64 y, .int .i64 m, .int .i64 d, .int .i64 h, .int .i64 i]] w fun e w' => e = .returned (.bool true) ∧ Below w.heap.size w w' := by
  obtain ⟨⟨h1, h2⟩, ⟨h3, h4⟩, ⟨h5, h6⟩, ⟨h7, h8⟩, h9, h10⟩ := hp
  have hy : (y == 2100) = false := by simp; omega
  have HA : Hid (∀ o n, Months ((w.alloc o).drewN n)) := fun o n => H.below (below_drewN ((Below.refl w.heap.size w).alloc (Nat.le_refl _) o) n) H.size
  clear H
  go_enter Tryd.func23, Tryd.ntmps23
  go_wp2_with fail
  go_quiet ((first | (go_at_call 32; refine Calls.quiet_of_same (win_yes _ _ _ _ ?_ ?_) <;> omega) | (go_at_call 32; refine Calls.quiet_of_same (win_no _ _ _ _ ?_); omega) | (go_at_call 20; refine Calls.quiet_of_same (daysIn_any _ _ _ (HA.out _ _) ?_ ?_ ?_ ?_ ?_) <;> omega)))
  go_wp2_with fail
  go_ret
  exact ⟨rfl, below_drewN ((Below.refl _ _).alloc (Nat.le_refl _) _) _⟩

set_option linter.unusedVariables false in
set_option maxHeartbeats 1000000 in
theorem dok_b1 (y m d h i : Int) (w : World) (H : Months w) (hy : y = 2100) (hm : ¬ m = 1) :
    Calls Tryd.prog 23 #[.agg #[.int .i64 y, .int .i64 m, .int .i64 d, .int .i64 h, .int .i64 i]] w fun e w' => e = .returned (.bool false) ∧ Below w.heap.size w w' := by
  subst hy
  have hq : (m == 1) = false := by simp [hm]
  have HA : Hid (∀ o n, Months ((w.alloc o).drewN n)) := fun o n => H.below (below_drewN ((Below.refl w.heap.size w).alloc (Nat.le_refl _) o) n) H.size
  clear H
  go_enter Tryd.func23, Tryd.ntmps23
  go_wp2_with fail
  go_quiet ((first | (go_at_call 32; refine Calls.quiet_of_same (win_yes _ _ _ _ ?_ ?_) <;> omega) | (go_at_call 32; refine Calls.quiet_of_same (win_no _ _ _ _ ?_); omega) | (go_at_call 20; refine Calls.quiet_of_same (daysIn_any _ _ _ (HA.out _ _) ?_ ?_ ?_ ?_ ?_) <;> omega)))
  go_wp2_with fail
  go_ret
  exact ⟨rfl, below_drewN ((Below.refl _ _).alloc (Nat.le_refl _) _) _⟩

set_option linter.unusedVariables false in
set_option maxHeartbeats 1000000 in
theorem dok_b2 (y m d h i : Int) (w : World) (H : Months w) (hy : y = 2100) (hm : m = 1) (hd : ¬ d = 1) :
    Calls Tryd.prog 23 #[.agg #[.int .i64 y, .int .i64 m, .int .i64 d, .int .i64 h, .int .i64 i]] w fun e w' => e = .returned (.bool false) ∧ Below w.heap.size w w' := by
  subst hy hm
  have hq : (d == 1) = false := by simp [hd]
  have HA : Hid (∀ o n, Months ((w.alloc o).drewN n)) := fun o n => H.below (below_drewN ((Below.refl w.heap.size w).alloc (Nat.le_refl _) o) n) H.size
  clear H
  go_enter Tryd.func23, Tryd.ntmps23
  go_wp2_with fail
  go_quiet ((first | (go_at_call 32; refine Calls.quiet_of_same (win_yes _ _ _ _ ?_ ?_) <;> omega) | (go_at_call 32; refine Calls.quiet_of_same (win_no _ _ _ _ ?_); omega) | (go_at_call 20; refine Calls.quiet_of_same (daysIn_any _ _ _ (HA.out _ _) ?_ ?_ ?_ ?_ ?_) <;> omega)))
  go_wp2_with fail
  go_ret
  exact ⟨rfl, below_drewN ((Below.refl _ _).alloc (Nat.le_refl _) _) _⟩

set_option linter.unusedVariables false in
set_option maxHeartbeats 1000000 in
theorem dok_b3 (y m d h i : Int) (w : World) (H : Months w) (hy : y = 2100) (hm : m = 1) (hd : d = 1) (hh : ¬ h = 0) :
    Calls Tryd.prog 23 #[.agg #[.int .i64 y, .int .i64 m, .int .i64 d, .int .i64 h, .int .i64 i]] w fun e w' => e = .returned (.bool false) ∧ Below w.heap.size w w' := by
  subst hy hm hd
  have hq : (h == 0) = false := by simp [hh]
  have HA : Hid (∀ o n, Months ((w.alloc o).drewN n)) := fun o n => H.below (below_drewN ((Below.refl w.heap.size w).alloc (Nat.le_refl _) o) n) H.size
  clear H
  go_enter Tryd.func23, Tryd.ntmps23
  go_wp2_with fail
  go_quiet ((first | (go_at_call 32; refine Calls.quiet_of_same (win_yes _ _ _ _ ?_ ?_) <;> omega) | (go_at_call 32; refine Calls.quiet_of_same (win_no _ _ _ _ ?_); omega) | (go_at_call 20; refine Calls.quiet_of_same (daysIn_any _ _ _ (HA.out _ _) ?_ ?_ ?_ ?_ ?_) <;> omega)))
  go_wp2_with fail
  go_ret
  exact ⟨rfl, below_drewN ((Below.refl _ _).alloc (Nat.le_refl _) _) _⟩

set_option linter.unusedVariables false in
set_option maxHeartbeats 1000000 in
theorem dok_b4 (y m d h i : Int) (w : World) (H : Months w) (hy : y = 2100) (hm : m = 1) (hd : d = 1) (hh : h = 0) (hi : ¬ i = 0) :
    Calls Tryd.prog 23 #[.agg #[.int .i64 y, .int .i64 m, .int .i64 d, .int .i64 h, .int .i64 i]] w fun e w' => e = .returned (.bool false) ∧ Below w.heap.size w w' := by
  subst hy hm hd hh
  have hq : (i == 0) = false := by simp [hi]
  have HA : Hid (∀ o n, Months ((w.alloc o).drewN n)) := fun o n => H.below (below_drewN ((Below.refl w.heap.size w).alloc (Nat.le_refl _) o) n) H.size
  clear H
  go_enter Tryd.func23, Tryd.ntmps23
  go_wp2_with fail
  go_quiet ((first | (go_at_call 32; refine Calls.quiet_of_same (win_yes _ _ _ _ ?_ ?_) <;> omega) | (go_at_call 32; refine Calls.quiet_of_same (win_no _ _ _ _ ?_); omega) | (go_at_call 20; refine Calls.quiet_of_same (daysIn_any _ _ _ (HA.out _ _) ?_ ?_ ?_ ?_ ?_) <;> omega)))
  go_wp2_with fail
  go_ret
  exact ⟨rfl, below_drewN ((Below.refl _ _).alloc (Nat.le_refl _) _) _⟩

set_option linter.unusedVariables false in
set_option maxHeartbeats 1000000 in
theorem dok_c0 (y m d h i : Int) (w : World) (H : Months w) (hy : ¬ y = 2100) (h1 : y < 2000 ∨ 2099 < y) :
    Calls Tryd.prog 23 #[.agg #[.int .i64 y, .int .i64 m, .int .i64 d, .int .i64 h, .int .i64 i]] w fun e w' => e = .returned (.bool false) ∧ Below w.heap.size w w' := by
  have hq : (y == 2100) = false := by simp [hy]
  have HA : Hid (∀ o n, Months ((w.alloc o).drewN n)) := fun o n => H.below (below_drewN ((Below.refl w.heap.size w).alloc (Nat.le_refl _) o) n) H.size
  clear H
  go_enter Tryd.func23, Tryd.ntmps23
  go_wp2_with fail
  go_quiet ((first | (go_at_call 32; refine Calls.quiet_of_same (win_yes _ _ _ _ ?_ ?_) <;> omega) | (go_at_call 32; refine Calls.quiet_of_same (win_no _ _ _ _ ?_); omega) | (go_at_call 20; refine Calls.quiet_of_same (daysIn_any _ _ _ (HA.out _ _) ?_ ?_ ?_ ?_ ?_) <;> omega)))
  go_wp2_with fail
  go_ret
  exact ⟨rfl, below_drewN ((Below.refl _ _).alloc (Nat.le_refl _) _) _⟩

set_option linter.unusedVariables false in
set_option maxHeartbeats 1000000 in
theorem dok_c1 (y m d h i : Int) (w : World) (H : Months w) (h1 : 2000 ≤ y) (h2 : y ≤ 2099) (h3 : m < 1 ∨ 12 < m) :
    Calls Tryd.prog 23 #[.agg #[.int .i64 y, .int .i64 m, .int .i64 d, .int .i64 h, .int .i64 i]] w fun e w' => e = .returned (.bool false) ∧ Below w.heap.size w w' := by
  have hq : (y == 2100) = false := by simp; omega
  have HA : Hid (∀ o n, Months ((w.alloc o).drewN n)) := fun o n => H.below (below_drewN ((Below.refl w.heap.size w).alloc (Nat.le_refl _) o) n) H.size
  clear H
  go_enter Tryd.func23, Tryd.ntmps23
  go_wp2_with fail
  go_quiet ((first | (go_at_call 32; refine Calls.quiet_of_same (win_yes _ _ _ _ ?_ ?_) <;> omega) | (go_at_call 32; refine Calls.quiet_of_same (win_no _ _ _ _ ?_); omega) | (go_at_call 20; refine Calls.quiet_of_same (daysIn_any _ _ _ (HA.out _ _) ?_ ?_ ?_ ?_ ?_) <;> omega)))
  go_wp2_with fail
  go_ret
  exact ⟨rfl, below_drewN ((Below.refl _ _).alloc (Nat.le_refl _) _) _⟩

set_option linter.unusedVariables false in
set_option maxHeartbeats 1000000 in
theorem dok_c2 (y m d h i : Int) (w : World) (H : Months w) (h1 : 2000 ≤ y) (h2 : y ≤ 2099) (h3 : 1 ≤ m) (h4 : m ≤ 12) (h5 : d < 1 ∨ dim y m < d) :
    Calls Tryd.prog 23 #[.agg #[.int .i64 y, .int .i64 m, .int .i64 d, .int .i64 h, .int .i64 i]] w fun e w' => e = .returned (.bool false) ∧ Below w.heap.size w w' := by
  have hq : (y == 2100) = false := by simp; omega
  have HA : Hid (∀ o n, Months ((w.alloc o).drewN n)) := fun o n => H.below (below_drewN ((Below.refl w.heap.size w).alloc (Nat.le_refl _) o) n) H.size
  clear H
  go_enter Tryd.func23, Tryd.ntmps23
  go_wp2_with fail
  go_quiet ((first | (go_at_call 32; refine Calls.quiet_of_same (win_yes _ _ _ _ ?_ ?_) <;> omega) | (go_at_call 32; refine Calls.quiet_of_same (win_no _ _ _ _ ?_); omega) | (go_at_call 20; refine Calls.quiet_of_same (daysIn_any _ _ _ (HA.out _ _) ?_ ?_ ?_ ?_ ?_) <;> omega)))
  go_wp2_with fail
  go_ret
  exact ⟨rfl, below_drewN ((Below.refl _ _).alloc (Nat.le_refl _) _) _⟩

set_option linter.unusedVariables false in
set_option maxHeartbeats 1000000 in
theorem dok_c3 (y m d h i : Int) (w : World) (H : Months w) (h1 : 2000 ≤ y) (h2 : y ≤ 2099) (h3 : 1 ≤ m) (h4 : m ≤ 12) (h5 : 1 ≤ d) (h6 : d ≤ dim y m) (h7 : h < 0 ∨ 23 < h) :
    Calls Tryd.prog 23 #[.agg #[.int .i64 y, .int .i64 m, .int .i64 d, .int .i64 h, .int .i64 i]] w fun e w' => e = .returned (.bool false) ∧ Below w.heap.size w w' := by
  have hq : (y == 2100) = false := by simp; omega
  have HA : Hid (∀ o n, Months ((w.alloc o).drewN n)) := fun o n => H.below (below_drewN ((Below.refl w.heap.size w).alloc (Nat.le_refl _) o) n) H.size
  clear H
  go_enter Tryd.func23, Tryd.ntmps23
  go_wp2_with fail
  go_quiet ((first | (go_at_call 32; refine Calls.quiet_of_same (win_yes _ _ _ _ ?_ ?_) <;> omega) | (go_at_call 32; refine Calls.quiet_of_same (win_no _ _ _ _ ?_); omega) | (go_at_call 20; refine Calls.quiet_of_same (daysIn_any _ _ _ (HA.out _ _) ?_ ?_ ?_ ?_ ?_) <;> omega)))
  go_wp2_with fail
  go_ret
  exact ⟨rfl, below_drewN ((Below.refl _ _).alloc (Nat.le_refl _) _) _⟩

set_option linter.unusedVariables false in
set_option maxHeartbeats 1000000 in
theorem dok_c4 (y m d h i : Int) (w : World) (H : Months w) (h1 : 2000 ≤ y) (h2 : y ≤ 2099) (h3 : 1 ≤ m) (h4 : m ≤ 12) (h5 : 1 ≤ d) (h6 : d ≤ dim y m) (h7 : 0 ≤ h) (h8 : h ≤ 23) (h9 : i < 0 ∨ 59 < i) :
    Calls Tryd.prog 23 #[.agg #[.int .i64 y, .int .i64 m, .int .i64 d, .int .i64 h, .int .i64 i]] w fun e w' => e = .returned (.bool false) ∧ Below w.heap.size w w' := by
  have hq : (y == 2100) = false := by simp; omega
  have HA : Hid (∀ o n, Months ((w.alloc o).drewN n)) := fun o n => H.below (below_drewN ((Below.refl w.heap.size w).alloc (Nat.le_refl _) o) n) H.size
  clear H
  go_enter Tryd.func23, Tryd.ntmps23
  go_wp2_with fail
  go_quiet ((first | (go_at_call 32; refine Calls.quiet_of_same (win_yes _ _ _ _ ?_ ?_) <;> omega) | (go_at_call 32; refine Calls.quiet_of_same (win_no _ _ _ _ ?_); omega) | (go_at_call 20; refine Calls.quiet_of_same (daysIn_any _ _ _ (HA.out _ _) ?_ ?_ ?_ ?_ ?_) <;> omega)))
  go_wp2_with fail
  go_ret
  exact ⟨rfl, below_drewN ((Below.refl _ _).alloc (Nat.le_refl _) _) _⟩

set_option linter.unusedVariables false in
set_option maxHeartbeats 1000000 in
theorem dok_no (y m d h i : Int) (w : World) (H : Months w) (hs : ¬ special y m d h i) (hp : ¬ plain y m d h i) :
    Calls Tryd.prog 23 #[.agg #[.int .i64 y, .int .i64 m, .int .i64 d, .int .i64 h, .int .i64 i]] w fun e w' => e = .returned (.bool false) ∧ Below w.heap.size w w' := by
  by_cases hy : y = 2100
  · by_cases hm : m = 1
    · by_cases hd : d = 1
      · by_cases hh : h = 0
        · by_cases hi : i = 0
          · exact absurd ⟨hy, hm, hd, hh, hi⟩ hs
          · exact dok_b4 y m d h i w H hy hm hd hh hi
        · exact dok_b3 y m d h i w H hy hm hd hh
      · exact dok_b2 y m d h i w H hy hm hd
    · exact dok_b1 y m d h i w H hy hm
  · by_cases h1 : 2000 ≤ y ∧ y ≤ 2099
    · by_cases h2 : 1 ≤ m ∧ m ≤ 12
      · by_cases h3 : 1 ≤ d ∧ d ≤ dim y m
        · by_cases h4 : 0 ≤ h ∧ h ≤ 23
          · by_cases h5 : 0 ≤ i ∧ i ≤ 59
            · exact absurd ⟨h1, h2, h3, h4, h5⟩ hp
            · exact dok_c4 y m d h i w H h1.1 h1.2 h2.1 h2.2 h3.1 h3.2 h4.1 h4.2 (by omega)
          · exact dok_c3 y m d h i w H h1.1 h1.2 h2.1 h2.2 h3.1 h3.2 (by omega)
        · exact dok_c2 y m d h i w H h1.1 h1.2 h2.1 h2.2 (by omega)
      · exact dok_c1 y m d h i w H h1.1 h1.2 (by omega)
    · exact dok_c0 y m d h i w H hy (by omega)

end Go.Proofs.YtjnkeeedoffdkaaDoor.Dates
