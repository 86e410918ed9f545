/- A tied task's jobOk. -/
import Derived.Test.YtfhpomfdkpfooaaRdy
import Derived.Deep.QuietTactic
import Derived.BigQuiet
namespace Go.Proofs.Ytfhpomfdkpfooaa.Gr
open Go.ChangeShapes Go.WideShapes Go.ChangeAt Go.RowKit
open Go.Proofs.Ytfhpomfdkpfooaa.Rk Go.Proofs.Ytfhpomfdkpfooaa.Al

def jj (s t m : Int) (f : Bool) : Bool := if s = 0 then inn t 0 (m - 1) else if s = 1 ∨ s = 2 then inn t 1 m && f else if s = 3 then (t == m) && f else false
set_option maxHeartbeats 2000000 in
theorem jobok_any (w : World) (bt ot jb jo : Nat) (s t m : Int) (f : Bool) (h1 : w.cell? ⟨bt, ot + 4, none⟩ = some (.int .i64 m)) (h2 : w.cell? ⟨bt, ot + 5, none⟩ = some (.pointer (some ⟨jb, jo, none⟩))) (h3 : w.cell? ⟨jb, jo, none⟩ = some (.int .i64 s)) (h4 : w.cell? ⟨jb, jo + 1, none⟩ = some (.int .i64 t)) (hm : 0 ≤ m ∧ m ≤ 1000)
    (hr : ∀ n, Calls Try.prog 37 #[.pointer (some ⟨bt, ot, none⟩)] (w.drewN n) fun e w' => e = .returned (.bool f) ∧ w' = w.drewN n) :
    Calls Try.prog 46 #[.pointer (some ⟨bt, ot, none⟩)] w fun e w' => e = .returned (.bool (jj s t m f)) ∧ ∃ n, w' = w.drewN n := by
  have RD : Hid (∀ n, Calls Try.prog 37 #[.pointer (some ⟨bt, ot, none⟩)] (w.drewN n) fun e w' => e = .returned (.bool f) ∧ w' = w.drewN n) := hr
  clear hr
  have j1 : IntKind.i64.wrap (m - 1) = m - 1 := IntWalk.i64_in _ (by omega)
  have C0 : Hid (∀ w, Calls Try.prog 29 #[.int .i64 t, .int .i64 0, .int .i64 (m - 1)] w fun e w' => e = .returned (.bool (inn t 0 (m - 1))) ∧ w' = w) := fun w => i_in _ _ _ w
  have C1 : Hid (∀ w, Calls Try.prog 29 #[.int .i64 t, .int .i64 1, .int .i64 m] w fun e w' => e = .returned (.bool (inn t 1 m)) ∧ w' = w) := fun w => i_in _ _ _ w
  by_cases s0 : s = 0
  · have e : jj s t m f = inn t 0 (m - 1) := by unfold jj; rw [if_pos s0]
    rw [e]
    subst s0
    clear e
    go_enter Try.func46, Try.ntmps46
    go_wp2_with fail
    go_quiet ((go_at_call 29; exact Calls.quiet_of_same (C0.out _)))
    go_wp2_with fail
    go_ret
    exact ⟨rfl, _, rfl⟩
  by_cases s12 : s = 1 ∨ s = 2
  · have e : jj s t m f = (inn t 1 m && f) := by unfold jj; rw [if_neg s0, if_pos s12]
    rw [e]
    have n0 : (s == 0) = false := by simpa using s0
    clear e
    cases hi : inn t 1 m
    · rw [hi] at C1
      rcases s12 with rfl | rfl
      all_goals
        go_enter Try.func46, Try.ntmps46
        go_wp2_with fail
        go_quiet ((go_at_call 29; exact Calls.quiet_of_same (C1.out _)))
        go_wp2_with fail
        go_ret
        exact ⟨rfl, _, rfl⟩
    · rw [hi] at C1
      rcases s12 with rfl | rfl
      all_goals
        go_enter Try.func46, Try.ntmps46
        go_wp2_with fail
        go_quiet (first | (go_at_call 29; exact Calls.quiet_of_same (C1.out _)) | (go_at_call 37; exact Calls.quiet_of_same (RD.out _)))
        go_wp2_with fail
        go_ret
        exact ⟨rfl, _, rfl⟩
  by_cases s3 : s = 3
  · have e : jj s t m f = ((t == m) && f) := by unfold jj; rw [if_neg s0, if_neg s12, if_pos s3]
    rw [e]
    subst s3
    clear e
    cases hi : (t == m)
    · have hn : ¬ t = m := by simpa using hi
      go_enter Try.func46, Try.ntmps46
      go_wp2_with fail
      go_quiet (fail)
      go_wp2_with fail
      go_ret
      exact ⟨rfl, _, rfl⟩
    · have hn : t = m := by simpa using hi
      subst hn
      go_enter Try.func46, Try.ntmps46
      go_wp2_with fail
      go_quiet ((go_at_call 37; exact Calls.quiet_of_same (RD.out _)))
      go_wp2_with fail
      go_ret
      exact ⟨rfl, _, rfl⟩
  · have e : jj s t m f = false := by unfold jj; rw [if_neg s0, if_neg s12, if_neg s3]
    rw [e]
    have n0 : (s == 0) = false := by simpa using s0
    have n1 : (s == 1) = false := by simpa using fun h => s12 (Or.inl h)
    have n2 : (s == 2) = false := by simpa using fun h => s12 (Or.inr h)
    have n3 : (s == 3) = false := by simpa using s3
    have m1 : ¬ s = 1 := fun h => s12 (Or.inl h)
    have m2 : ¬ s = 2 := fun h => s12 (Or.inr h)
    clear e
    go_enter Try.func46, Try.ntmps46
    go_wp2_with fail
    go_ret
    exact ⟨rfl, 0, rfl⟩
end Go.Proofs.Ytfhpomfdkpfooaa.Gr
