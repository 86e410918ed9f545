/- The program's NearDay walked. -/
import Derived.Test.YtjnkeeedoffdkaaDoorNear
namespace Go.Proofs.YtjnkeeedoffdkaaDoor.Dates
open Go.ChangeShapes Go.WideShapes Go.ChangeAt Go.RowKit

set_option maxHeartbeats 400000 in
theorem apart_any (a b : Int) (w : World) (a0 : 0 ≤ a) (a1 : a ≤ 100000000) (b0 : 0 ≤ b) (b1 : b ≤ 100000000) :
    Calls Tryd.prog 28 #[.int .i64 a, .int .i64 b] w fun e w' => e = .returned (.int .i64 (dist a b)) ∧ w' = w := by
  by_cases h : b ≤ a
  · have e : dist a b = a - b := by unfold dist; rw [if_pos h]
    rw [e]
    clear e
    by_cases h2 : a = b
    · subst h2
      rw [show a - a = 0 by omega]
      go_enter Tryd.func28, Tryd.ntmps28
      go_wp2
      go_ret
      exact ⟨rfl, rfl⟩
    · have h3 : b < a := by omega
      clear h2 h
      go_enter Tryd.func28, Tryd.ntmps28
      go_wp2
      go_ret
      exact ⟨rfl, rfl⟩
  · have e : dist a b = b - a := by unfold dist; rw [if_neg h]
    rw [e]
    have h3 : a < b := by omega
    clear e h
    go_enter Tryd.func28, Tryd.ntmps28
    go_wp2
    go_ret
    exact ⟨rfl, rfl⟩

theorem tm_start (j day : Int) : tm (yr j) (mo j) day 0 0 = (start j + day - 1) * 1440 := by unfold tm start; omega
theorem T_plus (j day hour minute : Int) : T day hour minute j = tm (yr j) (mo j) day 0 0 + (hour * 60 + minute) := by unfold T; rw [tm_start]; omega
theorem good_tm {j day : Int} (g : good (yr j) (mo j) day 0 0) : 0 ≤ tm (yr j) (mo j) day 0 0 ∧ tm (yr j) (mo j) day 0 0 ≤ 60000000 := by
  obtain ⟨k1, k2, k3, k4, k5, k6, k7, k8, k9, k10, _⟩ := good_bd g
  have a := ys_bd (yr j) k1 k2
  have b := cum_bd (yr j) (mo j)
  unfold tm
  omega

set_option maxHeartbeats 1000000 in
theorem dom_any (j day hour minute : Int) (w : World) (H : Months w) (hj0 : -10 ≤ j) (hj1 : j ≤ 2000) (c0 : 0 ≤ hour * 60 + minute) (c1 : hour * 60 + minute ≤ 1440) :
    Calls Tryd.prog 27 #[.int .i64 j, .int .i64 day, .int .i64 (hour * 60 + minute)] w fun e w' => ∃ t : Int, ∃ B : Bool, e = .returned (.tuple #[.int .i64 t, .bool B]) ∧ 0 ≤ t ∧ t ≤ 100000000 ∧ (B = true → V day hour minute j ∧ t = T day hour minute j) ∧ (B = false → ¬ V day hour minute j) ∧ Below w.heap.size w w' := by
  obtain ⟨s, hs⟩ : ∃ s, s = hour * 60 + minute := ⟨_, rfl⟩
  have HS : Hid (s = hour * 60 + minute) := hs
  rw [← hs] at c0 c1 ⊢
  clear hs
  have HW : Hid (∀ o, Months (w.alloc o)) := fun o => H.below ((Below.refl w.heap.size w).alloc (Nat.le_refl _) o) H.size
  clear H
  by_cases hn : j < 0
  · have nv : Hid (¬ V day hour minute j) := fun v => by have := good_range v.1; omega
    go_enter Tryd.func27, Tryd.ntmps27
    go_wp2
    go_ret2
    exact ⟨0, false, rfl, by omega, by omega, (fun h => absurd h (by simp)), fun _ => nv.out, Below.refl _ _⟩
  · have hn' : 0 ≤ j := by omega
    by_cases g : good (yr j) (mo j) day 0 0
    · have hb := good_tm g
      obtain ⟨t0, ht0⟩ : ∃ t0, t0 = tm (yr j) (mo j) day 0 0 := ⟨_, rfl⟩
      rw [← ht0] at hb
      have eT : T day hour minute j = t0 + s := by rw [T_plus, ← ht0, HS.out]
      have H8 : Hid (∀ w, Months w → Calls Tryd.prog 9 #[.agg #[.int .i64 (2000 + j / 12), .int .i64 (1 + j % 12), .int .i64 day, .int .i64 0, .int .i64 0]] w fun e w' => e = .returned (.tuple #[.int .i64 t0, .bool true]) ∧ Below w.heap.size w w') := fun w H => by rw [ht0]; exact itime_yes _ _ _ _ _ w H g
      by_cases ht : t0 + s ≤ 52596000
      · have hv : Hid (V day hour minute j ∧ t0 + s = T day hour minute j) := ⟨⟨g, by rw [eT]; omega, by rw [eT]; exact ht⟩, eT.symm⟩
        clear eT ht0 g HS hn
        go_enter Tryd.func27, Tryd.ntmps27
        go_wp2_with (first | (go_at_call 9; refine (H8.out _ (HW.out _)).mono ?_; rintro e w1 ⟨rfl, hb1⟩) | (go_at_call 17; refine (isTime_yes _ _ (by omega) (by omega)).mono ?_; rintro e w' ⟨rfl, rfl⟩))
        go_ret2
        exact ⟨t0 + s, true, rfl, by omega, by omega, fun _ => hv.out, (fun h => absurd h (by simp)), ((Below.refl _ _).alloc (Nat.le_refl _) _).trans (hb1.mono (by simp))⟩
      · have nv : Hid (¬ V day hour minute j) := fun v => ht (by have := v.2.2; rw [eT] at this; exact this)
        clear eT ht0 g HS hn
        go_enter Tryd.func27, Tryd.ntmps27
        go_wp2_with (first | (go_at_call 9; refine (H8.out _ (HW.out _)).mono ?_; rintro e w1 ⟨rfl, hb1⟩) | (go_at_call 17; refine (isTime_no _ _ (by omega)).mono ?_; rintro e w' ⟨rfl, rfl⟩))
        go_ret2
        exact ⟨t0 + s, false, rfl, by omega, by omega, (fun h => absurd h (by simp)), fun _ => nv.out, ((Below.refl _ _).alloc (Nat.le_refl _) _).trans (hb1.mono (by simp))⟩
    · have nv : Hid (¬ V day hour minute j) := fun v => g v.1
      have G : Hid (¬ good (2000 + j / 12) (1 + j % 12) day 0 0) := g
      clear g HS hn
      go_enter Tryd.func27, Tryd.ntmps27
      go_wp2_with (go_at_call 9; refine (itime_no _ _ _ _ _ _ (HW.out _) G.out).mono ?_; rintro e w1 ⟨rfl, hb1⟩)
      go_ret2
      exact ⟨s, false, rfl, by omega, by omega, (fun h => absurd h (by simp)), fun _ => nv.out, ((Below.refl _ _).alloc (Nat.le_refl _) _).trans (hb1.mono (by simp))⟩
end Go.Proofs.YtjnkeeedoffdkaaDoor.Dates
