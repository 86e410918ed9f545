/- TimeOf in the program; the law FnExactTimeOf walked, where the table of days is as the program lays it. -/
import Derived.Test.YtjnkeeedoffdkaaDoorTimeOf
namespace Go.Proofs.YtjnkeeedoffdkaaDoor.Dates
open Go.ChangeShapes Go.WideShapes Go.ChangeAt Go.RowKit

theorem tm_eq (y m d h i : Int) : (ys y + d - 1 + cum y m) * 1440 + h * 60 + i = tm y m d h i := by unfold tm; omega
theorem ret_two {k : IntKind} {a b : Int} {c : Value} (h : a = b) : Ending.returned (.tuple #[.int k a, c]) = .returned (.tuple #[.int k b, c]) := by rw [h]

set_option maxHeartbeats 1000000 in
theorem itime_yes (y m d h i : Int) (w : World) (H : Months w) (g : good y m d h i) :
    Calls Tryd.prog 9 #[.agg #[.int .i64 y, .int .i64 m, .int .i64 d, .int .i64 h, .int .i64 i]] w fun e w' => e = .returned (.tuple #[.int .i64 (tm y m d h i), .bool true]) ∧ Below w.heap.size w w' := by
  obtain ⟨k1, k2, k3, k4, k5, k6, k7, k8, k9, k10, k11⟩ := good_bd g
  have K11 : Hid (y = 2100 → m = 1) := k11
  have HW : Hid (∀ w' : World, Below w.heap.size w w' → Months w') := fun w' hb => H.below hb H.size
  have HW0 : Hid (∀ o, Months (w.alloc o)) := fun o => H.below ((Below.refl w.heap.size w).alloc (Nat.le_refl _) o) H.size
  clear H k11
  have hb0 := ys_bd y k1 k2
  go_enter Tryd.func9, Tryd.ntmps9
  go_wp2_with (go_at_call 23; refine (dok_yes _ _ _ _ _ _ (HW0.out _) g).mono ?_; rintro e w1 ⟨rfl, hb⟩)
  obtain ⟨g1, g2, g3, g4, g5, g6⟩ := five hb
  have bel : Below w.heap.size w w1 := ((Below.refl _ _).alloc (Nat.le_refl _) _).trans (hb.mono (by simp))
  go_quiet ((go_at_call 24; exact Calls.quiet_of_same (yearStart_any _ _ k1 k2)))
  have HM : Hid (Months (w1.drewN nq)) := HW.out _ (below_drewN bel _)
  go_wp2_with fail
  go_loop [4, 5, 19] (fun s _ a => ∃ k : Int, 0 ≤ k ∧ k ≤ m - 1 ∧ a = .int .i64 k ∧ s = .int .i64 (ys y + d - 1 + cum y (k + 1))) (fun _ _ a => (m - intOf a).toNat)
  case atStart => exact ⟨0, by omega, by omega, rfl, by simp [cum_one]⟩
  case round =>
    obtain ⟨k, hk1, hk2, rfl, rfl⟩ := hrel
    have hcb := cum_bd y (k + 1)
    have hdb := dim_bd y (1 + k)
    by_cases hlt : k < m - 1
    · have h4 : 1 + k ≠ 2 ∨ y ≠ 2100 := by
        by_cases e : y = 2100
        · have := K11.out e; omega
        · exact Or.inr e
      have H4 : Hid (1 + k ≠ 2 ∨ y ≠ 2100) := h4
      clear h4
      go_wp2_with (go_at_call 20; refine (daysIn_any _ _ _ HM.out (by omega) (by omega) (by omega) (by omega) H4.out).mono ?_; rintro e w' ⟨rfl, rfl⟩)
      have hs := cum_succ y (k + 1) (by omega) (by omega)
      go_round
      case rel => exact ⟨k + 1, by omega, by omega, rfl, by rw [hs, show (1 : Int) + k = k + 1 by omega]; go_num⟩
      case measure => simp [intOf]; omega
    · have hk : k = m - 1 := by omega
      subst hk
      rw [show m - 1 + 1 = m by omega] at hcb ⊢
      go_wp2_with fail
      go_ret2
      exact ⟨ret_two (tm_eq y m d h i), below_drewN bel _⟩

end Go.Proofs.YtjnkeeedoffdkaaDoor.Dates
