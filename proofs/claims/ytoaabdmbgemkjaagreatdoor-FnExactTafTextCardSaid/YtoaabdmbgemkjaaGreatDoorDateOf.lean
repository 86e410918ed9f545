/- Contracts for the program's DateOf. -/
import Derived.Test.YtoaabdmbgemkjaaGreatDoorImpl
namespace Go.Proofs.YtoaabdmbgemkjaaGreatDoor.Dates
open Go.ChangeShapes Go.WideShapes Go.ChangeAt Go.RowKit

set_option maxHeartbeats 400000 in
theorem isTime_yes (t : Int) (w : World) (h0 : 0 ≤ t) (h1 : t ≤ 52596000) :
    Calls Tryz.prog 41 #[.int .i64 t] w fun e w' => e = .returned (.bool true) ∧ w' = w := by
  go_enter Tryz.func41, Tryz.ntmps41
  go_wp2
  go_ret
  exact ⟨rfl, rfl⟩
set_option maxHeartbeats 400000 in
theorem isTime_no (t : Int) (w : World) (h : t < 0 ∨ 52596000 < t) :
    Calls Tryz.prog 41 #[.int .i64 t] w fun e w' => e = .returned (.bool false) ∧ w' = w := by
  rcases h with h | h
  · go_enter Tryz.func41, Tryz.ntmps41
    go_wp2
    go_ret
    exact ⟨rfl, rfl⟩
  · have h' : 0 ≤ t := by omega
    have hd : decide (t ≤ 52596000) = false := by simp; omega
    go_enter Tryz.func41, Tryz.ntmps41
    go_wp2
    go_ret
    exact ⟨rfl, rfl⟩
set_option maxHeartbeats 400000 in
theorem yearOf_any (t : Int) (w : World) (h0 : 0 ≤ t) (h1 : t ≤ 52596000) :
    Calls Tryz.prog 71 #[.int .i64 t] w fun e w' => e = .returned (.int .i64 (2000 + t / 1440 * 4 / 1461)) ∧ w' = w := by
  go_enter Tryz.func71, Tryz.ntmps71
  go_wp2
  go_ret
  exact ⟨rfl, rfl⟩
set_option maxHeartbeats 400000 in
theorem yearStart_any (y : Int) (w : World) (h0 : 2000 ≤ y) (h1 : y ≤ 2100) :
    Calls Tryz.prog 83 #[.int .i64 y] w fun e w' => e = .returned (.int .i64 (ys y)) ∧ w' = w := by
  have e : (1461 * (y - 2000) + 3) / 4 = ((y - 2000) * 1461 + 4 - 1) / 4 := by omega
  unfold ys
  rw [e]
  clear e
  go_enter Tryz.func83, Tryz.ntmps83
  go_wp2
  go_ret
  exact ⟨rfl, rfl⟩
set_option maxHeartbeats 400000 in
theorem idoy_any (t : Int) (w : World) (h0 : 0 ≤ t) (h1 : t ≤ 52596000) :
    Calls Tryz.prog 72 #[.int .i64 t] w fun e w' => e = .returned (.int .i64 (t / 1440 - ys (2000 + t / 1440 * 4 / 1461) + 1)) ∧ w' = w := by
  have hb := ys_bd (2000 + t / 1440 * 4 / 1461) (by omega) (by omega)
  go_enter Tryz.func72, Tryz.ntmps72
  go_wp2_with (first | (go_at_call 41; refine (isTime_yes _ _ h0 h1).mono ?_; rintro e w' ⟨rfl, rfl⟩) | (go_at_call 71; refine (yearOf_any _ _ h0 h1).mono ?_; rintro e w' ⟨rfl, rfl⟩) | (go_at_call 83; refine (yearStart_any _ _ (by omega) (by omega)).mono ?_; rintro e w' ⟨rfl, rfl⟩))
  go_ret
  exact ⟨rfl, rfl⟩

theorem doy_bd (T : Int) (h0 : 0 ≤ T) (h1 : T ≤ 36525) : 0 ≤ T - ys (2000 + T * 4 / 1461) ∧ T - ys (2000 + T * 4 / 1461) < 365 + lp (2000 + T * 4 / 1461) := by
  by_cases h : T = 36525
  · subst h; simp [ys, lp]
  · have e := ys_succ (2000 + T * 4 / 1461) (by omega) (by omega)
    have h2 : T < ys (2000 + T * 4 / 1461 + 1) := by unfold ys; omega
    have h3 : ys (2000 + T * 4 / 1461) ≤ T := by unfold ys; omega
    omega

set_option maxHeartbeats 400000 in
theorem idate_no (t : Int) (w : World) (h : t < 0 ∨ 52596000 < t) :
    Calls Tryz.prog 45 #[.int .i64 t] w fun e w' => e = .returned (.tuple #[.agg #[.int .i64 0, .int .i64 0, .int .i64 0, .int .i64 0, .int .i64 0], .bool false]) ∧ Below w.heap.size w w' := by
  go_enter Tryz.func45, Tryz.ntmps45
  go_wp2_with (go_at_call 41; refine (isTime_no _ _ h).mono ?_; rintro e w' ⟨rfl, rfl⟩)
  exact bodyPost_ret (v := .tuple #[.agg #[.int .i64 0, .int .i64 0, .int .i64 0, .int .i64 0, .int .i64 0], .bool false]) (by simp [results, Tryz.results45, go_sem]) rfl ⟨rfl, (Below.refl _ _).alloc (Nat.le_refl _) _⟩

set_option maxHeartbeats 1000000 in
theorem idate_yes (t : Int) (w : World) (H : Months w) (h0 : 0 ≤ t) (h1 : t ≤ 52596000) :
    Calls Tryz.prog 45 #[.int .i64 t] w fun e w' => ∃ Y M r : Int, e = .returned (.tuple #[.agg #[.int .i64 Y, .int .i64 M, .int .i64 (r + 1), .int .i64 (t / 60 % 24), .int .i64 (t % 60)], .bool true]) ∧ 2000 ≤ Y ∧ Y ≤ 2100 ∧ 1 ≤ M ∧ M ≤ 12 ∧ 0 ≤ r ∧ r < dim Y M ∧ r + ys Y + cum Y M = t / 1440 ∧ Below w.heap.size w w' := by
  have hsz := H.size
  have HW : Hid (∀ o, Months (w.alloc o)) := fun o => H.below ((Below.refl w.heap.size w).alloc (Nat.le_refl _) o) hsz
  have hb := ys_bd (2000 + t / 1440 * 4 / 1461) (by omega) (by omega)
  have hd := doy_bd (t / 1440) (by omega) (by omega)
  have hl := lp_01 (2000 + t / 1440 * 4 / 1461)
  obtain ⟨Y, hY⟩ : ∃ Y, Y = 2000 + t / 1440 * 4 / 1461 := ⟨_, rfl⟩
  rw [← hY] at hb hd hl
  have hY1 : 2000 ≤ Y := by omega
  have hY2 : Y ≤ 2100 := by omega
  have HYd : Hid (Y = 2000 + t / 1440 * 4 / 1461) := hY
  have hy0 : ∀ x : Int, Y = 2100 → 2 ≤ x → t / 1440 - ys Y < 31 := by
    intro x hx _
    have : ys Y = 36525 := by rw [hx]; rfl
    omega
  have HZ : Hid (∀ x : Int, Y = 2100 → 2 ≤ x → t / 1440 - ys Y < 31) := hy0
  have H21 : Hid (∀ w, Calls Tryz.prog 71 #[.int .i64 t] w fun e w' => e = .returned (.int .i64 Y) ∧ w' = w) := fun w => by rw [hY]; exact yearOf_any t w h0 h1
  have H22 : Hid (∀ w, Calls Tryz.prog 72 #[.int .i64 t] w fun e w' => e = .returned (.int .i64 (t / 1440 - ys Y + 1)) ∧ w' = w) := fun w => by rw [hY]; exact idoy_any t w h0 h1
  clear hy0 hsz H hY HYd
  go_enter Tryz.func45, Tryz.ntmps45
  go_wp2_with (first | (go_at_call 41; refine (isTime_yes _ _ h0 h1).mono ?_; rintro e w' ⟨rfl, rfl⟩) | (go_at_call 71; refine (H21.out _).mono ?_; rintro e w' ⟨rfl, rfl⟩) | (go_at_call 72; refine (H22.out _).mono ?_; rintro e w' ⟨rfl, rfl⟩))
  go_loop [5, 6] (fun m d => ∃ M r : Int, m = .int .i64 M ∧ d = .int .i64 (r + 1) ∧ 1 ≤ M ∧ M ≤ 12 ∧ 0 ≤ r ∧ Hid (r + ys Y + cum Y M = t / 1440)) (fun _ d => (intOf d).toNat)
  case atStart => exact ⟨1, t / 1440 - ys Y, rfl, rfl, by omega, by omega, by omega, (by show _ = _; rw [cum_one]; omega)⟩
  case round =>
    obtain ⟨M, r, rfl, rfl, hM1, hM2, hr, HE⟩ := hrel
    have hcb := cum_bd Y M
    have hdb := dim_bd Y M
    have hr2 : r ≤ 36525 := by have := HE.out; omega
    have h4 : M ≠ 2 ∨ Y ≠ 2100 := by
      by_cases a : M = 2
      · by_cases b : Y = 2100
        · have k := HZ.out 2 b (by omega)
          have e := HE.out
          subst a
          have c : cum Y 2 = 31 := rfl
          omega
        · exact Or.inr b
      · exact Or.inl a
    have H4 : Hid (M ≠ 2 ∨ Y ≠ 2100) := h4
    clear h4
    by_cases hc : dim Y M ≤ r
    · have hs := cum_succ Y M hM1 hM2
      have hM3 : M ≤ 11 := by
        by_cases e : M = 12
        · subst e
          have c : cum Y (12 + 1) = 365 + lp Y := rfl
          have := HE.out
          omega
        · omega
      have HN : Hid (r - dim Y M + ys Y + cum Y (M + 1) = t / 1440) := by
        have := HE.out
        show _ = _
        omega
      clear hs
      go_wp2_with (go_at_call 73; refine (daysIn_any _ _ _ (HW.out _) (by omega) (by omega) (by omega) (by omega) H4.out).mono ?_; rintro e w' ⟨rfl, rfl⟩)
      go_round
      case rel => exact ⟨M + 1, r - dim Y M, rfl, by congr 1; omega, by omega, by omega, by omega, HN⟩
      case measure => simp [intOf]; omega
    · go_wp2_with (go_at_call 73; refine (daysIn_any _ _ _ (HW.out _) (by omega) (by omega) (by omega) (by omega) H4.out).mono ?_; rintro e w' ⟨rfl, rfl⟩)
      have e1 : t % 1440 / 60 = t / 60 % 24 := by omega
      have e2 : t % 1440 % 60 = t % 60 := by omega
      refine bodyPost_ret (v := .tuple #[.agg #[.int .i64 Y, .int .i64 M, .int .i64 (r + 1), .int .i64 (t / 60 % 24), .int .i64 (t % 60)], .bool true]) (by simp [results, Tryz.results45, go_sem, e1, e2]) rfl ⟨Y, M, r, rfl, hY1, hY2, hM1, hM2, hr, by omega, HE.out, ?_⟩
      exact (Below.refl _ _).alloc (Nat.le_refl _) _
end Go.Proofs.YtoaabdmbgemkjaaGreatDoor.Dates
