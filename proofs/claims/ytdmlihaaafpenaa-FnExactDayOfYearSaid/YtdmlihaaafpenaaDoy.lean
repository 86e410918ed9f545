/- Proved here, ahead of the law: what the model's DayOfYear answers. -/
import Derived.Test.YtdmlihaaafpenaaDates
namespace Go.Proofs.Ytdmlihaaafpenaa.Dates
open Go.ChangeShapes Go.WideShapes Go.ChangeAt Go.RowKit
theorem ret_int {k : IntKind} {a b : Int} (h : a = b) : Ending.returned (.int k a) = .returned (.int k b) := by rw [h]

set_option maxHeartbeats 400000 in
theorem date_no (t : Int) (w : World) (h : t < 0 ∨ 52596000 < t) :
    Calls Try.prog 14 #[.int .i64 t] w fun e w' => e = .returned (.tuple #[.agg #[.int .i64 0, .int .i64 0, .int .i64 0, .int .i64 0, .int .i64 0], .bool false]) ∧ Below w.heap.size w w' := by
  rcases h with h | h
  · go_enter Try.func14, Try.ntmps14
    go_wp2
    exact bodyPost_ret (v := .tuple #[.agg #[.int .i64 0, .int .i64 0, .int .i64 0, .int .i64 0, .int .i64 0], .bool false]) (by simp [results, Try.results14, go_sem]) rfl ⟨rfl, (Below.refl _ _).alloc (Nat.le_refl _) _⟩
  · have h' : 0 ≤ t := by omega
    have hd : decide (t ≤ 52596000) = false := by simp; omega
    go_enter Try.func14, Try.ntmps14
    go_wp2
    exact bodyPost_ret (v := .tuple #[.agg #[.int .i64 0, .int .i64 0, .int .i64 0, .int .i64 0, .int .i64 0], .bool false]) (by simp [results, Try.results14, go_sem]) rfl ⟨rfl, (Below.refl _ _).alloc (Nat.le_refl _) _⟩

set_option maxHeartbeats 400000 in
theorem doy_no (t : Int) (w : World) (h : t < 0 ∨ 52596000 < t) :
    Calls Try.prog 6 #[.int .i64 t] w fun e w' => e = .returned (.int .i64 0) ∧ Below w.heap.size w w' := by
  go_enter Try.func6, Try.ntmps6
  go_wp2_with (go_at_call 14; refine (date_no _ _ h).mono ?_; rintro e w1 ⟨rfl, hb⟩)
  go_ret
  exact ⟨rfl, hb.alloc hb.size _⟩

theorem doy_sum (t Y M r : Int) (h1 : 2000 ≤ Y) (h2 : Y ≤ 2100) (h3 : 1 ≤ M) (h4 : M ≤ 12) (h5 : 0 ≤ r) (h6 : r < dim Y M) (h7 : r + ys Y + cum Y M = t / 1440) (_h8 : t / 1440 ≤ 36525) :
    r + 1 + cum Y M = t / 1440 - ys (2000 + t / 1440 * 4 / 1461) + 1 := by
  have e : Y = 2000 + t / 1440 * 4 / 1461 := by
    have hc := cum_bd Y M
    have hs := cum_succ Y M h3 h4
    have hlp := lp_01 Y
    have hcl : cum Y (M + 1) ≤ 365 + lp Y := by
      have hm : M = 1 ∨ M = 2 ∨ M = 3 ∨ M = 4 ∨ M = 5 ∨ M = 6 ∨ M = 7 ∨ M = 8 ∨ M = 9 ∨ M = 10 ∨ M = 11 ∨ M = 12 := by omega
      rcases hm with rfl | rfl | rfl | rfl | rfl | rfl | rfl | rfl | rfl | rfl | rfl | rfl <;> simp [cum] <;> omega
    have hlt : t / 1440 < ys Y + (365 + lp Y) := by omega
    have hge : ys Y ≤ t / 1440 := by omega
    generalize t / 1440 = T at *
    by_cases hy : Y = 2100
    · subst hy; unfold ys at hge; omega
    · have := ys_succ Y h1 (by omega)
      rw [← this] at hlt
      unfold ys at hlt hge
      omega
  rw [← e]; omega

set_option maxHeartbeats 400000 in
theorem doy_yes (t : Int) (w : World) (h0 : 0 ≤ t) (h1 : t ≤ 52596000) :
    Calls Try.prog 6 #[.int .i64 t] w fun e w' => e = .returned (.int .i64 (t / 1440 - ys (2000 + t / 1440 * 4 / 1461) + 1)) ∧ Below w.heap.size w w' := by
  go_enter Try.func6, Try.ntmps6
  go_wp2_with (go_at_call 14; refine (date_yes _ _ h0 h1).mono ?_; rintro e w1 ⟨Y, M, r, rfl, hY1, hY2, hM1, hM2, hr, hrd, he, hb⟩; have HE : Hid (r + ys Y + cum Y M = t / 1440) := he; clear he)
  have hdb := dim_bd Y M
  go_loop [5, 6] (fun n m => ∃ k : Int, 1 ≤ k ∧ k ≤ M ∧ m = .int .i64 k ∧ n = .int .i64 (r + 1 + cum Y k)) (fun _ m => (M - intOf m).toNat)
  case atStart => exact ⟨1, by omega, by omega, rfl, by rw [cum_one]; simp⟩
  case round =>
    obtain ⟨k, hk1, hk2, rfl, rfl⟩ := hrel
    have hcb := cum_bd Y k
    have hdk := dim_bd Y k
    by_cases hlt : k < M
    · go_wp2_with (go_at_call 15; refine (days_any _ _ _ (by omega) (by omega) (by omega) (by omega)).mono ?_; rintro e w' ⟨rfl, rfl⟩)
      have hs := cum_succ Y k hk1 (by omega)
      go_round
      case rel => exact ⟨k + 1, by omega, by omega, rfl, by rw [hs]; go_num⟩
      case measure => simp [intOf]; omega
    · go_wp2_with fail
      go_ret
      have hk : k = M := by omega
      subst hk
      exact ⟨ret_int (doy_sum t Y k r hY1 hY2 hk1 hM2 hr hrd HE.out (by omega)), hb.alloc hb.size _⟩
end Go.Proofs.Ytdmlihaaafpenaa.Dates
