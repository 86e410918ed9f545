/- Contracts for the model's calendar: how many days a month has, and the date of a time. -/
import Derived.Test.YtoaabdmbgemkjaaGreatDoorRows
import Derived.WalkKit
import Derived.ProofKit
import Derived.OpenShut
import Derived.WalkSpells
import Derived.Below
import Derived.Outline
namespace Go.Proofs.YtoaabdmbgemkjaaGreatDoor.Dates
open Go.ChangeShapes Go.WideShapes Go.ChangeAt Go.RowKit

def lp (y : Int) : Int := if y % 4 = 0 ∧ y ≠ 2100 then 1 else 0
def dim (y m : Int) : Int := if m = 2 then 28 + lp y else if m = 4 ∨ m = 6 ∨ m = 9 ∨ m = 11 then 30 else 31

set_option maxHeartbeats 1000000 in
theorem days_any (y m : Int) (w : World) (h0 : 0 ≤ y) (h1 : y ≤ 3000) (h2 : 1 ≤ m) (h3 : m ≤ 12) :
    Calls Tryz.prog 58 #[.int .i64 y, .int .i64 m] w fun e w' => e = .returned (.int .i64 (dim y m)) ∧ w' = w := by
  have hm : m = 1 ∨ m = 2 ∨ m = 3 ∨ m = 4 ∨ m = 5 ∨ m = 6 ∨ m = 7 ∨ m = 8 ∨ m = 9 ∨ m = 10 ∨ m = 11 ∨ m = 12 := by omega
  rcases hm with rfl | rfl | rfl | rfl | rfl | rfl | rfl | rfl | rfl | rfl | rfl | rfl
  case inr.inl =>
    by_cases a : y % 4 = 0
    · by_cases b : y = 2100
      · subst b
        go_enter Tryz.func58, Tryz.ntmps58
        go_wp2
        go_ret
        exact ⟨rfl, rfl⟩
      · have hb : (y != 2100) = true := by simp [b]
        have ha : (y % 4 == 0) = true := by simp [a]
        have hd : dim y 2 = 29 := by simp [dim, lp, a, b]
        rw [hd]
        clear hd a b
        go_enter Tryz.func58, Tryz.ntmps58
        go_wp2
        go_ret
        exact ⟨rfl, rfl⟩
    · have ha : (y % 4 == 0) = false := by simp [a]
      have hd : dim y 2 = 28 := by simp [dim, lp, a]
      rw [hd]
      clear hd a
      go_enter Tryz.func58, Tryz.ntmps58
      go_wp2
      go_ret
      exact ⟨rfl, rfl⟩
  all_goals
    go_enter Tryz.func58, Tryz.ntmps58
    go_wp2
    go_ret
    exact ⟨rfl, rfl⟩

def cum (y m : Int) : Int := if m ≤ 1 then 0 else if m = 2 then 31 else if m = 3 then 59 + lp y else if m = 4 then 90 + lp y else if m = 5 then 120 + lp y else if m = 6 then 151 + lp y else if m = 7 then 181 + lp y else if m = 8 then 212 + lp y else if m = 9 then 243 + lp y else if m = 10 then 273 + lp y else if m = 11 then 304 + lp y else if m = 12 then 334 + lp y else 365 + lp y
def ys (y : Int) : Int := (1461 * (y - 2000) + 3) / 4
theorem lp_01 (y : Int) : 0 ≤ lp y ∧ lp y ≤ 1 := by unfold lp; split <;> omega
theorem dim_bd (y m : Int) : 28 ≤ dim y m ∧ dim y m ≤ 31 := by have := lp_01 y; unfold dim; split <;> (try split) <;> omega
theorem cum_succ (y m : Int) (h1 : 1 ≤ m) (h2 : m ≤ 12) : cum y (m + 1) = cum y m + dim y m := by
  have hm : m = 1 ∨ m = 2 ∨ m = 3 ∨ m = 4 ∨ m = 5 ∨ m = 6 ∨ m = 7 ∨ m = 8 ∨ m = 9 ∨ m = 10 ∨ m = 11 ∨ m = 12 := by omega
  rcases hm with rfl | rfl | rfl | rfl | rfl | rfl | rfl | rfl | rfl | rfl | rfl | rfl <;> simp [cum, dim] <;> omega
theorem cum_one (y : Int) : cum y 1 = 0 := rfl
theorem cum_bd (y m : Int) : 0 ≤ cum y m ∧ cum y m ≤ 366 := by
  have := lp_01 y
  unfold cum
  generalize lp y = l at *
  by_cases h1 : m ≤ 1
  · rw [if_pos h1]; omega
  rw [if_neg h1]
  by_cases h2 : m = 2
  · rw [if_pos h2]; omega
  rw [if_neg h2]
  by_cases h3 : m = 3
  · rw [if_pos h3]; omega
  rw [if_neg h3]
  by_cases h4 : m = 4
  · rw [if_pos h4]; omega
  rw [if_neg h4]
  by_cases h5 : m = 5
  · rw [if_pos h5]; omega
  rw [if_neg h5]
  by_cases h6 : m = 6
  · rw [if_pos h6]; omega
  rw [if_neg h6]
  by_cases h7 : m = 7
  · rw [if_pos h7]; omega
  rw [if_neg h7]
  by_cases h8 : m = 8
  · rw [if_pos h8]; omega
  rw [if_neg h8]
  by_cases h9 : m = 9
  · rw [if_pos h9]; omega
  rw [if_neg h9]
  by_cases h10 : m = 10
  · rw [if_pos h10]; omega
  rw [if_neg h10]
  by_cases h11 : m = 11
  · rw [if_pos h11]; omega
  rw [if_neg h11]
  by_cases h12 : m = 12
  · rw [if_pos h12]; omega
  rw [if_neg h12]; omega
theorem ys_succ (y : Int) (h1 : 2000 ≤ y) (h2 : y < 2100) : ys (y + 1) = ys y + (365 + lp y) := by
  unfold ys lp
  obtain ⟨d, k, rfl, hk0, hk1⟩ : ∃ d k : Int, y = 4 * d + k ∧ 0 ≤ k ∧ k ≤ 3 := ⟨y / 4, y % 4, by omega, by omega, by omega⟩
  have hk : k = 0 ∨ k = 1 ∨ k = 2 ∨ k = 3 := by omega
  rcases hk with rfl | rfl | rfl | rfl
  · rw [if_pos (by omega)]; omega
  · rw [if_neg (by omega)]; omega
  · rw [if_neg (by omega)]; omega
  · rw [if_neg (by omega)]; omega
theorem ys_bd (y : Int) (_h1 : 2000 ≤ y) (_h2 : y ≤ 2100) : 0 ≤ ys y ∧ ys y ≤ 36525 := by unfold ys; omega
theorem ys_le (y t : Int) (_h1 : 2000 ≤ y) (h : ys y ≤ t) (_h2 : t ≤ 36524) : y < 2100 := by unfold ys at h; omega

set_option maxHeartbeats 400000 in
theorem date_yes (t : Int) (w : World) (h0 : 0 ≤ t) (h1 : t ≤ 52596000) :
    Calls Tryz.prog 36 #[.int .i64 t] w fun e w' => ∃ Y M r : Int, e = .returned (.tuple #[.agg #[.int .i64 Y, .int .i64 M, .int .i64 (r + 1), .int .i64 (t / 60 % 24), .int .i64 (t % 60)], .bool true]) ∧ 2000 ≤ Y ∧ Y ≤ 2100 ∧ 1 ≤ M ∧ M ≤ 12 ∧ 0 ≤ r ∧ r < dim Y M ∧ r + ys Y + cum Y M = t / 1440 ∧ Below w.heap.size w w' := by
  go_enter Tryz.func36, Tryz.ntmps36
  go_wp2
  go_loopw [4] (fun d wr => ∃ Y M r : Int, d = .int .i64 r ∧ 2000 ≤ Y ∧ Y ≤ 2100 ∧ 1 ≤ M ∧ M ≤ 12 ∧ 0 ≤ r ∧ Hid (r + ys Y + cum Y M = t / 1440) ∧ wr = (w.alloc (.cells #[.int .i64 0, .int .i64 0, .int .i64 0, .int .i64 0, .int .i64 0] 69)).alloc (.cells #[.int .i64 Y, .int .i64 M, .int .i64 1, .int .i64 (t / 60 % 24), .int .i64 (t % 60)] 69)) (fun d _ => (intOf d).toNat)
  case atStart => exact ⟨2000, 1, t / 1440, rfl, by omega, by omega, by omega, by omega, by omega, (by show _ = _; rw [cum_one]; simp [ys]), rfl⟩
  case round =>
    obtain ⟨Y, M, r, rfl, hY1, hY2, hM1, hM2, hr, HE, rfl⟩ := hrel
    have hb := ys_bd Y hY1 hY2
    have hcb := cum_bd Y M
    have hdb := dim_bd Y M
    have hr2 : r ≤ 36525 := by have := HE.out; omega
    by_cases hc : dim Y M ≤ r
    · have hlt : Y < 2100 := ys_le Y (t / 1440 - r) hY1 (by have := HE.out; omega) (by omega)
      by_cases hM : M = 12
      · subst hM
        have HN : Hid (r - dim Y 12 + ys (Y + 1) + cum (Y + 1) 1 = t / 1440) := by
          have e1 := ys_succ Y hY1 hlt
          have e2 := cum_succ Y 12 (by omega) (by omega)
          have e3 : cum Y (12 + 1) = 365 + lp Y := rfl
          have e4 := HE.out
          show _ = _
          rw [cum_one]; omega
        go_wp2_with (go_at_call 58; refine (days_any _ _ _ (by omega) (by omega) (by omega) (by omega)).mono ?_; rintro e w' ⟨rfl, rfl⟩)
        go_roundw
        case rel => ((repeat apply Exists.intro); exact ⟨⟨Y + 1, 1, r - dim Y 12, rfl, by omega, by omega, by omega, by omega, by omega, HN, rfl⟩, rfl⟩)
        case measure => simp [intOf]; omega
      · have hne : (M + 1 == 13) = false := by simp; omega
        have HN : Hid (r - dim Y M + ys Y + cum Y (M + 1) = t / 1440) := by
          have e2 := cum_succ Y M hM1 hM2
          have e4 := HE.out
          show _ = _
          omega
        go_wp2_with (go_at_call 58; refine (days_any _ _ _ (by omega) (by omega) (by omega) (by omega)).mono ?_; rintro e w' ⟨rfl, rfl⟩)
        go_roundw
        case rel => ((repeat apply Exists.intro); exact ⟨⟨Y, M + 1, r - dim Y M, rfl, by omega, by omega, by omega, by omega, by omega, HN, rfl⟩, rfl⟩)
        case measure => simp [intOf]; omega
    · go_wp2_with (go_at_call 58; refine (days_any _ _ _ (by omega) (by omega) (by omega) (by omega)).mono ?_; rintro e w' ⟨rfl, rfl⟩)
      refine bodyPost_ret (v := .tuple #[.agg #[.int .i64 Y, .int .i64 M, .int .i64 (r + 1), .int .i64 (t / 60 % 24), .int .i64 (t % 60)], .bool true]) (by simp [results, Tryz.results36, go_sem]) rfl ⟨Y, M, r, rfl, hY1, hY2, hM1, hM2, hr, by omega, HE.out, ?_⟩
      exact ((Below.refl _ _).alloc (Nat.le_refl _) _).alloc (by simp) _

theorem year_of (T Y M r : Int) (h1 : 2000 ≤ Y) (h2 : Y ≤ 2100) (h3 : 1 ≤ M) (h4 : M ≤ 12) (h5 : 0 ≤ r) (h6 : r < dim Y M) (h7 : r + ys Y + cum Y M = T) (_h8 : T ≤ 36525) : Y = 2000 + T * 4 / 1461 := by
  have hc := cum_bd Y M
  have hs := cum_succ Y M h3 h4
  have hlp := lp_01 Y
  have hcl : cum Y (M + 1) ≤ 365 + lp Y := by
    have hm : M = 1 ∨ M = 2 ∨ M = 3 ∨ M = 4 ∨ M = 5 ∨ M = 6 ∨ M = 7 ∨ M = 8 ∨ M = 9 ∨ M = 10 ∨ M = 11 ∨ M = 12 := by omega
    rcases hm with rfl | rfl | rfl | rfl | rfl | rfl | rfl | rfl | rfl | rfl | rfl | rfl <;> simp [cum] <;> omega
  have hlt : T < ys Y + (365 + lp Y) := by omega
  have hge : ys Y ≤ T := by omega
  by_cases hy : Y = 2100
  · subst hy; unfold ys at hge; omega
  · have := ys_succ Y h1 (by omega)
    rw [← this] at hlt
    unfold ys at hlt hge
    omega
theorem cum_mono (y a : Int) (n : Nat) (h1 : 1 ≤ a) (h2 : a + n ≤ 13) : cum y a ≤ cum y (a + n) := by
  induction n with
  | zero => simp
  | succ n ih =>
    have e := cum_succ y (a + n) (by omega) (by omega)
    have hd := dim_bd y (a + n)
    have i := ih (by omega)
    rw [show a + ((n + 1 : Nat) : Int) = a + n + 1 by omega, e]
    omega
theorem cum_le (y a b : Int) (h1 : 1 ≤ a) (h : a ≤ b) (h2 : b ≤ 13) : cum y a ≤ cum y b := by
  have := cum_mono y a (b - a).toNat h1 (by omega)
  rwa [show a + ((b - a).toNat : Int) = b by omega] at this
theorem unique (T Y M r Y2 M2 r2 : Int) (h1 : 2000 ≤ Y) (h2 : Y ≤ 2100) (h3 : 1 ≤ M) (h4 : M ≤ 12) (h5 : 0 ≤ r) (h6 : r < dim Y M) (h7 : r + ys Y + cum Y M = T) (h8 : T ≤ 36525)
    (g1 : 2000 ≤ Y2) (g2 : Y2 ≤ 2100) (g3 : 1 ≤ M2) (g4 : M2 ≤ 12) (g5 : 0 ≤ r2) (g6 : r2 < dim Y2 M2) (g7 : r2 + ys Y2 + cum Y2 M2 = T) : Y = Y2 ∧ M = M2 ∧ r = r2 := by
  have e1 := year_of T Y M r h1 h2 h3 h4 h5 h6 h7 h8
  have e2 := year_of T Y2 M2 r2 g1 g2 g3 g4 g5 g6 g7 h8
  have e : Y = Y2 := by omega
  subst e
  have hm : M = M2 := by
    by_cases hlt : M < M2
    · have := cum_le Y (M + 1) M2 (by omega) (by omega) (by omega)
      have := cum_succ Y M h3 h4
      omega
    · by_cases hgt : M2 < M
      · have := cum_le Y (M2 + 1) M (by omega) (by omega) (by omega)
        have := cum_succ Y M2 g3 g4
        omega
      · omega
  subst hm
  exact ⟨rfl, rfl, by omega⟩

theorem ret_int {k : IntKind} {a b : Int} (h : a = b) : Ending.returned (.int k a) = .returned (.int k b) := by rw [h]

set_option maxHeartbeats 400000 in
theorem date_no (t : Int) (w : World) (h : t < 0 ∨ 52596000 < t) :
    Calls Tryz.prog 36 #[.int .i64 t] w fun e w' => e = .returned (.tuple #[.agg #[.int .i64 0, .int .i64 0, .int .i64 0, .int .i64 0, .int .i64 0], .bool false]) ∧ Below w.heap.size w w' := by
  rcases h with h | h
  · go_enter Tryz.func36, Tryz.ntmps36
    go_wp2
    exact bodyPost_ret (v := .tuple #[.agg #[.int .i64 0, .int .i64 0, .int .i64 0, .int .i64 0, .int .i64 0], .bool false]) (by simp [results, Tryz.results36, go_sem]) rfl ⟨rfl, (Below.refl _ _).alloc (Nat.le_refl _) _⟩
  · have h' : 0 ≤ t := by omega
    have hd : decide (t ≤ 52596000) = false := by simp; omega
    go_enter Tryz.func36, Tryz.ntmps36
    go_wp2
    exact bodyPost_ret (v := .tuple #[.agg #[.int .i64 0, .int .i64 0, .int .i64 0, .int .i64 0, .int .i64 0], .bool false]) (by simp [results, Tryz.results36, go_sem]) rfl ⟨rfl, (Below.refl _ _).alloc (Nat.le_refl _) _⟩

end Go.Proofs.YtoaabdmbgemkjaaGreatDoor.Dates
