/- The law FnExactStamp walked, where the two tables are as the program lays them. -/
import Derived.Test.YtjnkeeedoffdkaaDoorDateOf
import Derived.Test.YtjnkeeedoffdkaaDoorLibC
import Derived.WalkSmall
import Derived.Lib.LaidTab
namespace Go.Proofs.YtjnkeeedoffdkaaDoor.Stamp
open Go.ChangeShapes Go.WideShapes Go.ChangeAt Go.RowKit Dates Dec

theorem month_of (y d : Int) (hd : 0 ≤ d) : ∀ n : Nat, n ≤ 12 → d < cum y ((n : Int) + 1) → ∃ m : Int, 1 ≤ m ∧ m ≤ n ∧ cum y m ≤ d ∧ d < cum y (m + 1)
  | 0, _, h => by
    have e : cum y (((0 : Nat) : Int) + 1) = 0 := cum_one y
    rw [e] at h; omega
  | n + 1, hn, h => by
    by_cases c : d < cum y ((n : Int) + 1)
    · obtain ⟨m, h1, h2, h3, h4⟩ := month_of y d hd n (by omega) c
      exact ⟨m, h1, by omega, h3, h4⟩
    · have e : ((n + 1 : Nat) : Int) + 1 = (n : Int) + 1 + 1 := by omega
      rw [e] at h
      exact ⟨(n : Int) + 1, by omega, by omega, by omega, h⟩
theorem cum_last (y : Int) : cum y 13 = 365 + lp y := by
  have h := cum_succ y 12 (by omega) (by omega)
  rw [show (12 : Int) + 1 = 13 by omega] at h
  rw [h]
  unfold cum dim
  simp
  omega

/-- The date of a day, told by the numbers alone. -/
theorem date_of (T : Int) (h0 : 0 ≤ T) (h1 : T ≤ 36525) : ∃ Y M r : Int, 2000 ≤ Y ∧ Y ≤ 2100 ∧ 1 ≤ M ∧ M ≤ 12 ∧ 0 ≤ r ∧ r < dim Y M ∧ r + ys Y + cum Y M = T := by
  obtain ⟨b1, b2⟩ := doy_bd T h0 h1
  obtain ⟨Y, hY⟩ : ∃ Y, Y = 2000 + T * 4 / 1461 := ⟨_, rfl⟩
  rw [← hY] at b1 b2
  obtain ⟨M, m1, m2, m3, m4⟩ := month_of Y (T - ys Y) b1 12 (by omega) (by
    have := cum_last Y
    rw [show ((12 : Nat) : Int) + 1 = 13 by omega]; omega)
  have := cum_succ Y M m1 m2
  exact ⟨Y, M, T - ys Y - cum Y M, by omega, by omega, m1, m2, by omega, by omega, by omega⟩

def Tb (w : World) : Prop := Months w ∧ Lib.TabIs Tryd.prog w "internal/strconv.uint64pow10" .u64 Lib.pow10Tab ∧ 1 < w.heap.size
theorem gP : Tryd.prog.globalNamed "internal/strconv.uint64pow10" = some 1 := by kernel_rfl
theorem Tb.keep (w w' : World) (h : Tb w) (hb : Below w.heap.size w w') : Tb w' :=
  ⟨h.1.below hb h.1.size, var?_below hb gP h.2.2 h.2.1, Nat.lt_of_lt_of_le h.2.2 hb.size⟩
theorem lib : LibC Tb := libC Tb Tb.keep (fun _ h => h.2.1)

set_option maxHeartbeats 400000 in
theorem istamp_no (t : Int) (w : World) (h : t < 0 ∨ 52596000 < t) : Calls Tryd.prog 8 #[.int .i64 t] w fun e w' => e = .returned (.string ⟨#[]⟩) ∧ Below w.heap.size w w' := by
  have HD : Hid (∀ w, Calls Tryd.prog 7 #[.int .i64 t] w fun e w' => e = .returned (.tuple #[.agg #[.int .i64 0, .int .i64 0, .int .i64 0, .int .i64 0, .int .i64 0], .bool false]) ∧ Below w.heap.size w w') := fun w => idate_no t w h
  clear h
  go_enter Tryd.func8, Tryd.ntmps8
  go_wp2_with fail
  refine (HD.out _).mono ?_
  rintro e w1 ⟨rfl, hb1⟩
  have B1 : Hid (Below w.heap.size w w1) := hb1
  clear hb1
  go_wp2_with fail
  go_ret
  exact ⟨rfl, B1.out.alloc B1.out.size _⟩

end Go.Proofs.YtjnkeeedoffdkaaDoor.Stamp
