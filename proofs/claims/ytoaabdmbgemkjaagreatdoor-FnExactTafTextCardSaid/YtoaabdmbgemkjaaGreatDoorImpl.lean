/- Contracts for the program's own calendar: days of a month off its table, the date of a time. -/
import Derived.Test.YtoaabdmbgemkjaaGreatDoorDates
namespace Go.Proofs.YtoaabdmbgemkjaaGreatDoor.Dates
open Go.ChangeShapes Go.WideShapes Go.ChangeAt Go.RowKit

/-- The table of days as the program lays it. -/
def Months (w : World) : Prop := ∀ i : Nat, i < 13 → w.cell? ⟨0, i, none⟩ = some (.int .i64 ([0, 31, 28, 31, 30, 31, 30, 31, 31, 30, 31, 30, 31].getD i 0))
theorem Months.below {w w' : World} {B : Nat} (h : Months w) (hb : Below B w w') (hB : 0 < B) : Months w' := fun i hi => (hb.cell (p := ⟨0, i, none⟩) hB).trans (h i hi)
theorem Months.size {w : World} (h : Months w) : 0 < w.heap.size := World.block_lt_of_cell? w ⟨0, 0, none⟩ (h 0 (by omega))

set_option maxHeartbeats 1000000 in
theorem daysIn_any (y m : Int) (w : World) (H : Months w) (h0 : 0 ≤ y) (h1 : y ≤ 3000) (h2 : 1 ≤ m) (h3 : m ≤ 12) (h4 : m ≠ 2 ∨ y ≠ 2100) :
    Calls Tryz.prog 73 #[.int .i64 y, .int .i64 m] w fun e w' => e = .returned (.int .i64 (dim y m)) ∧ w' = w := by
  have hm : m = 1 ∨ m = 2 ∨ m = 3 ∨ m = 4 ∨ m = 5 ∨ m = 6 ∨ m = 7 ∨ m = 8 ∨ m = 9 ∨ m = 10 ∨ m = 11 ∨ m = 12 := by omega
  have c1 := H 1 (by omega)
  have c2 := H 2 (by omega)
  have c3 := H 3 (by omega)
  have c4 := H 4 (by omega)
  have c5 := H 5 (by omega)
  have c6 := H 6 (by omega)
  have c7 := H 7 (by omega)
  have c8 := H 8 (by omega)
  have c9 := H 9 (by omega)
  have c10 := H 10 (by omega)
  have c11 := H 11 (by omega)
  have c12 := H 12 (by omega)
  simp at c1 c2 c3 c4 c5 c6 c7 c8 c9 c10 c11 c12
  clear H
  rcases hm with rfl | rfl | rfl | rfl | rfl | rfl | rfl | rfl | rfl | rfl | rfl | rfl
  case inr.inl =>
    have hy : y ≠ 2100 := by omega
    by_cases a : y % 4 = 0
    · have ha : (y % 4 == 0) = true := by simp [a]
      have hd : dim y 2 = 29 := by simp [dim, lp, a, hy]
      rw [hd]
      clear hd a hy h4
      go_enter Tryz.func73, Tryz.ntmps73
      go_wp2
      go_ret
      exact ⟨rfl, rfl⟩
    · have ha : (y % 4 == 0) = false := by simp [a]
      have hd : dim y 2 = 28 := by simp [dim, lp, a]
      rw [hd]
      clear hd a hy h4
      go_enter Tryz.func73, Tryz.ntmps73
      go_wp2
      go_ret
      exact ⟨rfl, rfl⟩
  all_goals
    clear h4
    go_enter Tryz.func73, Tryz.ntmps73
    go_wp2
    go_ret
    exact ⟨rfl, rfl⟩
end Go.Proofs.YtoaabdmbgemkjaaGreatDoor.Dates
