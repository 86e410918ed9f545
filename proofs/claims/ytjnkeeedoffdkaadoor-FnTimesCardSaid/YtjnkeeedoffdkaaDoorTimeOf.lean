/- Contracts for TimeOf, in the program and in its model. -/
import Derived.Test.YtjnkeeedoffdkaaDoorRight
import Derived.Test.YtjnkeeedoffdkaaDoorDateOf
namespace Go.Proofs.YtjnkeeedoffdkaaDoor.Dates
open Go.ChangeShapes Go.WideShapes Go.ChangeAt Go.RowKit

theorem five {W w' : World} {a b c d e : Int} (hb : Below (W.alloc (.cells #[.int .i64 a, .int .i64 b, .int .i64 c, .int .i64 d, .int .i64 e] 26)).heap.size (W.alloc (.cells #[.int .i64 a, .int .i64 b, .int .i64 c, .int .i64 d, .int .i64 e] 26)) w') :
    w'.cell? ⟨W.heap.size, 0, none⟩ = some (.int .i64 a) ∧ w'.cell? ⟨W.heap.size, 1, none⟩ = some (.int .i64 b) ∧ w'.cell? ⟨W.heap.size, 2, none⟩ = some (.int .i64 c) ∧ w'.cell? ⟨W.heap.size, 3, none⟩ = some (.int .i64 d) ∧ w'.cell? ⟨W.heap.size, 4, none⟩ = some (.int .i64 e) ∧ W.heap.size < w'.heap.size := by
  have hs := hb.size
  simp at hs
  refine ⟨?_, ?_, ?_, ?_, ?_, by omega⟩
  · rw [hb.cell (by simp)]; simp [go_sem]
  · rw [hb.cell (by simp)]; simp [go_sem]
  · rw [hb.cell (by simp)]; simp [go_sem]
  · rw [hb.cell (by simp)]; simp [go_sem]
  · rw [hb.cell (by simp)]; simp [go_sem]

def good (y m d h i : Int) : Prop := special y m d h i ∨ plain y m d h i
def tm (y m d h i : Int) : Int := ((ys y + cum y m + d - 1) * 24 + h) * 60 + i

theorem good_bd {y m d h i : Int} (g : good y m d h i) : 2000 ≤ y ∧ y ≤ 2100 ∧ 1 ≤ m ∧ m ≤ 12 ∧ 1 ≤ d ∧ d ≤ 31 ∧ 0 ≤ h ∧ h ≤ 23 ∧ 0 ≤ i ∧ i ≤ 59 ∧ (y = 2100 → m = 1) := by
  have hd := dim_bd y m
  rcases g with ⟨rfl, rfl, rfl, rfl, rfl⟩ | ⟨⟨h1, h2⟩, ⟨h3, h4⟩, ⟨h5, h6⟩, ⟨h7, h8⟩, h9, h10⟩
  · omega
  · omega

theorem dok_yes (y m d h i : Int) (w : World) (H : Months w) (g : good y m d h i) :
    Calls Tryd.prog 23 #[.agg #[.int .i64 y, .int .i64 m, .int .i64 d, .int .i64 h, .int .i64 i]] w fun e w' => e = .returned (.bool true) ∧ Below w.heap.size w w' := by
  rcases g with g | g
  · exact dok_special y m d h i w H g
  · exact dok_plain y m d h i w H g

set_option maxHeartbeats 1000000 in
theorem itime_no (y m d h i : Int) (w : World) (H : Months w) (g : ¬ good y m d h i) :
    Calls Tryd.prog 9 #[.agg #[.int .i64 y, .int .i64 m, .int .i64 d, .int .i64 h, .int .i64 i]] w fun e w' => e = .returned (.tuple #[.int .i64 0, .bool false]) ∧ Below w.heap.size w w' := by
  have g1 : ¬ special y m d h i := fun x => g (Or.inl x)
  have g2 : ¬ plain y m d h i := fun x => g (Or.inr x)
  have HW : Hid (∀ o, Months (w.alloc o)) := fun o => H.below ((Below.refl w.heap.size w).alloc (Nat.le_refl _) o) H.size
  clear H
  go_enter Tryd.func9, Tryd.ntmps9
  go_wp2_with (go_at_call 23; refine (dok_no _ _ _ _ _ _ (HW.out _) g1 g2).mono ?_; rintro e w1 ⟨rfl, hb⟩)
  go_ret2
  exact ⟨rfl, ((Below.refl _ _).alloc (Nat.le_refl _) _).trans (hb.mono (by simp))⟩

end Go.Proofs.YtjnkeeedoffdkaaDoor.Dates
