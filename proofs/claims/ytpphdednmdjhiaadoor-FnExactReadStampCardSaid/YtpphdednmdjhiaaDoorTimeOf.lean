/- Contracts for TimeOf, in the program and in its model. -/
import Derived.Test.YtpphdednmdjhiaaDoorRight
import Derived.Test.YtpphdednmdjhiaaDoorDateOf
namespace Go.Proofs.YtpphdednmdjhiaaDoor.Dates
open Go.ChangeShapes Go.WideShapes Go.ChangeAt Go.RowKit

theorem five {W w' : World} {a b c d e : Int} (hb : Below (W.alloc (.cells #[.int .i64 a, .int .i64 b, .int .i64 c, .int .i64 d, .int .i64 e] 28)).heap.size (W.alloc (.cells #[.int .i64 a, .int .i64 b, .int .i64 c, .int .i64 d, .int .i64 e] 28)) w') :
    w'.cell? ⟨W.heap.size, 0, none⟩ = some (.int .i64 a) ∧ w'.cell? ⟨W.heap.size, 1, none⟩ = some (.int .i64 b) ∧ w'.cell? ⟨W.heap.size, 2, none⟩ = some (.int .i64 c) ∧ w'.cell? ⟨W.heap.size, 3, none⟩ = some (.int .i64 d) ∧ w'.cell? ⟨W.heap.size, 4, none⟩ = some (.int .i64 e) ∧ W.heap.size < w'.heap.size := by
  have hs := hb.size
  simp at hs
  refine ⟨?_, ?_, ?_, ?_, ?_, by omega⟩
  · rw [hb.cell (by simp)]; simp [go_sem]
  · rw [hb.cell (by simp)]; simp [go_sem]
  · rw [hb.cell (by simp)]; simp [go_sem]
  · rw [hb.cell (by simp)]; simp [go_sem]
  · rw [hb.cell (by simp)]; simp [go_sem]

def good (y m d h i : Int) : Prop := special y m d h i ∨ plain y m d h i
def tm (y m d h i : Int) : Int := ((ys y + cum y m + d - 1) * 24 + h) * 60 + i

theorem good_bd {y m d h i : Int} (g : good y m d h i) : 2000 ≤ y ∧ y ≤ 2100 ∧ 1 ≤ m ∧ m ≤ 12 ∧ 1 ≤ d ∧ d ≤ 31 ∧ 0 ≤ h ∧ h ≤ 23 ∧ 0 ≤ i ∧ i ≤ 59 ∧ (y = 2100 → m = 1) := by
  have hd := dim_bd y m
  rcases g with ⟨rfl, rfl, rfl, rfl, rfl⟩ | ⟨⟨h1, h2⟩, ⟨h3, h4⟩, ⟨h5, h6⟩, ⟨h7, h8⟩, h9, h10⟩
  · omega
  · omega

theorem rig_yes (y m d h i : Int) (w : World) (g : good y m d h i) :
    Calls Tryd.prog 29 #[.agg #[.int .i64 y, .int .i64 m, .int .i64 d, .int .i64 h, .int .i64 i]] w fun e w' => e = .returned (.bool true) ∧ Below w.heap.size w w' := by
  rcases g with g | g
  · exact rig_special y m d h i w g
  · exact rig_plain y m d h i w g
theorem dok_yes (y m d h i : Int) (w : World) (H : Months w) (g : good y m d h i) :
    Calls Tryd.prog 30 #[.agg #[.int .i64 y, .int .i64 m, .int .i64 d, .int .i64 h, .int .i64 i]] w fun e w' => e = .returned (.bool true) ∧ Below w.heap.size w w' := by
  rcases g with g | g
  · exact dok_special y m d h i w H g
  · exact dok_plain y m d h i w H g

set_option maxHeartbeats 1000000 in
theorem time_no (y m d h i : Int) (w : World) (g : ¬ good y m d h i) :
    Calls Tryd.prog 15 #[.agg #[.int .i64 y, .int .i64 m, .int .i64 d, .int .i64 h, .int .i64 i]] w fun e w' => e = .returned (.tuple #[.int .i64 0, .bool false]) ∧ Below w.heap.size w w' := by
  have g1 : ¬ special y m d h i := fun x => g (Or.inl x)
  have g2 : ¬ plain y m d h i := fun x => g (Or.inr x)
  go_enter Tryd.func15, Tryd.ntmps15
  go_wp2_with (go_at_call 29; refine (rig_no _ _ _ _ _ _ g1 g2).mono ?_; rintro e w1 ⟨rfl, hb⟩)
  go_ret2
  exact ⟨rfl, ((Below.refl _ _).alloc (Nat.le_refl _) _).trans (hb.mono (by simp))⟩

set_option maxHeartbeats 1000000 in
theorem itime_no (y m d h i : Int) (w : World) (H : Months w) (g : ¬ good y m d h i) :
    Calls Tryd.prog 17 #[.agg #[.int .i64 y, .int .i64 m, .int .i64 d, .int .i64 h, .int .i64 i]] w fun e w' => e = .returned (.tuple #[.int .i64 0, .bool false]) ∧ Below w.heap.size w w' := by
  have g1 : ¬ special y m d h i := fun x => g (Or.inl x)
  have g2 : ¬ plain y m d h i := fun x => g (Or.inr x)
  have HW : Hid (∀ o, Months (w.alloc o)) := fun o => H.below ((Below.refl w.heap.size w).alloc (Nat.le_refl _) o) H.size
  clear H
  go_enter Tryd.func17, Tryd.ntmps17
  go_wp2_with (go_at_call 30; refine (dok_no _ _ _ _ _ _ (HW.out _) g1 g2).mono ?_; rintro e w1 ⟨rfl, hb⟩)
  go_ret2
  exact ⟨rfl, ((Below.refl _ _).alloc (Nat.le_refl _) _).trans (hb.mono (by simp))⟩

set_option maxHeartbeats 1000000 in
theorem time_yes (y m d h i : Int) (w : World) (g : good y m d h i) :
    Calls Tryd.prog 15 #[.agg #[.int .i64 y, .int .i64 m, .int .i64 d, .int .i64 h, .int .i64 i]] w fun e w' => e = .returned (.tuple #[.int .i64 (tm y m d h i), .bool true]) ∧ Below w.heap.size w w' := by
  obtain ⟨k1, k2, k3, k4, k5, k6, k7, k8, k9, k10, _⟩ := good_bd g
  go_enter Tryd.func15, Tryd.ntmps15
  go_wp2_with (go_at_call 29; refine (rig_yes _ _ _ _ _ _ g).mono ?_; rintro e w1 ⟨rfl, hb⟩)
  obtain ⟨g1, g2, g3, g4, g5, g6⟩ := five hb
  have bel : Below w.heap.size w w1 := ((Below.refl _ _).alloc (Nat.le_refl _) _).trans (hb.mono (by simp))
  go_loop [4, 5, 6] (fun s a _ => ∃ Y : Int, 2000 ≤ Y ∧ Y ≤ y ∧ a = .int .i64 Y ∧ s = .int .i64 (ys Y)) (fun _ a _ => (y - intOf a).toNat)
  case atStart => exact ⟨2000, by omega, by omega, rfl, rfl⟩
  case round =>
    obtain ⟨Y, hY1, hY2, rfl, rfl⟩ := hrel
    have hb1 := ys_bd Y hY1 (by omega)
    by_cases hlt : Y < y
    · go_wp2_with fail
      go_loop [4, 6] (fun s a => ∃ M : Int, 1 ≤ M ∧ M ≤ 13 ∧ a = .int .i64 M ∧ s = .int .i64 (ys Y + cum Y M)) (fun _ a => (13 - intOf a).toNat)
      case atStart => exact ⟨1, by omega, by omega, rfl, by rw [cum_one]; simp⟩
      case round =>
        obtain ⟨M, hM1, hM2, rfl, rfl⟩ := hrel
        have hcb := cum_bd Y M
        have hdb := dim_bd Y M
        by_cases hM : M ≤ 12
        · go_wp2_with (go_at_call 19; refine (days_any _ _ _ (by omega) (by omega) (by omega) (by omega)).mono ?_; rintro e w' ⟨rfl, rfl⟩)
          have hs := cum_succ Y M hM1 hM
          go_round
          case rel => exact ⟨M + 1, by omega, by omega, rfl, by rw [hs]; go_num⟩
          case measure => simp [intOf]; omega
        · have hM' : M = 13 := by omega
          subst hM'
          go_wp2_with fail
          have e1 := ys_succ Y hY1 (by omega)
          have e2 : cum Y 13 = 365 + lp Y := rfl
          go_round
          case rel => exact ⟨Y + 1, by omega, by omega, rfl, by rw [e1, e2]⟩
          case measure => simp [intOf]; omega
    · have hY : Y = y := by omega
      subst hY
      go_wp2_with fail
      go_loop [4, 7] (fun s a => ∃ M : Int, 1 ≤ M ∧ M ≤ m ∧ a = .int .i64 M ∧ s = .int .i64 (ys Y + cum Y M)) (fun _ a => (m - intOf a).toNat)
      case atStart => exact ⟨1, by omega, by omega, rfl, by rw [cum_one]; simp⟩
      case round =>
        obtain ⟨M, hM1, hM2, rfl, rfl⟩ := hrel
        have hcb := cum_bd Y M
        have hdb := dim_bd Y M
        by_cases hM : M < m
        · go_wp2_with (go_at_call 19; refine (days_any _ _ _ (by omega) (by omega) (by omega) (by omega)).mono ?_; rintro e w' ⟨rfl, rfl⟩)
          have hs := cum_succ Y M hM1 (by omega)
          go_round
          case rel => exact ⟨M + 1, by omega, by omega, rfl, by rw [hs]; go_num⟩
          case measure => simp [intOf]; omega
        · have hM' : M = m := by omega
          subst hM'
          go_wp2_with fail
          go_ret2
          exact ⟨rfl, bel⟩
end Go.Proofs.YtpphdednmdjhiaaDoor.Dates
