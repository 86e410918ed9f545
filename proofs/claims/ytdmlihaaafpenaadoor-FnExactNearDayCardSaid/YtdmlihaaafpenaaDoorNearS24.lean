/- The model's NearDay walked at hour 24. -/
import Derived.Test.YtdmlihaaafpenaaDoorNearS0
namespace Go.Proofs.YtdmlihaaafpenaaDoor.Dates
open Go.ChangeShapes Go.WideShapes Go.ChangeAt Go.RowKit

set_option maxHeartbeats 4000000 in
theorem snear_24 (day ref : Int) (w : World) (r1 : 0 ≤ ref) (r2 : ref ≤ 52596000) (hf : Fine day 24 0) :
    Calls Tryd.prog 12 (args4 day 24 0 ref) w fun e w' => ∃ Y M r b : Int, e = res2 b ∧ 2000 ≤ Y ∧ Y ≤ 2100 ∧ 1 ≤ M ∧ M ≤ 12 ∧ 0 ≤ r ∧ r < dim Y M ∧ r + ys Y + cum Y M = ref / 1440 ∧ Inv day 24 0 ref (12 * (Y - 2001)) (12 * (Y - 1999) + 12) b ∧ Below w.heap.size w w' := by
  obtain ⟨⟨d1, d2⟩, _, _, _⟩ := id hf
  have HF : Hid (Fine day 24 0) := hf
  clear hf
  go_enter Tryd.func12, Tryd.ntmps12
  go_wp2_with fail
  refine (sTime_yes _ _ r1 r2).mono ?_
  rintro e w' ⟨rfl, rfl⟩
  go_wp2_with fail
  refine (sin_yes _ _ _ _ d1 d2).mono ?_
  rintro e w' ⟨rfl, rfl⟩
  go_wp2_with fail
  refine (sin_yes _ _ _ _ (by omega) (by omega)).mono ?_
  rintro e w' ⟨rfl, rfl⟩
  go_wp2_with fail
  refine (sin_yes _ _ _ _ (by omega) (by omega)).mono ?_
  rintro e w' ⟨rfl, rfl⟩
  go_wp2_with fail
  obtain ⟨w, rfl⟩ : ∃ x : World, x = w' := ⟨_, rfl⟩
  refine (date_yes _ _ r1 r2).mono ?_
  rintro e w1 ⟨Y0, M0, r0, rfl, a1, a2, a3, a4, a5, a6, a7, hb1⟩
  have A7 : Hid (r0 + ys Y0 + cum Y0 M0 = ref / 1440) := a7
  clear a7
  have z1 := hb1.size
  have B0 : Below w.heap.size w (w1.alloc (.cells #[.int .i64 Y0, .int .i64 M0, .int .i64 (r0 + 1), .int .i64 (ref / 60 % 24), .int .i64 (ref % 60)] 26)) := hb1.alloc z1 _
  go_wp2_with fail
  go_loopw [10, 13, 14, 15, 16] (fun b y _ _ _ wr => ∃ Y B : Int, Y0 - 1 ≤ Y ∧ Y ≤ Y0 + 2 ∧ y = .int .i64 Y ∧ b = .int .i64 B ∧ Hid (Inv day 24 0 ref (12 * (Y0 - 2001)) (12 * (Y - 2000)) B) ∧ -1 ≤ B ∧ B ≤ 52596000 ∧ wr.cell? ⟨w1.heap.size, 0, none⟩ = some (.int .i64 Y0) ∧ w1.heap.size < wr.heap.size ∧ Hid (Below w.heap.size w wr)) (fun _ y _ _ _ _ => (Y0 + 2 - intOf y).toNat)
  case atStart => exact ⟨Y0 - 1, -1, by omega, by omega, rfl, rfl, (by show Inv _ _ _ _ _ _ _; rw [show Y0 - 1 - 2000 = Y0 - 2001 by omega]; exact inv_empty _), by omega, by omega, by simp [go_sem], by simp, B0⟩
  case round =>
    obtain ⟨Y, B, hY1, hY2, rfl, rfl, HI, hB1, hB2, hcell, hsz, HB⟩ := hrel
    by_cases hlt2 : Y ≤ Y0 + 1
    · obtain ⟨wo, hwo⟩ : ∃ x : World, x = wr := ⟨_, rfl⟩
      subst hwo
      go_wp2_with fail
      go_loopw [10, 14, 15, 16] (fun b m _ _ wr => ∃ M B : Int, 1 ≤ M ∧ M ≤ 13 ∧ m = .int .i64 M ∧ b = .int .i64 B ∧ Hid (Inv day 24 0 ref (12 * (Y0 - 2001)) (12 * (Y - 2000) + M - 1) B) ∧ -1 ≤ B ∧ B ≤ 52596000 ∧ wr.cell? ⟨w1.heap.size, 0, none⟩ = some (.int .i64 Y0) ∧ w1.heap.size < wr.heap.size ∧ Hid (Below w.heap.size w wr)) (fun _ m _ _ _ => (13 - intOf m).toNat)
      case atStart => exact ⟨1, B, by omega, by omega, rfl, rfl, (by show Inv _ _ _ _ _ _ _; rw [show 12 * (Y - 2000) + 1 - 1 = 12 * (Y - 2000) by omega]; exact HI.out), hB1, hB2, hcell, hsz, HB⟩
      case round =>
        obtain ⟨M, B, hM1, hM2, rfl, rfl, HI, hB1, hB2, hcell, hsz, HB⟩ := hrel
        by_cases hM : M ≤ 12
        · have hyr := yr_of Y M hM1 hM
          obtain ⟨j, hj⟩ : ∃ j, j = 12 * (Y - 2000) + M - 1 := ⟨_, rfl⟩
          rw [← hj] at hyr
          have HJ : Hid (12 * (Y - 2000) + (M + 1) - 1 = j + 1) := (by show _ = _; omega)
          have HI' : Hid (Inv day 24 0 ref (12 * (Y0 - 2001)) j B) := (by show Inv _ _ _ _ _ _ _; rw [hj]; exact HI.out)
          have hjlo : 12 * (Y0 - 2001) ≤ j := by omega
          clear HI hj
          by_cases g : good Y M day 0 0
          · have hbd := tm_bd g
            obtain ⟨t0, ht0⟩ : ∃ t0, t0 = tm Y M day 0 0 := ⟨_, rfl⟩
            rw [← ht0] at hbd
            have H6 : Hid (∀ w, Calls Tryd.prog 6 #[.agg #[.int .i64 Y, .int .i64 M, .int .i64 day, .int .i64 0, .int .i64 0]] w fun e w' => e = .returned (.tuple #[.int .i64 t0, .bool true]) ∧ Below w.heap.size w w') := fun w => by rw [ht0]; exact time_yes _ _ _ _ _ w g
            have eT : T day 24 0 j = t0 + 1440 := by
              have := T_tm HF.out j
              rw [hyr.1, hyr.2] at this
              rw [this, ht0]
              simp
            have g' : good (yr j) (mo j) day (24 % 24) 0 := by rw [hyr.1, hyr.2]; exact g
            by_cases ht : t0 + 1440 ≤ 52596000
            · have hv : V day 24 0 j := V_yes HF.out g' (by rw [eT]; omega) (by rw [eT]; exact ht)
              have step : ∀ B', ((B < 0 ∨ dist (t0 + 1440) ref < dist B ref) → B' = t0 + 1440) → (¬ (B < 0 ∨ dist (t0 + 1440) ref < dist B ref) → B' = B) → Inv day 24 0 ref (12 * (Y0 - 2001)) (12 * (Y - 2000) + (M + 1) - 1) B' := by
                intro B' c1 c2
                rw [HJ.out]
                by_cases hc : B < 0 ∨ dist (t0 + 1440) ref < dist B ref
                · rw [c1 hc, ← eT]
                  exact inv_take HI'.out hjlo hv (by rw [eT]; exact hc)
                · rw [c2 hc]
                  exact inv_keep HI'.out (by omega) (by rw [eT]; omega)
              have STEP : Hid (∀ B', ((B < 0 ∨ dist (t0 + 1440) ref < dist B ref) → B' = t0 + 1440) → (¬ (B < 0 ∨ dist (t0 + 1440) ref < dist B ref) → B' = B) → Inv day 24 0 ref (12 * (Y0 - 2001)) (12 * (Y - 2000) + (M + 1) - 1) B') := step
              clear step hv g' eT g ht0 HI' HJ hyr
              by_cases hb : B < 0
              · go_wp2_with fail
                refine (H6.out _).mono ?_
                rintro e w2 ⟨rfl, hb2⟩
                go_wp2_with (go_at_call 19; refine (sTime_yes _ _ (by omega) (by omega)).mono ?_; rintro e w' ⟨rfl, rfl⟩)
                go_roundw
                case rel => exact ⟨M + 1, t0 + 1440, by omega, by omega, rfl, rfl, STEP.out _ (fun _ => rfl) (fun x => absurd (Or.inl hb) x), by omega, by omega, (hb2.cell (p := ⟨w1.heap.size, 0, none⟩) hsz).trans hcell, Nat.lt_of_lt_of_le hsz hb2.size, HB.out.trans (hb2.mono HB.out.size)⟩
                case measure => simp [intOf]; omega
              · have HB0 : Hid (¬ B < 0) := hb
                by_cases q1 : ref ≤ t0 + 1440
                all_goals by_cases q2 : ref ≤ B
                all_goals by_cases hc : dist (t0 + 1440) ref < dist B ref
                all_goals
                  have HC : Hid (_ : Prop) := hc
                  simp only [dist, q1, q2, if_true, if_false] at hc
                  go_wp2_with fail
                  refine (H6.out _).mono ?_
                  rintro e w2 ⟨rfl, hb2⟩
                  go_wp2_with (go_at_call 19; refine (sTime_yes _ _ (by omega) (by omega)).mono ?_; rintro e w' ⟨rfl, rfl⟩)
                  go_roundw
                  case rel =>
                    first
                    | exact ⟨M + 1, t0 + 1440, by omega, by omega, rfl, rfl, STEP.out _ (fun _ => rfl) (fun x => absurd (Or.inr HC.out) x), by omega, by omega, (hb2.cell (p := ⟨w1.heap.size, 0, none⟩) hsz).trans hcell, Nat.lt_of_lt_of_le hsz hb2.size, HB.out.trans (hb2.mono HB.out.size)⟩
                    | exact ⟨M + 1, B, by omega, by omega, rfl, rfl, STEP.out _ (fun x => absurd x (not_or.2 ⟨by omega, by have := HC.out; omega⟩)) (fun _ => rfl), by omega, by omega, (hb2.cell (p := ⟨w1.heap.size, 0, none⟩) hsz).trans hcell, Nat.lt_of_lt_of_le hsz hb2.size, HB.out.trans (hb2.mono HB.out.size)⟩
                  case measure => simp [intOf]; omega
            · have nv : ¬ V day 24 0 j := fun v => ht (by have := v.2.2; rw [eT] at this; exact this)
              have IN : Hid (Inv day 24 0 ref (12 * (Y0 - 2001)) (12 * (Y - 2000) + (M + 1) - 1) B) := (by show Inv _ _ _ _ _ _ _; rw [HJ.out]; exact inv_skip HI'.out nv)
              clear nv g' eT g ht0 HI' HJ hyr
              go_wp2_with fail
              refine (H6.out _).mono ?_
              rintro e w2 ⟨rfl, hb2⟩
              go_wp2_with (go_at_call 19; refine (sTime_no _ _ (by omega)).mono ?_; rintro e w' ⟨rfl, rfl⟩)
              go_roundw
              case rel => exact ⟨M + 1, B, by omega, by omega, rfl, rfl, IN, by omega, by omega, (hb2.cell (p := ⟨w1.heap.size, 0, none⟩) hsz).trans hcell, Nat.lt_of_lt_of_le hsz hb2.size, HB.out.trans (hb2.mono HB.out.size)⟩
              case measure => simp [intOf]; omega
          · have nv : ¬ V day 24 0 j := fun v => g (by have := V_good HF.out v; rw [hyr.1, hyr.2] at this; exact this)
            have IN : Hid (Inv day 24 0 ref (12 * (Y0 - 2001)) (12 * (Y - 2000) + (M + 1) - 1) B) := (by show Inv _ _ _ _ _ _ _; rw [HJ.out]; exact inv_skip HI'.out nv)
            have G : Hid (¬ good Y M day 0 0) := g
            clear nv g HI' HJ hyr
            go_wp2_with fail
            refine (time_no _ _ _ _ _ _ G.out).mono ?_
            rintro e w2 ⟨rfl, hb2⟩
            go_wp2_with fail
            go_roundw
            case rel => exact ⟨M + 1, B, by omega, by omega, rfl, rfl, IN, by omega, by omega, (hb2.cell (p := ⟨w1.heap.size, 0, none⟩) hsz).trans hcell, Nat.lt_of_lt_of_le hsz hb2.size, HB.out.trans (hb2.mono HB.out.size)⟩
            case measure => simp [intOf]; omega
        · have hM' : M = 13 := by omega
          subst hM'
          have IN : Hid (Inv day 24 0 ref (12 * (Y0 - 2001)) (12 * (Y + 1 - 2000)) B) := (by show Inv _ _ _ _ _ _ _; rw [show 12 * (Y + 1 - 2000) = 12 * (Y - 2000) + 13 - 1 by omega]; exact HI.out)
          clear HI
          go_wp2_with fail
          go_roundw
          case rel => exact ⟨Y + 1, B, by omega, by omega, rfl, rfl, IN, by omega, by omega, hcell, hsz, HB⟩
          case measure => simp [intOf]; omega
    · have hY : Y = Y0 + 2 := by omega
      subst hY
      have IN : Inv day 24 0 ref (12 * (Y0 - 2001)) (12 * (Y0 - 1999) + 12) B := (by rw [show 12 * (Y0 - 1999) + 12 = 12 * (Y0 + 2 - 2000) by omega]; exact HI.out)
      have INH : Hid (Inv day 24 0 ref (12 * (Y0 - 2001)) (12 * (Y0 - 1999) + 12) B) := IN
      clear IN HI
      by_cases hb : B < 0
      · go_wp2_with fail
        go_ret2
        exact ⟨Y0, M0, r0, B, (res_no (by omega)).symm, a1, a2, a3, a4, a5, a6, A7.out, INH.out, HB.out⟩
      · go_wp2_with fail
        go_ret2
        exact ⟨Y0, M0, r0, B, (res_yes (by omega)).symm, a1, a2, a3, a4, a5, a6, A7.out, INH.out, HB.out⟩
end Go.Proofs.YtdmlihaaafpenaaDoor.Dates
