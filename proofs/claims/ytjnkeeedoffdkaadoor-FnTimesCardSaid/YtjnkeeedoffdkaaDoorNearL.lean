/- The program's NearDay walked, its loop and all. -/
import Derived.Test.YtjnkeeedoffdkaaDoorNearI
import Derived.Test.YtjnkeeedoffdkaaDoorNearS0
namespace Go.Proofs.YtjnkeeedoffdkaaDoor.Dates
open Go.ChangeShapes Go.WideShapes Go.ChangeAt Go.RowKit

set_option maxHeartbeats 400000 in
theorem ck_yes (day hour minute : Int) (w : World) (hf : Fine day hour minute) :
    Calls Tryd.prog 26 #[.int .i64 day, .int .i64 hour, .int .i64 minute] w fun e w' => e = .returned (.bool true) ∧ w' = w := by
  obtain ⟨⟨d1, d2⟩, ⟨h1, h2⟩, ⟨m1, m2⟩, h4⟩ := hf
  by_cases e : hour = 24
  · have := h4 e
    subst e this
    go_enter Tryd.func26, Tryd.ntmps26
    go_wp2_with (go_at_call 32; refine (win_yes _ _ _ _ (by omega) (by omega)).mono ?_; rintro e w' ⟨rfl, rfl⟩)
    go_ret
    exact ⟨rfl, rfl⟩
  · have h5 : hour < 24 := by omega
    clear h4 e
    go_enter Tryd.func26, Tryd.ntmps26
    go_wp2_with (go_at_call 32; refine (win_yes _ _ _ _ (by omega) (by omega)).mono ?_; rintro e w' ⟨rfl, rfl⟩)
    go_ret
    exact ⟨rfl, rfl⟩

set_option maxHeartbeats 1000000 in
theorem ck_no (day hour minute : Int) (w : World) (hf : ¬ Fine day hour minute) :
    Calls Tryd.prog 26 #[.int .i64 day, .int .i64 hour, .int .i64 minute] w fun e w' => e = .returned (.bool false) ∧ w' = w := by
  by_cases hd : 1 ≤ day ∧ day ≤ 31
  · obtain ⟨d1, d2⟩ := hd
    by_cases hh : 0 ≤ hour ∧ hour ≤ 24
    · obtain ⟨h1, h2⟩ := hh
      by_cases hm : 0 ≤ minute ∧ minute ≤ 59
      · obtain ⟨m1, m2⟩ := hm
        have hx : hour = 24 ∧ minute ≠ 0 := by
          by_cases e : hour = 24
          · exact ⟨e, fun e2 => hf ⟨⟨d1, d2⟩, ⟨h1, h2⟩, ⟨m1, m2⟩, fun _ => e2⟩⟩
          · exact absurd ⟨⟨d1, d2⟩, ⟨h1, h2⟩, ⟨m1, m2⟩, fun x => absurd x e⟩ hf
        obtain ⟨rfl, e2⟩ := hx
        have e3 : (minute == 0) = false := by simp [e2]
        clear hf e2
        go_enter Tryd.func26, Tryd.ntmps26
        go_wp2_with (go_at_call 32; refine (win_yes _ _ _ _ (by omega) (by omega)).mono ?_; rintro e w' ⟨rfl, rfl⟩)
        go_ret
        exact ⟨rfl, rfl⟩
      · have hm' : minute < 0 ∨ 59 < minute := by omega
        clear hf hm
        go_enter Tryd.func26, Tryd.ntmps26
        go_wp2_with fail
        refine (win_yes _ _ _ _ d1 d2).mono ?_
        rintro e w' ⟨rfl, rfl⟩
        go_wp2_with fail
        refine (win_yes _ _ _ _ h1 h2).mono ?_
        rintro e w' ⟨rfl, rfl⟩
        go_wp2_with fail
        refine (win_no _ _ _ _ hm').mono ?_
        rintro e w' ⟨rfl, rfl⟩
        go_wp2_with fail
        go_ret
        exact ⟨rfl, rfl⟩
    · have hh' : hour < 0 ∨ 24 < hour := by omega
      clear hf hh
      go_enter Tryd.func26, Tryd.ntmps26
      go_wp2_with fail
      refine (win_yes _ _ _ _ d1 d2).mono ?_
      rintro e w' ⟨rfl, rfl⟩
      go_wp2_with fail
      refine (win_no _ _ _ _ hh').mono ?_
      rintro e w' ⟨rfl, rfl⟩
      go_wp2_with fail
      go_ret
      exact ⟨rfl, rfl⟩
  · have hd' : day < 1 ∨ 31 < day := by omega
    clear hf hd
    go_enter Tryd.func26, Tryd.ntmps26
    go_wp2_with fail
    refine (win_no _ _ _ _ hd').mono ?_
    rintro e w' ⟨rfl, rfl⟩
    go_wp2_with fail
    go_ret
    exact ⟨rfl, rfl⟩

set_option maxHeartbeats 1000000 in
theorem inear_no (day hour minute ref : Int) (w : World) (H : Months w) (h : (ref < 0 ∨ 52596000 < ref) ∨ ¬ Fine day hour minute) :
    Calls Tryd.prog 12 (args4 day hour minute ref) w fun e w' => e = no2 ∧ Below w.heap.size w w' := by
  by_cases hr : 0 ≤ ref ∧ ref ≤ 52596000
  · have hf : ¬ Fine day hour minute := by
      rcases h with h | h
      · omega
      · exact h
    have HH : Hid (Months w) := H
    clear h H
    go_enter Tryd.func12, Tryd.ntmps12
    go_wp2_with fail
    refine (idate_yes _ _ HH.out hr.1 hr.2).mono ?_
    rintro e w1 ⟨Y, M, r, rfl, a1, a2, a3, a4, a5, a6, a7, hb1⟩
    clear a7
    go_wp2_with (go_at_call 26; refine (ck_no _ _ _ _ hf).mono ?_; rintro e w' ⟨rfl, rfl⟩)
    go_ret2
    exact ⟨rfl, hb1.alloc hb1.size _⟩
  · have hr' : ref < 0 ∨ 52596000 < ref := by omega
    clear h H hr
    go_enter Tryd.func12, Tryd.ntmps12
    go_wp2_with fail
    refine (idate_no _ _ hr').mono ?_
    rintro e w1 ⟨rfl, hb1⟩
    go_wp2_with fail
    go_ret2
    exact ⟨rfl, hb1.alloc hb1.size _⟩

set_option maxHeartbeats 4000000 in
theorem inear_yes (day hour minute ref : Int) (w : World) (H : Months w) (r1 : 0 ≤ ref) (r2 : ref ≤ 52596000) (hf : Fine day hour minute) :
    Calls Tryd.prog 12 (args4 day hour minute ref) w fun e w' => ∃ Y M r b : Int, e = res2 b ∧ 2000 ≤ Y ∧ Y ≤ 2100 ∧ 1 ≤ M ∧ M ≤ 12 ∧ 0 ≤ r ∧ r < dim Y M ∧ r + ys Y + cum Y M = ref / 1440 ∧ Inv day hour minute ref (12 * (Y - 2000) + M - 1 - 2) (12 * (Y - 2000) + M - 1 + 3) b ∧ Below w.heap.size w w' := by
  obtain ⟨_, ⟨h1, h2⟩, ⟨m1, m2⟩, _⟩ := id hf
  have hck := hf.clock
  have c0 : 0 ≤ hour * 60 + minute := by omega
  have c1 : hour * 60 + minute ≤ 1440 := hck.2.2.2.2
  have HF : Hid (Fine day hour minute) := hf
  have HH : Hid (Months w) := H
  have hsz0 := H.size
  have HM : Hid (∀ w' : World, Below w.heap.size w w' → Months w') := fun w' hb => H.below hb H.size
  clear hck hf H
  go_enter Tryd.func12, Tryd.ntmps12
  go_wp2_with fail
  refine (idate_yes _ _ HH.out r1 r2).mono ?_
  rintro e w1 ⟨Y0, M0, r0, rfl, a1, a2, a3, a4, a5, a6, a7, hb1⟩
  have A7 : Hid (r0 + ys Y0 + cum Y0 M0 = ref / 1440) := a7
  clear a7
  have z1 := hb1.size
  have B0 : Hid (Below w.heap.size w (w1.alloc (.cells #[.int .i64 Y0, .int .i64 M0, .int .i64 (r0 + 1), .int .i64 (ref / 60 % 24), .int .i64 (ref % 60)] 26))) := hb1.alloc z1 _
  go_wp2_with fail
  obtain ⟨wk, hwk⟩ : ∃ x : World, x = w := ⟨_, rfl⟩
  refine (ck_yes _ _ _ _ HF.out).mono ?_
  rintro e w' ⟨rfl, hw'⟩
  subst hw'
  go_wp2_with fail
  go_loopw [12, 13, 15, 16, 17, 41] (fun b f _ _ _ c wr => ∃ k B : Int, 0 ≤ k ∧ k ≤ 5 ∧ c = .int .i64 k ∧ Hid (Inv day hour minute ref ((Y0 - 2000) * 12 + M0 - 1 - 2) ((Y0 - 2000) * 12 + M0 - 1 - 2 + k) B) ∧ (B < 0 ∧ b = .int .i64 0 ∧ f = .bool false ∨ 0 ≤ B ∧ B ≤ 52596000 ∧ b = .int .i64 B ∧ f = .bool true) ∧ Hid (Below w.heap.size w wr)) (fun _ _ _ _ _ c _ => (5 - intOf c).toNat)
  case atStart => exact ⟨0, -1, by omega, by omega, rfl, (by show Inv _ _ _ _ _ _ _; rw [Int.add_zero]; exact inv_empty _), Or.inl ⟨by omega, rfl, rfl⟩, B0⟩
  case round =>
    obtain ⟨k, B, hk1, hk2, rfl, HI, hcase, HB⟩ := hrel
    by_cases hk : k < 5
    · obtain ⟨j, hj⟩ : ∃ j, j = (Y0 - 2000) * 12 + M0 - 1 - 2 + k := ⟨_, rfl⟩
      have HJ : Hid ((Y0 - 2000) * 12 + M0 - 1 - 2 + (k + 1) = j + 1) := (by show _ = _; omega)
      have HI' : Hid (Inv day hour minute ref ((Y0 - 2000) * 12 + M0 - 1 - 2) j B) := (by show Inv _ _ _ _ _ _ _; rw [hj]; exact HI.out)
      have hjlo : (Y0 - 2000) * 12 + M0 - 1 - 2 ≤ j := by omega
      have H25 : Hid (∀ w' : World, Months w' → Calls Tryd.prog 27 #[.int .i64 ((Y0 - 2000) * 12 + M0 - 1 - 2 + k), .int .i64 day, .int .i64 (hour * 60 + minute)] w' fun e w'' => ∃ t : Int, ∃ C : Bool, e = .returned (.tuple #[.int .i64 t, .bool C]) ∧ 0 ≤ t ∧ t ≤ 100000000 ∧ (C = true → V day hour minute j ∧ t = T day hour minute j) ∧ (C = false → ¬ V day hour minute j) ∧ Below w'.heap.size w' w'') := fun w' hw => by rw [← hj]; exact dom_any j day hour minute w' hw (by omega) (by omega) c0 c1
      clear HI hj
      rcases hcase with ⟨hB, rfl, rfl⟩ | ⟨hB, hB2, rfl, rfl⟩
      · go_wp2_with fail
        refine (H25.out _ (HM.out _ HB.out)).mono ?_
        rintro e w2 ⟨t, C, rfl, t0, t1, cy, cn, hb2⟩
        have HB2 : Hid (Below w.heap.size w w2) := HB.out.trans (hb2.mono HB.out.size)
        cases C
        · have IN : Hid (Inv day hour minute ref ((Y0 - 2000) * 12 + M0 - 1 - 2) ((Y0 - 2000) * 12 + M0 - 1 - 2 + (k + 1)) B) := (by show Inv _ _ _ _ _ _ _; rw [HJ.out]; exact inv_skip HI'.out (cn rfl))
          clear cy cn
          go_wp2_with fail
          go_roundw
          case rel => exact ⟨k + 1, B, by omega, by omega, rfl, IN, Or.inl ⟨hB, rfl, rfl⟩, HB2⟩
          case measure => simp [intOf]; omega
        · obtain ⟨v, et⟩ := cy rfl
          have tb : t ≤ 52596000 := by rw [et]; exact v.2.2
          have IN : Hid (Inv day hour minute ref ((Y0 - 2000) * 12 + M0 - 1 - 2) ((Y0 - 2000) * 12 + M0 - 1 - 2 + (k + 1)) t) := (by show Inv _ _ _ _ _ _ _; rw [HJ.out, et]; exact inv_take HI'.out hjlo v (Or.inl hB))
          clear cy cn v et
          go_wp2_with fail
          go_roundw
          case rel => exact ⟨k + 1, t, by omega, by omega, rfl, IN, Or.inr ⟨t0, tb, rfl, rfl⟩, HB2⟩
          case measure => simp [intOf]; omega
      · go_wp2_with fail
        refine (H25.out _ (HM.out _ HB.out)).mono ?_
        rintro e w2 ⟨t, C, rfl, t0, t1, cy, cn, hb2⟩
        have HB2 : Hid (Below w.heap.size w w2) := HB.out.trans (hb2.mono HB.out.size)
        cases C
        · have IN : Hid (Inv day hour minute ref ((Y0 - 2000) * 12 + M0 - 1 - 2) ((Y0 - 2000) * 12 + M0 - 1 - 2 + (k + 1)) B) := (by show Inv _ _ _ _ _ _ _; rw [HJ.out]; exact inv_skip HI'.out (cn rfl))
          clear cy cn
          go_wp2_with fail
          go_roundw
          case rel => exact ⟨k + 1, B, by omega, by omega, rfl, IN, Or.inr ⟨hB, hB2, rfl, rfl⟩, HB2⟩
          case measure => simp [intOf]; omega
        · obtain ⟨v, et⟩ := cy rfl
          have tb : t ≤ 52596000 := by rw [et]; exact v.2.2
          by_cases hc : dist t ref < dist B ref
          · have IN : Hid (Inv day hour minute ref ((Y0 - 2000) * 12 + M0 - 1 - 2) ((Y0 - 2000) * 12 + M0 - 1 - 2 + (k + 1)) t) := (by show Inv _ _ _ _ _ _ _; rw [HJ.out]; rw [et] at hc ⊢; exact inv_take HI'.out hjlo v (Or.inr hc))
            clear cy cn v et
            go_wp2_with (go_at_call 28; refine (apart_any _ _ _ (by omega) (by omega) (by omega) (by omega)).mono ?_; rintro e w' ⟨rfl, rfl⟩)
            go_roundw
            case rel => exact ⟨k + 1, t, by omega, by omega, rfl, IN, Or.inr ⟨t0, tb, rfl, rfl⟩, HB2⟩
            case measure => simp [intOf]; omega
          · have IN : Hid (Inv day hour minute ref ((Y0 - 2000) * 12 + M0 - 1 - 2) ((Y0 - 2000) * 12 + M0 - 1 - 2 + (k + 1)) B) := (by show Inv _ _ _ _ _ _ _; rw [HJ.out]; rw [et] at hc; exact inv_keep HI'.out hB hc)
            clear cy cn v et
            go_wp2_with (go_at_call 28; refine (apart_any _ _ _ (by omega) (by omega) (by omega) (by omega)).mono ?_; rintro e w' ⟨rfl, rfl⟩)
            go_roundw
            case rel => exact ⟨k + 1, B, by omega, by omega, rfl, IN, Or.inr ⟨hB, hB2, rfl, rfl⟩, HB2⟩
            case measure => simp [intOf]; omega
    · have hk' : k = 5 := by omega
      subst hk'
      have IN : Hid (Inv day hour minute ref (12 * (Y0 - 2000) + M0 - 1 - 2) (12 * (Y0 - 2000) + M0 - 1 + 3) B) := (by show Inv _ _ _ _ _ _ _; rw [show 12 * (Y0 - 2000) + M0 - 1 - 2 = (Y0 - 2000) * 12 + M0 - 1 - 2 by omega, show 12 * (Y0 - 2000) + M0 - 1 + 3 = (Y0 - 2000) * 12 + M0 - 1 - 2 + 5 by omega]; exact HI.out)
      clear HI
      rcases hcase with ⟨hB, rfl, rfl⟩ | ⟨hB, hB2, rfl, rfl⟩
      · go_wp2_with fail
        go_ret2
        exact ⟨Y0, M0, r0, B, (res_no (by omega)).symm, a1, a2, a3, a4, a5, a6, A7.out, IN.out, HB.out⟩
      · go_wp2_with fail
        go_ret2
        exact ⟨Y0, M0, r0, B, (res_yes (by omega)).symm, a1, a2, a3, a4, a5, a6, A7.out, IN.out, HB.out⟩
end Go.Proofs.YtjnkeeedoffdkaaDoor.Dates
