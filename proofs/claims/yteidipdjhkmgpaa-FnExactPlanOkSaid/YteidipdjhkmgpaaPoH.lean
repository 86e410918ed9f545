/- Repetitions within one another, in the program. -/
import Derived.Test.YteidipdjhkmgpaaPoG
namespace Go.Proofs.Yteidipdjhkmgpaa.Lists
open Go.ChangeShapes Go.WideShapes Go.ChangeAt Go.RowKit

theorem xo_bd {d : Int} (h : rp d = true) : 1 ≤ xo d ∧ xo d ≤ 99 := by
  have := (rp_iff d).1 h
  unfold xo
  omega

set_option maxRecDepth 20000 in
set_option maxHeartbeats 2000000 in
theorem irep_any : ∀ (m : Nat) (w : World) (b o n cap : Nat) (P : List Int), n ≤ m → P.length = n → n ≤ cap → cap ≤ maxLen → n ≤ 100 → (∀ i, i < n → w.cell? ⟨b, o + i, none⟩ = some (.int .i64 (P.getD i 0))) → (∀ i, i < n → 1 ≤ P.getD i 0 ∧ P.getD i 0 < 300000) →
    Calls Try.prog 16 #[.slice (some ⟨b, o, none⟩) n cap] w fun e w' => e = .returned (.bool (rep P)) ∧ ∃ q, w' = w.drewN q := by
  intro m
  induction m with
  | zero =>
    intro w b o n cap P hn hP hc hcm h100 K D
    have hn0 : n = 0 := by omega
    subst hn0
    have e : P = [] := List.eq_nil_of_length_eq_zero hP
    subst e
    rw [rep_nil]
    go_enter Try.func16, Try.ntmps16
    go_wp2_with fail
    go_loop [3, 4, 5] (fun i _ _ => i = .int .i64 0) (fun _ _ _ => 0)
    case atStart => rfl
    case round =>
      subst hrel
      go_wp2_with fail
      go_ret
      exact ⟨rfl, 0, rfl⟩
  | succ m ih =>
    intro w b o n cap P hn hP hc hcm h100 K D
    have IH : Hid (∀ (w : World) (b o n cap : Nat) (P : List Int), n ≤ m → P.length = n → n ≤ cap → cap ≤ maxLen → n ≤ 100 → (∀ i, i < n → w.cell? ⟨b, o + i, none⟩ = some (.int .i64 (P.getD i 0))) → (∀ i, i < n → 1 ≤ P.getD i 0 ∧ P.getD i 0 < 300000) → Calls Try.prog 16 #[.slice (some ⟨b, o, none⟩) n cap] w fun e w' => e = .returned (.bool (rep P)) ∧ ∃ q, w' = w.drewN q) := ih
    have HK : Hid (∀ i, i < n → w.cell? ⟨b, o + i, none⟩ = some (.int .i64 (P.getD i 0))) := K
    have HD : Hid (∀ i, i < n → 1 ≤ P.getD i 0 ∧ P.getD i 0 < 300000) := D
    have HP : Hid (P.length = n) := hP
    have HCM : Hid (cap ≤ maxLen) := hcm
    obtain ⟨R, hR⟩ : ∃ r, r = rep P := ⟨_, rfl⟩
    rw [← hR]
    have HR : Hid (R = rep (P.drop 0)) := hR
    unfold maxLen at hcm
    clear K D hP hR ih
    go_enter Try.func16, Try.ntmps16
    go_wp2_with fail
    go_loopw [3, 4, 5] (fun i _ _ wr => ∃ j : Nat, j ≤ n ∧ i = .int .i64 j ∧ Hid (R = rep (P.drop j)) ∧ Hid (∃ q, wr = w.drewN q)) (fun i _ _ _ => n - (intOf i).toNat)
    case atStart => exact ⟨0, Nat.zero_le _, rfl, HR, 0, rfl⟩
    case round =>
      obtain ⟨j, hj, rfl, HJ, HQ⟩ := hrel
      by_cases hlt : j < n
      · obtain ⟨d, hd⟩ : ∃ d, d = P.getD j 0 := ⟨_, rfl⟩
        have q0 : wr.cell? ⟨b, o + j, none⟩ = some (.int .i64 d) := (by obtain ⟨q, hq⟩ := HQ.out; rw [hq, hd]; exact HK.out j hlt)
        have db := HD.out j hlt
        rw [← hd] at db
        have HDR : Hid (P.drop j = d :: P.drop (j + 1)) := (by show _ = _; rw [hd]; exact drop_cons P j (by rw [HP.out]; exact hlt))
        clear hd
        have i0 : (0 : Int) ≤ (j : Int) := by omega
        have i1 : (j : Int) < (n : Int) := by omega
        have RPA : Hid (∀ w, Calls Try.prog 23 #[.int .i64 d] w fun e w' => e = .returned (.bool (rp d)) ∧ w' = w) := fun w => rp_any d w (by omega) (by omega)
        cases hr : rp d
        · have H1 : Hid (R = rep (P.drop (j + 1))) := (by show _ = _; rw [HJ.out, HDR.out, rep_no hr])
          rw [hr] at RPA
          clear hr
          go_wp2_with (go_at_call 23; refine (RPA.out _).mono ?_; rintro e w' ⟨rfl, hw⟩; have hw' := hw.symm; subst hw')
          go_roundw
          case rel => exact ⟨j + 1, by omega, by go_num, H1, HQ⟩
          case measure => simp [intOf]; omega
        · have xb := xo_bd hr
          have rb := (rp_iff d).1 hr
          have E1 : Hid (R = ((decide (xo d ≤ (P.drop (j + 1)).length) && rep ((P.drop (j + 1)).take (xo d))) && rep ((P.drop (j + 1)).drop (xo d)))) := (by show _ = _; rw [HJ.out, HDR.out, rep_yes hr])
          rw [hr] at RPA
          have XA : Hid (∀ w, Calls Try.prog 24 #[.int .i64 d] w fun e w' => e = .returned (.int .i64 (xo d : Nat)) ∧ w' = w) := fun w => xo_any d w rb.1 rb.2
          obtain ⟨x, hx⟩ : ∃ x, x = xo d := ⟨_, rfl⟩
          rw [← hx] at XA E1 xb
          clear hr hx
          obtain ⟨j1, hj1⟩ : ∃ j1, j1 = j + 1 := ⟨_, rfl⟩
          have i2 : (j : Int) + 1 = (j1 : Int) := by omega
          have i2' : IntKind.i64.wrap (j1 : Int) = (j1 : Int) := IntWalk.i64_in _ (by omega)
          have i3 : (j1 : Int) ≤ (n : Int) := by omega
          have i4 : (0 : Int) ≤ (j1 : Int) := by omega
          have HJ1 : Hid (j1 = j + 1) := hj1
          rw [← hj1] at E1
          have LL : Hid ((P.drop j1).length = n - j1) := (by show _ = _; rw [List.length_drop, HP.out])
          by_cases hxl : x ≤ n - j1
          · have hcj : ¬ (cap = j1) := by omega
            have hj0 : ¬ (j1 = 0) := by omega
            have RC : Hid (∀ q, Calls Try.prog 16 #[.slice (some ⟨b, o + j1, none⟩) x (cap - j1)] (w.drewN q) fun e w' => e = .returned (.bool (rep ((P.drop j1).take x))) ∧ ∃ q', w' = (w.drewN q).drewN q') := fun q => by
              refine IH.out (w.drewN q) b (o + j1) x (cap - j1) ((P.drop j1).take x) (by omega) (by rw [List.length_take, LL.out]; omega) (by omega) (by have := HCM.out; omega) (by omega) ?_ ?_
              · intro i hi
                have := HK.out (j1 + i) (by omega)
                rw [← Nat.add_assoc] at this
                show w.cell? ⟨b, o + j1 + i, none⟩ = _
                rw [this]
                simp [List.getD_eq_getElem?_getD, hi]
              · intro i hi
                have := HD.out (j1 + i) (by omega)
                simp [List.getD_eq_getElem?_getD, hi] at this ⊢
                exact this
            obtain ⟨nb, hnb⟩ : ∃ nb, nb = n - j1 := ⟨_, rfl⟩
            obtain ⟨cb, hcb⟩ : ∃ cb, cb = cap - j1 := ⟨_, rfl⟩
            have g1 : ¬ ((nb : Int) < (x : Int)) := by omega
            have g1' : decide ((nb : Int) < (x : Int)) = false := by simp; omega
            have g2 : (0 : Int) ≤ (x : Int) := by omega
            have g3 : (x : Int) ≤ (cb : Int) := by omega
            rw [← hcb] at RC
            have HNB : Hid (nb = n - j1 ∧ cb = cap - j1) := ⟨hnb, hcb⟩
            have hxn : j + x + 1 ≤ n := by omega
            have ER : Hid (R = (rep ((P.drop j1).take x) && rep (P.drop (j + x + 1)))) := (by
              show _ = _
              rw [E1.out, LL.out, List.drop_drop, show decide (x ≤ n - j1) = true by simp; omega, Bool.true_and, show j1 + x = j + x + 1 by omega])
            clear hj1 hnb hcb E1
            go_wp2_with (go_at_call 23; refine (RPA.out _).mono ?_; rintro e w' ⟨rfl, hw⟩; have hw' := hw.symm; subst hw')
            go_quiet ((go_at_call 24; exact Calls.quiet_of_same (XA.out _)))
            rw [← HNB.out.1, ← HNB.out.2]
            have RC2 : Hid (Calls Try.prog 16 #[.slice (some ⟨b, o + j1, none⟩) x cb] (wr.drewN nq) fun e w' => e = .returned (.bool (rep ((P.drop j1).take x))) ∧ ∃ q', w' = w.drewN q') := (by
              obtain ⟨q, hq⟩ := HQ.out
              show Calls _ _ _ _ _
              rw [hq, World.drewN_drewN]
              exact (RC.out (q + nq)).mono fun e w' ⟨he, q', hw⟩ => ⟨he, q + nq + q', by rw [hw, World.drewN_drewN]⟩)
            cases hrr : rep ((P.drop j1).take x)
            · rw [hrr] at RC2
              have RF : Hid (R = false) := (by show _ = _; rw [ER.out, hrr]; rfl)
              clear hrr
              go_wp2_with (go_at_call 16; refine RC2.out.mono ?_; rintro e w' ⟨rfl, hw⟩; have HW : Hid (∃ q', w' = w.drewN q') := hw; clear hw)
              go_ret
              exact ⟨congrArg (fun x => Ending.returned (Value.bool x)) RF.out.symm, HW.out⟩
            · rw [hrr] at RC2
              have RN : Hid (R = rep (P.drop (j + x + 1))) := (by show _ = _; rw [ER.out, hrr]; rfl)
              clear hrr
              go_wp2_with (go_at_call 16; refine RC2.out.mono ?_; rintro e w' ⟨rfl, hw⟩; have HW : Hid (∃ q', w' = w.drewN q') := hw; clear hw)
              go_roundw
              case rel => exact ⟨j + x + 1, by omega, by go_num, RN, HW⟩
              case measure => simp [intOf]; omega
          · have RF : Hid (R = false) := (by
              show _ = _
              rw [E1.out, LL.out, show decide (x ≤ n - j1) = false by simp; omega]
              rfl)
            have HQ2 : Hid (∀ nq, ∃ q, wr.drewN nq = w.drewN q) := fun nq => by obtain ⟨q, hq⟩ := HQ.out; exact ⟨q + nq, by rw [hq, World.drewN_drewN]⟩
            obtain ⟨nb, hnb⟩ : ∃ nb, nb = n - j1 := ⟨_, rfl⟩
            have g1 : (nb : Int) < (x : Int) := by omega
            have HNB : Hid (nb = n - j1) := hnb
            clear hj1 E1
            by_cases hcj : cap = j1
            · have hnn : n - j1 = 0 := by omega
              have g0 : (0 : Int) < (x : Int) := by omega
              clear hnb g1
              go_wp2_with (go_at_call 23; refine (RPA.out _).mono ?_; rintro e w' ⟨rfl, hw⟩; have hw' := hw.symm; subst hw')
              go_quiet ((go_at_call 24; exact Calls.quiet_of_same (XA.out _)))
              go_wp2_with fail
              go_ret
              exact ⟨congrArg (fun x => Ending.returned (Value.bool x)) RF.out.symm, HQ2.out _⟩
            · have hj0 : ¬ (j1 = 0) := by have := HJ1.out; omega
              clear hnb
              go_wp2_with (go_at_call 23; refine (RPA.out _).mono ?_; rintro e w' ⟨rfl, hw⟩; have hw' := hw.symm; subst hw')
              go_quiet ((go_at_call 24; exact Calls.quiet_of_same (XA.out _)))
              rw [← HNB.out]
              go_wp2_with fail
              go_ret
              exact ⟨congrArg (fun x => Ending.returned (Value.bool x)) RF.out.symm, HQ2.out _⟩
      · have hjn : j = n := by omega
        subst hjn
        have a1 : ¬ ((j : Int) < (j : Int)) := by omega
        have R1 : Hid (R = true) := (by show _ = _; rw [HJ.out, List.drop_eq_nil_of_le (by rw [HP.out]; exact Nat.le_refl _), rep_nil])
        go_wp2_with fail
        go_ret
        exact ⟨congrArg (fun x => Ending.returned (Value.bool x)) R1.out.symm, HQ.out⟩
end Go.Proofs.Yteidipdjhkmgpaa.Lists
