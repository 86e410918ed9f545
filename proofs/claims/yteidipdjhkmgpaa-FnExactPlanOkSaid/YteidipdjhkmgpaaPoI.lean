/- Whether all that a plan names fits, in the model. -/
import Derived.Test.YteidipdjhkmgpaaPoH
namespace Go.Proofs.Yteidipdjhkmgpaa.Lists
open Go.ChangeShapes Go.WideShapes Go.ChangeAt Go.RowKit

theorem fits_elem {T : El} {d : Int} {Q : List Int} (h : 1 ≤ d ∧ d < 100000) : fits T (d :: Q) = (has T d && fits T Q) := by rw [fits, if_pos h]
theorem fits_rep {T : El} {d : Int} {Q : List Int} (h : 101000 ≤ d ∧ d < 200000) : fits T (d :: Q) = ((decide (d % 1000 ≤ 255) && (decide (xo d ≤ Q.length) && fits T (Q.take (xo d)))) && fits T (Q.drop (xo d))) := by rw [fits, if_neg (by omega), if_pos h]
theorem fits_chg {T : El} {d : Int} {Q : List Int} (h : 201000 ≤ d ∧ d < 203000) : fits T (d :: Q) = (decide (d % 1000 ≤ 255) && fits T Q) := by rw [fits, if_neg (by omega), if_neg (by omega), if_pos h]
theorem fits_bad {T : El} {d : Int} {Q : List Int} (h1 : ¬ (1 ≤ d ∧ d < 100000)) (h2 : ¬ (101000 ≤ d ∧ d < 200000)) (h3 : ¬ (201000 ≤ d ∧ d < 203000)) : fits T (d :: Q) = false := by rw [fits, if_neg h1, if_neg h2, if_neg h3]

set_option maxRecDepth 20000 in
set_option maxHeartbeats 2000000 in
theorem sfits_any (T : El) : ∀ (m : Nat) (w : World) (tv : Value) (b o n cap : Nat) (P : List Int), n ≤ m → P.length = n → n ≤ cap → cap ≤ maxLen → n ≤ 100 → b < w.heap.size → ReadsE w tv T → (∀ i, i < n → w.cell? ⟨b, o + i, none⟩ = some (.int .i64 (P.getD i 0))) →
    Calls Try.prog 12 #[tv, .slice (some ⟨b, o, none⟩) n cap] w fun e w' => e = .returned (.bool (fits T P)) ∧ Below w.heap.size w w' := by
  intro m
  induction m with
  | zero =>
    intro w tv b o n cap P hn hP hc hcm h100 hb hT K
    have hn0 : n = 0 := by omega
    subst hn0
    have e : P = [] := List.eq_nil_of_length_eq_zero hP
    subst e
    rw [fits_nil]
    obtain ⟨ta, tc, rfl⟩ := hT.form
    clear hT K
    go_enter Try.func12, Try.ntmps12
    go_wp2_with fail
    go_loop [5, 6, 7, 8, 9] (fun i _ _ _ _ => i = .int .i64 0) (fun _ _ _ _ _ => 0)
    case atStart => rfl
    case round =>
      subst hrel
      go_wp2_with fail
      go_ret
      exact ⟨rfl, Below.refl _ _⟩
  | succ m ih =>
    intro w tv b o n cap P hn hP hc hcm h100 hb hT K
    obtain ⟨ta, tc, rfl⟩ := hT.form
    have IH : Hid (∀ (w : World) (tv : Value) (b o n cap : Nat) (P : List Int), n ≤ m → P.length = n → n ≤ cap → cap ≤ maxLen → n ≤ 100 → b < w.heap.size → ReadsE w tv T → (∀ i, i < n → w.cell? ⟨b, o + i, none⟩ = some (.int .i64 (P.getD i 0))) → Calls Try.prog 12 #[tv, .slice (some ⟨b, o, none⟩) n cap] w fun e w' => e = .returned (.bool (fits T P)) ∧ Below w.heap.size w w') := ih
    have HK : Hid (b < w.heap.size ∧ ∀ i, i < n → w.cell? ⟨b, o + i, none⟩ = some (.int .i64 (P.getD i 0))) := ⟨hb, K⟩
    have HP : Hid (P.length = n) := hP
    have HCM : Hid (cap ≤ maxLen) := hcm
    have HT : Hid (ReadsE w (.slice ta T.length tc) T) := hT
    obtain ⟨R, hR⟩ : ∃ r, r = fits T P := ⟨_, rfl⟩
    rw [← hR]
    have HR : Hid (R = fits T (P.drop 0)) := hR
    unfold maxLen at hcm
    clear K hP hR ih hT hb
    go_enter Try.func12, Try.ntmps12
    go_wp2_with fail
    go_loopw [5, 6, 7, 8, 9] (fun i _ _ _ _ wr => ∃ j : Nat, j ≤ n ∧ i = .int .i64 j ∧ Hid (R = fits T (P.drop j)) ∧ Hid (Below w.heap.size w wr)) (fun i _ _ _ _ _ => n - (intOf i).toNat)
    case atStart => exact ⟨0, Nat.zero_le _, rfl, HR, Below.refl _ _⟩
    case round =>
      obtain ⟨j, hj, rfl, HJ, BR⟩ := hrel
      by_cases hlt : j < n
      · obtain ⟨d, hd⟩ : ∃ d, d = P.getD j 0 := ⟨_, rfl⟩
        have q0 : wr.cell? ⟨b, o + j, none⟩ = some (.int .i64 d) := (by rw [BR.out.cell (p := ⟨b, o + j, none⟩) HK.out.1, hd]; exact HK.out.2 j hlt)
        have HDR : Hid (P.drop j = d :: P.drop (j + 1)) := (by show _ = _; rw [hd]; exact drop_cons P j (by rw [HP.out]; exact hlt))
        clear hd
        have i0 : (0 : Int) ≤ (j : Int) := by omega
        have i1 : (j : Int) < (n : Int) := by omega
        by_cases c1 : 1 ≤ d ∧ d < 100000
        · obtain ⟨c1a, c1b⟩ := c1
          have ER : Hid (R = (has T d && fits T (P.drop (j + 1)))) := (by show _ = _; rw [HJ.out, HDR.out, fits_elem ⟨c1a, c1b⟩])
          have SL : Hid (Calls Try.prog 19 #[.slice ta T.length tc, .int .i64 d] wr fun e w' => (∃ c x s r, e = .returned (.tuple #[el c x s r, .bool (has T d)])) ∧ Below wr.heap.size wr w') := slook_any wr _ T d (HT.out.on BR.out)
          cases hh : has T d
          · have RF : Hid (R = false) := (by show _ = _; rw [ER.out, hh]; rfl)
            rw [hh] at SL
            clear hh ER
            go_wp2_with fail
            refine SL.out.mono ?_
            rintro e w1 ⟨⟨c, x, s, r, rfl⟩, b1⟩
            have B1 : Hid (Below w.heap.size w (w1.alloc (.cells #[.int .i64 c, .int .i64 x, .int .i64 s, .int .i64 r] 34))) := (BR.out.trans (b1.mono BR.out.size)).alloc (Nat.le_trans BR.out.size b1.size) _
            clear b1
            go_wp2_with fail
            go_ret
            exact ⟨congrArg (fun x => Ending.returned (Value.bool x)) RF.out.symm, B1.out⟩
          · have RN : Hid (R = fits T (P.drop (j + 1))) := (by show _ = _; rw [ER.out, hh]; rfl)
            rw [hh] at SL
            clear hh ER
            go_wp2_with fail
            refine SL.out.mono ?_
            rintro e w1 ⟨⟨c, x, s, r, rfl⟩, b1⟩
            have B1 : Hid (Below w.heap.size w (w1.alloc (.cells #[.int .i64 c, .int .i64 x, .int .i64 s, .int .i64 r] 34))) := (BR.out.trans (b1.mono BR.out.size)).alloc (Nat.le_trans BR.out.size b1.size) _
            clear b1
            go_wp2_with fail
            go_roundw
            case rel => exact ⟨j + 1, by omega, by go_num, RN, B1⟩
            case measure => simp [intOf]; omega
        · by_cases c2 : 101000 ≤ d ∧ d < 200000
          · obtain ⟨c2a, c2b⟩ := c2
            have c1' : ¬ (d < 100000) := by omega
            have c1'' : decide (d < 100000) = false := by simp; omega
            have c1d : 1 ≤ d := by omega
            have xb := xo_bd ((rp_iff d).2 ⟨c2a, c2b⟩)
            have ER : Hid (R = ((decide (d % 1000 ≤ 255) && (decide (xo d ≤ (P.drop (j + 1)).length) && fits T ((P.drop (j + 1)).take (xo d)))) && fits T ((P.drop (j + 1)).drop (xo d)))) := (by show _ = _; rw [HJ.out, HDR.out, fits_rep ⟨c2a, c2b⟩])
            have ex : (d - 100000) / 1000 = ((xo d : Nat) : Int) := by unfold xo; omega
            obtain ⟨x, hx⟩ : ∃ x, x = xo d := ⟨_, rfl⟩
            rw [← hx] at ER xb ex
            have LL : Hid ((P.drop (j + 1)).length = n - (j + 1)) := (by show _ = _; rw [List.length_drop, HP.out])
            clear hx c1
            by_cases hm : d % 1000 ≤ 255
            · have hm1 : ¬ (255 < d % 1000) := by omega
              have hm2 : decide (255 < d % 1000) = false := by simp; omega
              by_cases hx : j + x < n
              · have ER2 : Hid (R = (fits T ((P.drop (j + 1)).take x) && fits T (P.drop (j + x + 1)))) := (by
                  show _ = _
                  rw [ER.out, LL.out, List.drop_drop, show decide (x ≤ n - (j + 1)) = true by simp; omega, show decide (d % 1000 ≤ 255) = true by simp; omega, Bool.true_and, Bool.true_and, show j + 1 + x = j + x + 1 by omega])
                obtain ⟨j1, hj1⟩ : ∃ j1, j1 = j + 1 := ⟨_, rfl⟩
                obtain ⟨jx, hjx⟩ : ∃ jx, jx = j1 + x := ⟨_, rfl⟩
                have e1 : (j : Int) + 1 = (j1 : Int) := by omega
                have e2 : (j1 : Int) + (x : Int) = (jx : Int) := by omega
                have e3 : ¬ ((n : Int) ≤ (j : Int) + (x : Int)) := by omega
                have e3' : decide ((n : Int) ≤ (j : Int) + (x : Int)) = false := by simp; omega
                have e4 : (0 : Int) ≤ (j1 : Int) := by omega
                have e5 : (j1 : Int) ≤ (jx : Int) := by omega
                have e6 : (jx : Int) ≤ (cap : Int) := by omega
                have e7 : jx - j1 = x := by omega
                have hcj : ¬ (cap = j1) := by omega
                have hj0 : ¬ (j1 = 0) := by omega
                obtain ⟨cb, hcb⟩ : ∃ cb, cap - j1 = cb := ⟨_, rfl⟩
                have RC : Hid (Calls Try.prog 12 #[.slice ta T.length tc, .slice (some ⟨b, o + j1, none⟩) x cb] wr fun e w' => e = .returned (.bool (fits T ((P.drop (j + 1)).take x))) ∧ Below wr.heap.size wr w') := (by
                  refine IH.out wr _ b (o + j1) x cb ((P.drop (j + 1)).take x) (by omega) (by rw [List.length_take, LL.out]; omega) (by omega) (by have := HCM.out; omega) (by omega) (Nat.lt_of_lt_of_le HK.out.1 BR.out.size) (HT.out.on BR.out) ?_
                  intro i hi
                  rw [BR.out.cell (p := ⟨b, o + j1 + i, none⟩) HK.out.1]
                  have := HK.out.2 (j1 + i) (by omega)
                  rw [← Nat.add_assoc] at this
                  rw [this, hj1]
                  simp [List.getD_eq_getElem?_getD, hi])
                have hjn : j + x + 1 ≤ n := by omega
                clear hj1 hjx ER LL
                cases hf : fits T ((P.drop (j + 1)).take x)
                · have RF : Hid (R = false) := (by show _ = _; rw [ER2.out, hf]; rfl)
                  rw [hf] at RC
                  clear hf ER2
                  go_wp2_with (go_at_call 12; refine RC.out.mono ?_; rintro e w1 ⟨rfl, b1⟩; have B1 : Hid (Below w.heap.size w w1) := BR.out.trans (b1.mono BR.out.size); clear b1)
                  go_ret
                  exact ⟨congrArg (fun x => Ending.returned (Value.bool x)) RF.out.symm, B1.out⟩
                · have RN : Hid (R = fits T (P.drop (j + x + 1))) := (by show _ = _; rw [ER2.out, hf]; rfl)
                  rw [hf] at RC
                  clear hf ER2
                  go_wp2_with (go_at_call 12; refine RC.out.mono ?_; rintro e w1 ⟨rfl, b1⟩; have B1 : Hid (Below w.heap.size w w1) := BR.out.trans (b1.mono BR.out.size); clear b1)
                  go_roundw
                  case rel => exact ⟨j + x + 1, by omega, by go_num, RN, B1⟩
                  case measure => simp [intOf]; omega
              · have RF : Hid (R = false) := (by
                  show _ = _
                  rw [ER.out, LL.out, show decide (x ≤ n - (j + 1)) = false by simp; omega]
                  simp)
                have e3 : (n : Int) ≤ (j : Int) + (x : Int) := by omega
                clear ER LL
                go_wp2_with fail
                go_ret
                exact ⟨congrArg (fun x => Ending.returned (Value.bool x)) RF.out.symm, BR.out⟩
            · have RF : Hid (R = false) := (by
                show _ = _
                rw [ER.out, show decide (d % 1000 ≤ 255) = false by simp; omega]
                rfl)
              have hm1 : 255 < d % 1000 := by omega
              clear ER LL
              go_wp2_with fail
              go_ret
              exact ⟨congrArg (fun x => Ending.returned (Value.bool x)) RF.out.symm, BR.out⟩
          · by_cases c3 : 201000 ≤ d ∧ d < 203000
            · obtain ⟨c3a, c3b⟩ := c3
              have c1d : 1 ≤ d := by omega
              have c1' : ¬ (d < 100000) := by omega
              have c1'' : decide (d < 100000) = false := by simp; omega
              have c2d : 101000 ≤ d := by omega
              have c2' : ¬ (d < 200000) := by omega
              have c2'' : decide (d < 200000) = false := by simp; omega
              have ER : Hid (R = (decide (d % 1000 ≤ 255) && fits T (P.drop (j + 1)))) := (by show _ = _; rw [HJ.out, HDR.out, fits_chg ⟨c3a, c3b⟩])
              clear c1 c2
              by_cases hm : d % 1000 ≤ 255
              · have RN : Hid (R = fits T (P.drop (j + 1))) := (by show _ = _; rw [ER.out, show decide (d % 1000 ≤ 255) = true by simp; omega]; rfl)
                have hm1 : ¬ (255 < d % 1000) := by omega
                clear ER
                go_wp2_with fail
                go_roundw
                case rel => exact ⟨j + 1, by omega, by go_num, RN, BR⟩
                case measure => simp [intOf]; omega
              · have RF : Hid (R = false) := (by show _ = _; rw [ER.out, show decide (d % 1000 ≤ 255) = false by simp; omega]; rfl)
                have hm1 : 255 < d % 1000 := by omega
                clear ER
                go_wp2_with fail
                go_ret
                exact ⟨congrArg (fun x => Ending.returned (Value.bool x)) RF.out.symm, BR.out⟩
            · have RF : Hid (R = false) := (by show _ = _; rw [HJ.out, HDR.out, fits_bad c1 c2 c3])
              by_cases k1 : 1 ≤ d
              · have c1' : ¬ (d < 100000) := by omega
                have c1'' : decide (d < 100000) = false := by simp; omega
                by_cases k2 : 101000 ≤ d
                · have c2' : ¬ (d < 200000) := by omega
                  have c2'' : decide (d < 200000) = false := by simp; omega
                  by_cases k3 : 201000 ≤ d
                  · have c3' : ¬ (d < 203000) := by omega
                    have c3'' : decide (d < 203000) = false := by simp; omega
                    clear c1 c2 c3
                    go_wp2_with fail
                    go_ret
                    exact ⟨congrArg (fun x => Ending.returned (Value.bool x)) RF.out.symm, BR.out⟩
                  · have k3' : decide (201000 ≤ d) = false := by simp; omega
                    clear c1 c2 c3
                    go_wp2_with fail
                    go_ret
                    exact ⟨congrArg (fun x => Ending.returned (Value.bool x)) RF.out.symm, BR.out⟩
                · have k2' : decide (101000 ≤ d) = false := by simp; omega
                  have k3 : ¬ (201000 ≤ d) := by omega
                  have k3' : decide (201000 ≤ d) = false := by simp; omega
                  clear c1 c2 c3
                  go_wp2_with fail
                  go_ret
                  exact ⟨congrArg (fun x => Ending.returned (Value.bool x)) RF.out.symm, BR.out⟩
              · have k1' : decide (1 ≤ d) = false := by simp; omega
                have k2 : ¬ (101000 ≤ d) := by omega
                have k2' : decide (101000 ≤ d) = false := by simp; omega
                have k3 : ¬ (201000 ≤ d) := by omega
                have k3' : decide (201000 ≤ d) = false := by simp; omega
                clear c1 c2 c3
                go_wp2_with fail
                go_ret
                exact ⟨congrArg (fun x => Ending.returned (Value.bool x)) RF.out.symm, BR.out⟩
      · have hjn : j = n := by omega
        subst hjn
        have a1 : ¬ ((j : Int) < (j : Int)) := by omega
        have R1 : Hid (R = true) := (by show _ = _; rw [HJ.out, List.drop_eq_nil_of_le (by rw [HP.out]; exact Nat.le_refl _), fits_nil])
        go_wp2_with fail
        go_ret
        exact ⟨congrArg (fun x => Ending.returned (Value.bool x)) R1.out.symm, BR.out⟩
end Go.Proofs.Yteidipdjhkmgpaa.Lists
