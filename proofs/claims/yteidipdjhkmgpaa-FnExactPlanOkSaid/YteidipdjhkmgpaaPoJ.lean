/- PlanOk, in the model and in the program; the law FnExactPlanOk walked. -/
import Derived.Test.YteidipdjhkmgpaaPoI
namespace Go.Proofs.Yteidipdjhkmgpaa.Lists
open Go.ChangeShapes Go.WideShapes Go.ChangeAt Go.RowKit

def pOk (T : El) (P : List Int) : Bool := tOk T && (decide (P.length ≤ 100) && fits T P)
theorem dOk_bd {T : El} (hok : ∀ i, i < T.length → eOk T i = true) {d : Int} (h : dOk T d = true) : 1 ≤ d ∧ d < 300000 := by
  unfold dOk at h
  by_cases hd : d ≤ 99999
  · rw [if_pos hd] at h
    obtain ⟨i, hi, e⟩ := has_ex h
    have := eOk_code (hok i hi)
    omega
  · rw [if_neg hd] at h
    simp only [Bool.and_eq_true, Bool.or_eq_true] at h
    rcases h.2 with h2 | h2 | h2
    · have := (rp_iff d).1 h2; omega
    · have : d / 1000 = 201 := by simpa using h2
      omega
    · have : d / 1000 = 202 := by simpa using h2
      omega

set_option maxHeartbeats 1000000 in
theorem splan_any (w : World) (tv : Value) (T : El) (b n cap : Nat) (P : List Int) (hT : ReadsE w tv T) (hTl : T.length ≤ 1048576) (hP : P.length = n) (hc : n ≤ cap) (hcm : cap ≤ maxLen) (hb : b < w.heap.size) (K : ∀ i, i < n → w.cell? ⟨b, 0 + i, none⟩ = some (.int .i64 (P.getD i 0))) :
    Calls Try.prog 5 #[tv, .slice (some ⟨b, 0, none⟩) n cap] w fun e w' => e = .returned (.bool (pOk T P)) ∧ Below w.heap.size w w' := by
  have S1 : Hid (Calls Try.prog 11 #[tv] w fun e w' => e = .returned (.bool (tOk T)) ∧ Below w.heap.size w w') := stab_any w tv T hT hTl
  have HT : Hid (ReadsE w tv T) := hT
  obtain ⟨ta, tc, rfl⟩ := hT.form
  have HF : Hid (n ≤ 100 → ∀ w', Below w.heap.size w w' → Calls Try.prog 12 #[.slice ta T.length tc, .slice (some ⟨b, 0, none⟩) n cap] w' fun e w'' => e = .returned (.bool (fits T P)) ∧ Below w'.heap.size w' w'') := fun h100 w' hw' => sfits_any T n w' _ b 0 n cap P (Nat.le_refl _) hP hc hcm h100 (Nat.lt_of_lt_of_le hb hw'.size) (HT.out.on hw') (fun i hi => by rw [hw'.cell (p := ⟨b, 0 + i, none⟩) hb]; exact K i hi)
  have HP : Hid (P.length = n) := hP
  unfold maxLen at hcm
  clear K hT hP
  cases h1 : tOk T
  · have e : pOk T P = false := by unfold pOk; rw [h1]; rfl
    rw [e]
    rw [h1] at S1
    clear h1 e
    go_enter Try.func5, Try.ntmps5
    go_wp2_with (go_at_call 11; refine S1.out.mono ?_; rintro e w1 ⟨rfl, b1⟩; have B1 : Hid (Below w.heap.size w w1) := b1; clear b1)
    go_ret
    exact ⟨rfl, B1.out⟩
  · rw [h1] at S1
    by_cases h2 : n ≤ 100
    · have e : pOk T P = fits T P := by unfold pOk; rw [h1, HP.out, show decide (n ≤ 100) = true by simp; omega]; rfl
      rw [e]
      have i1 : (n : Int) ≤ 100 := by omega
      obtain ⟨R, hR⟩ : ∃ r, r = fits T P := ⟨_, rfl⟩
      rw [← hR] at HF ⊢
      have HF2 : Hid (∀ w', Below w.heap.size w w' → Calls Try.prog 12 #[.slice ta T.length tc, .slice (some ⟨b, 0, none⟩) n cap] w' fun e w'' => e = .returned (.bool R) ∧ Below w'.heap.size w' w'') := HF.out h2
      clear h1 e hR HF
      go_enter Try.func5, Try.ntmps5
      go_wp2_with (first | (go_at_call 11; refine S1.out.mono ?_; rintro e w1 ⟨rfl, b1⟩; have B1 : Hid (Below w.heap.size w w1) := b1; clear b1) | (go_at_call 12; refine (HF2.out _ B1.out).mono ?_; rintro e w2 ⟨rfl, b2⟩; have B2 : Hid (Below w.heap.size w w2) := B1.out.trans (b2.mono B1.out.size); clear b2))
      go_ret
      exact ⟨rfl, B2.out⟩
    · have e : pOk T P = false := by unfold pOk; rw [HP.out, show decide (n ≤ 100) = false by simp; omega]; simp
      rw [e]
      have i1 : ¬ ((n : Int) ≤ 100) := by omega
      have i1' : decide ((n : Int) ≤ 100) = false := by simp; omega
      clear h1 e
      go_enter Try.func5, Try.ntmps5
      go_wp2_with (go_at_call 11; refine S1.out.mono ?_; rintro e w1 ⟨rfl, b1⟩; have B1 : Hid (Below w.heap.size w w1) := b1; clear b1)
      go_ret
      exact ⟨rfl, B1.out⟩

set_option maxHeartbeats 1000000 in
theorem iplan_any (w : World) (tv : Value) (T : El) (b n cap : Nat) (P : List Int) (hT : ReadsE w tv T) (hTl : T.length ≤ 1048576) (hP : P.length = n) (hc : n ≤ cap) (hcm : cap ≤ maxLen) (hb : b < w.heap.size) (K : ∀ i, i < n → w.cell? ⟨b, 0 + i, none⟩ = some (.int .i64 (P.getD i 0))) (hPb : ∀ i, i < n → P.getD i 0 < 9223372036854775808) :
    Calls Try.prog 8 #[tv, .slice (some ⟨b, 0, none⟩) n cap] w fun e w' => e = .returned (.bool (pOk T P)) ∧ Below w.heap.size w w' := by
  have S1 : Hid (Calls Try.prog 14 #[tv] w fun e w' => e = .returned (.bool (tOk T)) ∧ Below w.heap.size w w') := itab_any w tv T hT hTl
  have HT : Hid (ReadsE w tv T) := hT
  obtain ⟨ta, tc, rfl⟩ := hT.form
  have HK : Hid (b < w.heap.size ∧ ∀ i, i < n → w.cell? ⟨b, 0 + i, none⟩ = some (.int .i64 (P.getD i 0))) := ⟨hb, K⟩
  have HP : Hid (P.length = n) := hP
  have HPB : Hid (∀ i, i < n → P.getD i 0 < 9223372036854775808) := hPb
  have HCM : Hid (cap ≤ maxLen) := hcm
  unfold maxLen at hcm
  clear K hT hP hb hPb
  cases h1 : tOk T
  · have e : pOk T P = false := by unfold pOk; rw [h1]; rfl
    rw [e]
    rw [h1] at S1
    clear h1 e
    go_enter Try.func8, Try.ntmps8
    go_wp2_with (go_at_call 14; refine S1.out.mono ?_; rintro e w1 ⟨rfl, b1⟩; have B1 : Hid (Below w.heap.size w w1) := b1; clear b1)
    go_ret
    exact ⟨rfl, B1.out⟩
  · rw [h1] at S1
    obtain ⟨tl, tok⟩ := tOk_iff.1 h1
    by_cases h2 : n ≤ 100
    · have e : pOk T P = (P.all (dOk T) && rep P) := by unfold pOk; rw [h1, HP.out, show decide (n ≤ 100) = true by simp; omega, fits_eq tok _ P (Nat.le_refl _)]; rfl
      have i1 : ¬ ((100 : Int) < (n : Int)) := by omega
      have i1' : decide ((100 : Int) < (n : Int)) = false := by simp; omega
      obtain ⟨R, hR⟩ : ∃ r, r = pOk T P := ⟨_, rfl⟩
      rw [← hR]
      have HR : Hid (R = (P.all (dOk T) && rep P)) := hR.trans e
      have DO : Hid (∀ w' (d : Int), d < 9223372036854775808 → Below w.heap.size w w' → Calls Try.prog 15 #[.slice ta T.length tc, .int .i64 d] w' fun e w'' => e = .returned (.bool (dOk T d)) ∧ Below w'.heap.size w' w'') := fun w' d hd hw' => dok_any w' _ T d hd (HT.out.on hw') tok tl
      have RO : Hid ((∀ i, i < n → dOk T (P.getD i 0) = true) → ∀ w', Below w.heap.size w w' → Calls Try.prog 16 #[.slice (some ⟨b, 0, none⟩) n cap] w' fun e w'' => e = .returned (.bool (rep P)) ∧ ∃ q, w'' = w'.drewN q) := fun hall w' hw' => irep_any n w' b 0 n cap P (Nat.le_refl _) HP.out hc HCM.out h2 (fun i hi => by rw [hw'.cell (p := ⟨b, 0 + i, none⟩) HK.out.1]; exact HK.out.2 i hi) (fun i hi => dOk_bd tok (hall i hi))
      clear h1 e hR tok
      go_enter Try.func8, Try.ntmps8
      go_wp2_with (go_at_call 14; refine S1.out.mono ?_; rintro e w1 ⟨rfl, b1⟩; have B1 : Hid (Below w.heap.size w w1) := b1; clear b1)
      go_loopw [6, 17] (fun _ i wr => ∃ j : Nat, j ≤ n ∧ i = .int .i64 j ∧ Hid (∀ i, i < j → dOk T (P.getD i 0) = true) ∧ Hid (Below w.heap.size w wr)) (fun _ i _ => n - (intOf i).toNat)
      case atStart => exact ⟨0, Nat.zero_le _, rfl, fun i hi => by omega, B1⟩
      case round =>
        obtain ⟨j, hj, rfl, HJ, BR⟩ := hrel
        by_cases hlt : j < n
        · obtain ⟨d, hd⟩ : ∃ d, d = P.getD j 0 := ⟨_, rfl⟩
          have q0 : wr.cell? ⟨b, 0 + j, none⟩ = some (.int .i64 d) := (by rw [BR.out.cell (p := ⟨b, 0 + j, none⟩) HK.out.1, hd]; exact HK.out.2 j hlt)
          rw [Nat.zero_add] at q0
          have HDD : Hid (d = P.getD j 0) := hd
          have DO2 : Hid (Calls Try.prog 15 #[.slice ta T.length tc, .int .i64 d] wr fun e w'' => e = .returned (.bool (dOk T d)) ∧ Below wr.heap.size wr w'') := DO.out wr d (by rw [hd]; exact HPB.out j hlt) BR.out
          clear hd
          have i2 : (0 : Int) ≤ (j : Int) := by omega
          have i3 : (j : Int) < (n : Int) := by omega
          cases hk : dOk T d
          · have RF : Hid (R = false) := (by
              show _ = _
              rw [HR.out, show P.all (dOk T) = false by
                rw [List.all_eq_false]
                exact ⟨d, by rw [HDD.out, List.getD_eq_getElem?_getD, List.getElem?_eq_getElem (by rw [HP.out]; exact hlt)]; exact List.getElem_mem _, by rw [hk]; simp⟩]
              rfl)
            rw [hk] at DO2
            clear hk
            go_wp2_with (go_at_call 15; refine DO2.out.mono ?_; rintro e w2 ⟨rfl, b2⟩; have B2 : Hid (Below w.heap.size w w2) := BR.out.trans (b2.mono BR.out.size); clear b2)
            go_ret
            exact ⟨congrArg (fun x => Ending.returned (Value.bool x)) RF.out.symm, B2.out⟩
          · have HKK : Hid (dOk T d = true) := hk
            rw [hk] at DO2
            clear hk
            go_wp2_with (go_at_call 15; refine DO2.out.mono ?_; rintro e w2 ⟨rfl, b2⟩; have B2 : Hid (Below w.heap.size w w2) := BR.out.trans (b2.mono BR.out.size); clear b2)
            go_roundw
            case rel => exact ⟨j + 1, by omega, by go_num, fun i hi => by
              by_cases e : i = j
              · subst e; rw [← HDD.out]; exact HKK.out
              · exact HJ.out i (by omega), B2⟩
            case measure => simp [intOf]; omega
        · have hjn : j = n := by omega
          subst hjn
          have a1 : ¬ ((j : Int) < (j : Int)) := by omega
          have RE : Hid (R = rep P) := (by
            show _ = _
            rw [HR.out, show P.all (dOk T) = true by
              rw [List.all_eq_true]
              intro z hz
              obtain ⟨i, hi, rfl⟩ := List.mem_iff_getElem.1 hz
              have := HJ.out i (by rw [← HP.out]; exact hi)
              simpa [List.getD_eq_getElem?_getD, List.getElem?_eq_getElem hi] using this]
            rfl)
          have RO2 : Hid (Calls Try.prog 16 #[.slice (some ⟨b, 0, none⟩) j cap] wr fun e w'' => e = .returned (.bool R) ∧ ∃ q, w'' = wr.drewN q) := (by show Calls _ _ _ _ _; rw [RE.out]; exact RO.out HJ.out wr BR.out)
          go_wp2_with (go_at_call 16; refine RO2.out.mono ?_; rintro e w2 ⟨rfl, q, hq⟩; have B2 : Hid (Below w.heap.size w w2) := (by show Below _ _ _; rw [hq]; exact below_drewN BR.out q); clear hq)
          go_ret
          exact ⟨rfl, B2.out⟩
    · have e : pOk T P = false := by unfold pOk; rw [HP.out, show decide (n ≤ 100) = false by simp; omega]; simp
      rw [e]
      have i1 : (100 : Int) < (n : Int) := by omega
      clear h1 e tok
      go_enter Try.func8, Try.ntmps8
      go_wp2_with (go_at_call 14; refine S1.out.mono ?_; rintro e w1 ⟨rfl, b1⟩; have B1 : Hid (Below w.heap.size w w1) := b1; clear b1)
      go_ret
      exact ⟨rfl, B1.out⟩
end Go.Proofs.Yteidipdjhkmgpaa.Lists
