/- Levels: the program's test of limits. -/
import Derived.Test.YtlegcimlhgkibaaLv
namespace Go.Proofs.Ytlegcimlhgkibaa.Lv
open Go.ChangeShapes Go.WideShapes Go.ChangeAt Go.RowKit
open Go.Proofs.Ytlegcimlhgkibaa.Lists Go.Proofs.Ytlegcimlhgkibaa.Al Go.Proofs.Ytlegcimlhgkibaa.Se

set_option maxHeartbeats 2000000 in
theorem ibounds_any (A B : List Int) (vA vB : Value) (w : World) (hA : Lists.Reads w vA A) (hB : Lists.Reads w vB B) (fA : A.length < 9223372036854775808) (fB : B.length < 9223372036854775808) :
    Calls Try.prog 16 #[vA, vB] w fun e w' => e = .returned (.bool (okB A B)) ∧ ∃ m, w' = w.drewN m := by
  have C1 : Hid (Calls Try.prog 17 #[.int .i64 (A.length : Int), .int .i64 1, .int .i64 5] w fun e w' => e = .returned (.bool (inn A.length 1 5)) ∧ w' = w) := i_in _ _ _ w
  have C2 : Hid (Calls Try.prog 23 #[vA, .int .i64 (-100000), .int .i64 100000] w fun e w' => e = .returned (.bool (all5 A)) ∧ w' = w) := iall_any A _ _ vA w hA fA
  have C3 : Hid (Calls Try.prog 23 #[vB, .int .i64 (-100000), .int .i64 100000] w fun e w' => e = .returned (.bool (all5 B)) ∧ w' = w) := iall_any B _ _ vB w hB fB
  unfold okB
  obtain ⟨b, o, hcell, hvv⟩ := reads_at hA
  obtain ⟨b2, o2, hcell2, hvv2⟩ := reads_at hB
  obtain ⟨a, cap, rfl⟩ := hA.form
  obtain ⟨a2, cap2, rfl⟩ := hB.form
  have HCA : Hid (∀ i, i < A.length → w.cell? ⟨b, o + i, none⟩ = some (.int .i64 (A.getD i 0))) := hcell
  have HBA : Hid (0 < A.length → b < w.heap.size ∧ a = some ⟨b, o, none⟩) := fun hi => by
    obtain ⟨h1, c, h2⟩ := hvv hi
    simp at h2
    exact ⟨h1, h2.1⟩
  have HCB : Hid (∀ i, i < B.length → w.cell? ⟨b2, o2 + i, none⟩ = some (.int .i64 (B.getD i 0))) := hcell2
  have HBB : Hid (0 < B.length → b2 < w.heap.size ∧ a2 = some ⟨b2, o2, none⟩) := fun hi => by
    obtain ⟨h1, c, h2⟩ := hvv2 hi
    simp at h2
    exact ⟨h1, h2.1⟩
  clear hcell hvv hcell2 hvv2
  have OY : Hid ((∀ k, k < A.length → bad A B k = false) → okP A B = true) := fun h => okP_yes h
  obtain ⟨bo, hbo⟩ : ∃ bo, okP A B = bo := ⟨_, rfl⟩
  rw [hbo] at OY ⊢
  have HO : Hid (okP A B = bo) := hbo
  by_cases hl : B.length = A.length
  · obtain ⟨n, hn⟩ : ∃ n, n = A.length := ⟨_, rfl⟩
    have HNA : Hid (n = A.length) := hn
    have HNB : Hid (n = B.length) := (by show _ = _; omega)
    have e0 : decide ((B.length : Int) = (A.length : Int)) = true := decide_eq_true (by omega)
    rw [e0, Bool.true_and]
    rw [hl, ← hn]
    rw [← hn] at fA C1 C2 OY
    rw [hl, ← hn] at C3
    have e1 : ((n : Int) != (n : Int)) = false := by simp
    clear hA hB fB hbo hl hn e0
    cases h1 : inn n 1 5
    · rw [h1] at C1
      clear h1
      go_enter Try.func16, Try.ntmps16
      go_wp2_with fail
      refine C1.out.mono ?_
      rintro e w1 ⟨rfl, hw⟩
      subst hw
      go_wp2_with fail
      go_ret
      exact ⟨rfl, 0, rfl⟩
    rw [h1] at C1
    cases h2 : all5 A
    · rw [h2] at C2
      clear h1 h2
      go_enter Try.func16, Try.ntmps16
      go_wp2_with fail
      refine C1.out.mono ?_
      rintro e w1 ⟨rfl, hw⟩
      subst hw
      go_wp2_with fail
      refine C2.out.mono ?_
      rintro e w2 ⟨rfl, hw⟩
      subst hw
      go_wp2_with fail
      go_ret
      exact ⟨rfl, 0, rfl⟩
    rw [h2] at C2
    cases h3 : all5 B
    · rw [h3] at C3
      clear h1 h2 h3
      go_enter Try.func16, Try.ntmps16
      go_wp2_with fail
      refine C1.out.mono ?_
      rintro e w1 ⟨rfl, hw⟩
      subst hw
      go_wp2_with fail
      refine C2.out.mono ?_
      rintro e w2 ⟨rfl, hw⟩
      subst hw
      go_wp2_with fail
      refine C3.out.mono ?_
      rintro e w3 ⟨rfl, hw⟩
      subst hw
      go_wp2_with fail
      go_ret
      exact ⟨rfl, 0, rfl⟩
    rw [h3] at C3
    rw [inn_iff] at h1
    obtain ⟨l1, l2⟩ := h1
    clear h2 h3
    simp only [Bool.true_and]
    go_enter Try.func16, Try.ntmps16
    go_wp2_with fail
    refine C1.out.mono ?_
    rintro e w1 ⟨rfl, hw⟩
    subst hw
    go_wp2_with fail
    refine C2.out.mono ?_
    rintro e w2 ⟨rfl, hw⟩
    subst hw
    go_wp2_with fail
    refine C3.out.mono ?_
    rintro e w ⟨rfl, hw⟩
    subst hw
    clear C1 C2 C3
    go_wp2_with fail
    go_loopw [29] (fun i wr => ∃ k : Nat, k ≤ n ∧ i = .int .i64 k ∧ (∃ m, wr = w.drewN m) ∧ Hid (∀ j, j < k → bad A B j = false)) (fun i _ => n - (intOf i).toNat)
    case atStart => exact ⟨0, by omega, rfl, ⟨0, rfl⟩, fun j hj => by omega⟩
    case round =>
      obtain ⟨k, hk, rfl, ⟨m, rfl⟩, OK⟩ := hrel
      by_cases hlt : k < n
      · skip
        have hkl : k < A.length := by rw [← HNA.out]; exact hlt
        obtain ⟨hb, hx⟩ := HBA.out (by omega)
        subst hx
        have hkb : k < B.length := by rw [← HNB.out]; exact hlt
        obtain ⟨hb2, hx⟩ := HBB.out (by omega)
        subst hx
        have i1 : (0 : Int) ≤ (k : Int) := by omega
        have i2 : (k : Int) < (n : Int) := by omega
        have QA := HCA.out k hkl
        have QB := HCB.out k hkb
        by_cases h1 : A.getD k 0 < B.getD k 0
        · have HF : Hid (bo = false) := (by show _ = _; rw [← HO.out]; exact okP_no hkl (by unfold bad; simp only [decide_eq_true h1, Bool.true_or]))
          generalize A.getD k 0 = x at *
          generalize B.getD k 0 = y at *
          go_wp2_with fail
          go_quiet (fail)
          go_wp2_with fail
          go_ret
          exact ⟨by rw [HF.out]; rfl, m + nq, by simp⟩
        · have h1' : decide (A.getD k 0 < B.getD k 0) = false := decide_eq_false h1
          by_cases h0 : k = 0
          · have OK2 : Hid (∀ j, j < k + 1 → bad A B j = false) := fun j hj => by
              have : j = k := by omega
              subst this
              unfold bad
              rw [h1', h0]
              simp
            have g0 : decide ((0 : Int) < (k : Int)) = false := decide_eq_false (by omega)
            have g00 : decide (0 < k) = false := decide_eq_false (by omega)
            generalize A.getD k 0 = x at *
            generalize B.getD k 0 = y at *
            clear h0 OK
            go_wp2_with fail
            go_quiet (fail)
            go_wp2_with fail
            go_roundw
            case rel => exact ⟨k + 1, by omega, by go_num, ⟨m + nq, by simp⟩, OK2⟩
            case measure => simp [intOf]; omega
          · have j1 : (0 : Int) < (k : Int) := by omega
            have j1' : (1 : Int) ≤ (k : Int) := by omega
            have j2 : (0 : Int) ≤ (k : Int) - 1 := by omega
            have j3 : (k : Int) - 1 < (n : Int) := by omega
            have j4 : ((k : Int) - 1).toNat = k - 1 := by omega
            have j5 : IntKind.i64.wrap ((k : Int) - 1) = (k : Int) - 1 := IntWalk.i64_in _ (by omega)
            have QA1 := HCA.out (k - 1) (by omega)
            have QB1 := HCB.out (k - 1) (by omega)
            have hd : decide (0 < k) = true := decide_eq_true (by omega)
            by_cases h2 : A.getD k 0 ≤ A.getD (k - 1) 0
            · have HF : Hid (bo = false) := (by show _ = _; rw [← HO.out]; exact okP_no hkl (by unfold bad; simp only [hd, decide_eq_true h2, Bool.true_or, Bool.and_self, Bool.or_true]))
              generalize A.getD k 0 = x at *
              generalize B.getD k 0 = y at *
              generalize A.getD (k - 1) 0 = x1 at *
              generalize B.getD (k - 1) 0 = y1 at *
              clear h0 OK
              go_wp2_with fail
              go_quiet (fail)
              go_wp2_with fail
              go_ret
              exact ⟨by rw [HF.out]; rfl, m + nq, by simp⟩
            · have h2' : decide (A.getD k 0 ≤ A.getD (k - 1) 0) = false := decide_eq_false h2
              by_cases h3 : B.getD k 0 < B.getD (k - 1) 0
              · have HF : Hid (bo = false) := (by show _ = _; rw [← HO.out]; exact okP_no hkl (by unfold bad; simp only [hd, decide_eq_true h3, Bool.and_self, Bool.or_true]))
                generalize A.getD k 0 = x at *
                generalize B.getD k 0 = y at *
                generalize A.getD (k - 1) 0 = x1 at *
                generalize B.getD (k - 1) 0 = y1 at *
                clear h0 OK
                go_wp2_with fail
                go_quiet (fail)
                go_wp2_with fail
                go_ret
                exact ⟨by rw [HF.out]; rfl, m + nq, by simp⟩
              · have h3' : decide (B.getD k 0 < B.getD (k - 1) 0) = false := decide_eq_false h3
                have OK2 : Hid (∀ j, j < k + 1 → bad A B j = false) := fun j hj => by
                  by_cases e : j = k
                  · subst e
                    unfold bad
                    rw [h1', h2', h3']
                    simp
                  · exact OK.out j (by omega)
                generalize A.getD k 0 = x at *
                generalize B.getD k 0 = y at *
                generalize A.getD (k - 1) 0 = x1 at *
                generalize B.getD (k - 1) 0 = y1 at *
                clear h0 OK
                go_wp2_with fail
                go_quiet (fail)
                go_wp2_with fail
                go_roundw
                case rel => exact ⟨k + 1, by omega, by go_num, ⟨m + nq, by simp⟩, OK2⟩
                case measure => simp [intOf]; omega
      · have HT : Hid (bo = true) := OY.out fun j hj => OK.out j (by omega)
        go_wp2_with fail
        go_ret
        exact ⟨by rw [HT.out]; rfl, _, rfl⟩
  · have e0 : decide ((B.length : Int) = (A.length : Int)) = false := decide_eq_false (by omega)
    have e1 : (((B.length : Nat) : Int) != ((A.length : Nat) : Int)) = true := by simp; omega
    rw [e0, Bool.false_and, Bool.and_false]
    generalize A.length = n at *
    generalize B.length = n2 at *
    clear hA hB e0 hl
    cases h1 : inn n 1 5
    · rw [h1] at C1
      clear h1
      go_enter Try.func16, Try.ntmps16
      go_wp2_with fail
      refine C1.out.mono ?_
      rintro e w1 ⟨rfl, hw⟩
      subst hw
      go_wp2_with fail
      go_ret
      exact ⟨rfl, 0, rfl⟩
    · rw [h1] at C1
      clear h1
      go_enter Try.func16, Try.ntmps16
      go_wp2_with fail
      refine C1.out.mono ?_
      rintro e w1 ⟨rfl, hw⟩
      subst hw
      go_wp2_with fail
      go_ret
      exact ⟨rfl, 0, rfl⟩

end Go.Proofs.Ytlegcimlhgkibaa.Lv
