/- Levels: the model's test of limits. -/
import Derived.Test.YtlegcimlhgkibaaLv
namespace Go.Proofs.Ytlegcimlhgkibaa.Lv
open Go.ChangeShapes Go.WideShapes Go.ChangeAt Go.RowKit
open Go.Proofs.Ytlegcimlhgkibaa.Lists Go.Proofs.Ytlegcimlhgkibaa.Al Go.Proofs.Ytlegcimlhgkibaa.Se

set_option maxHeartbeats 2000000 in
theorem slimits_any (A B : List Int) (h : Int) (vA vB : Value) (w : World) (hA : Lists.Reads w vA A) (hB : Lists.Reads w vB B) (fA : A.length < 9223372036854775808) (fB : B.length < 9223372036854775808) :
    Calls Try.prog 13 #[vA, vB, .int .i64 h] w fun e w' => e = .returned (.bool (okB A B && inn h 1 100)) ∧ ∃ m, w' = w.drewN m := by
  have C2 : Hid (∀ m, Calls Try.prog 21 #[vA, .int .i64 (A.length : Int), .int .i64 (-100000), .int .i64 100000] (w.drewN m) fun e w' => e = .returned (.bool (all5 A)) ∧ ∃ m, w' = w.drewN m) := fun m => by
    have := sall_any A A.length (-100000) 100000 vA (w.drewN m) hA fA
    unfold nums at this
    simp only [decide_true, Bool.true_and] at this
    refine this.mono ?_
    rintro e w' ⟨rfl, m', rfl⟩
    exact ⟨rfl, m + m', by simp⟩
  have C3 : Hid (∀ m, Calls Try.prog 21 #[vB, .int .i64 (A.length : Int), .int .i64 (-100000), .int .i64 100000] (w.drewN m) fun e w' => e = .returned (.bool (decide ((B.length : Int) = (A.length : Int)) && all5 B)) ∧ ∃ m, w' = w.drewN m) := fun m => by
    have := sall_any B A.length (-100000) 100000 vB (w.drewN m) hB fB
    unfold nums at this
    refine this.mono ?_
    rintro e w' ⟨rfl, m', rfl⟩
    exact ⟨rfl, m + m', by simp⟩
  have C4 : Hid (∀ m, Calls Try.prog 22 #[.int .i64 h, .int .i64 1, .int .i64 100] (w.drewN m) fun e w' => e = .returned (.bool (inn h 1 100)) ∧ w' = w.drewN m) := fun m => s_in _ _ _ _
  have EQ : (okB A B && inn h 1 100) = (inn A.length 1 5 && (all5 A && ((decide ((B.length : Int) = (A.length : Int)) && all5 B) && (inn h 1 100 && okP A B)))) := by
    unfold okB
    cases inn A.length 1 5 <;> cases decide ((B.length : Int) = (A.length : Int)) <;> cases all5 A <;> cases all5 B <;> cases inn h 1 100 <;> cases okP A B <;> rfl
  rw [EQ]
  clear EQ
  obtain ⟨b, o, hcell, hvv⟩ := reads_at hA
  obtain ⟨b2, o2, hcell2, hvv2⟩ := reads_at hB
  obtain ⟨a, cap, rfl⟩ := hA.form
  obtain ⟨a2, cap2, rfl⟩ := hB.form
  have HCA : Hid (∀ i, i < A.length → w.cell? ⟨b, o + i, none⟩ = some (.int .i64 (A.getD i 0))) := hcell
  have HBA : Hid (0 < A.length → b < w.heap.size ∧ a = some ⟨b, o, none⟩) := fun hi => by
    obtain ⟨h1, c, h2⟩ := hvv hi
    simp at h2
    exact ⟨h1, h2.1⟩
  have HCB : Hid (∀ i, i < B.length → w.cell? ⟨b2, o2 + i, none⟩ = some (.int .i64 (B.getD i 0))) := hcell2
  have HBB : Hid (0 < B.length → b2 < w.heap.size ∧ a2 = some ⟨b2, o2, none⟩) := fun hi => by
    obtain ⟨h1, c, h2⟩ := hvv2 hi
    simp at h2
    exact ⟨h1, h2.1⟩
  clear hcell hvv hcell2 hvv2
  have OY : Hid ((∀ k, k < A.length → bad A B k = false) → okP A B = true) := fun h => okP_yes h
  obtain ⟨bo, hbo⟩ : ∃ bo, okP A B = bo := ⟨_, rfl⟩
  rw [hbo] at OY ⊢
  have HO : Hid (okP A B = bo) := hbo
  have HL : Hid ((decide ((B.length : Int) = (A.length : Int)) && all5 B) = true → B.length = A.length) := fun h => by
    rw [Bool.and_eq_true, decide_eq_true_eq] at h
    show _ = _
    omega
  obtain ⟨b4, hb4⟩ : ∃ b4, (decide ((B.length : Int) = (A.length : Int)) && all5 B) = b4 := ⟨_, rfl⟩
  rw [hb4] at HL C3 ⊢
  obtain ⟨n, hn⟩ : ∃ n, n = A.length := ⟨_, rfl⟩
  have HNA : Hid (n = A.length) := hn
  rw [← hn] at fA C2 C3 OY HL ⊢
  generalize all5 A = b3 at *
  generalize inn h 1 100 = b5 at *
  clear hA hB hbo hb4 hn
  by_cases l1 : (1 : Int) ≤ n
  · by_cases l2 : (n : Int) ≤ 5
    · have e : inn n 1 5 = true := by simp [inn]; omega
      rw [e, Bool.true_and]
      clear e
      cases b3
      · go_enter Try.func13, Try.ntmps13
        go_wp2_with fail
        refine (C2.out 0).mono ?_
        rintro e w1 ⟨rfl, m, rfl⟩
        go_wp2_with fail
        go_ret
        exact ⟨rfl, _, rfl⟩
      cases b4
      · go_enter Try.func13, Try.ntmps13
        go_wp2_with fail
        refine (C2.out 0).mono ?_
        rintro e w1 ⟨rfl, m, rfl⟩
        go_wp2_with fail
        refine (C3.out m).mono ?_
        rintro e w1 ⟨rfl, m, rfl⟩
        go_wp2_with fail
        go_ret
        exact ⟨rfl, _, rfl⟩
      cases b5
      · go_enter Try.func13, Try.ntmps13
        go_wp2_with fail
        refine (C2.out 0).mono ?_
        rintro e w1 ⟨rfl, m, rfl⟩
        go_wp2_with fail
        refine (C3.out m).mono ?_
        rintro e w1 ⟨rfl, m, rfl⟩
        go_wp2_with fail
        refine (C4.out m).mono ?_
        rintro e w1 ⟨rfl, rfl⟩
        go_wp2_with fail
        go_ret
        exact ⟨rfl, _, rfl⟩
      have hl := HL.out rfl
      have HNB : Hid (n = B.length) := hl.symm
      rw [hl] at C3 ⊢
      simp only [Bool.true_and]
      clear HL hl fB
      go_enter Try.func13, Try.ntmps13
      go_wp2_with fail
      refine (C2.out 0).mono ?_
      rintro e w1 ⟨rfl, m, rfl⟩
      go_wp2_with fail
      refine (C3.out m).mono ?_
      rintro e w1 ⟨rfl, m1, rfl⟩
      go_wp2_with fail
      refine (C4.out m1).mono ?_
      rintro e w1 ⟨rfl, rfl⟩
      clear C2 C3 C4
      go_wp2_with fail
      go_loopw [8] (fun i wr => ∃ k : Nat, k ≤ n ∧ i = .int .i64 k ∧ (∃ m, wr = w.drewN m) ∧ Hid (∀ j, j < k → bad A B j = false)) (fun i _ => n - (intOf i).toNat)
      case atStart => exact ⟨0, by omega, rfl, ⟨_, rfl⟩, fun j hj => by omega⟩
      case round =>
        clear m m1
        obtain ⟨k, hk, rfl, ⟨m, rfl⟩, OK⟩ := hrel
        by_cases hlt : k < n
        · skip
          have hkl : k < A.length := by rw [← HNA.out]; exact hlt
          obtain ⟨hb, hx⟩ := HBA.out (by omega)
          subst hx
          have hkb : k < B.length := by rw [← HNB.out]; exact hlt
          obtain ⟨hb2, hx⟩ := HBB.out (by omega)
          subst hx
          have i1 : (0 : Int) ≤ (k : Int) := by omega
          have i2 : (k : Int) < (n : Int) := by omega
          have QA := HCA.out k hkl
          have QB := HCB.out k hkb
          by_cases h1 : A.getD k 0 < B.getD k 0
          · have HF : Hid (bo = false) := (by show _ = _; rw [← HO.out]; exact okP_no hkl (by unfold bad; simp only [decide_eq_true h1, Bool.true_or]))
            generalize A.getD k 0 = x at *
            generalize B.getD k 0 = y at *
            go_wp2_with fail
            go_quiet (fail)
            go_wp2_with fail
            go_ret
            exact ⟨by rw [HF.out]; rfl, m + nq, by simp⟩
          · have h1' : decide (A.getD k 0 < B.getD k 0) = false := decide_eq_false h1
            by_cases h0 : k = 0
            · have OK2 : Hid (∀ j, j < k + 1 → bad A B j = false) := fun j hj => by
                have : j = k := by omega
                subst this
                unfold bad
                rw [h1', h0]
                simp
              have g0 : decide ((0 : Int) < (k : Int)) = false := decide_eq_false (by omega)
              have g00 : decide (0 < k) = false := decide_eq_false (by omega)
              generalize A.getD k 0 = x at *
              generalize B.getD k 0 = y at *
              clear h0 OK
              go_wp2_with fail
              go_quiet (fail)
              go_wp2_with fail
              go_roundw
              case rel => exact ⟨k + 1, by omega, by go_num, ⟨m + nq, by simp⟩, OK2⟩
              case measure => simp [intOf]; omega
            · have j1 : (0 : Int) < (k : Int) := by omega
              have j1' : (1 : Int) ≤ (k : Int) := by omega
              have j2 : (0 : Int) ≤ (k : Int) - 1 := by omega
              have j3 : (k : Int) - 1 < (n : Int) := by omega
              have j4 : ((k : Int) - 1).toNat = k - 1 := by omega
              have j5 : IntKind.i64.wrap ((k : Int) - 1) = (k : Int) - 1 := IntWalk.i64_in _ (by omega)
              have QA1 := HCA.out (k - 1) (by omega)
              have QB1 := HCB.out (k - 1) (by omega)
              have hd : decide (0 < k) = true := decide_eq_true (by omega)
              by_cases h2 : A.getD k 0 ≤ A.getD (k - 1) 0
              · have HF : Hid (bo = false) := (by show _ = _; rw [← HO.out]; exact okP_no hkl (by unfold bad; simp only [hd, decide_eq_true h2, Bool.true_or, Bool.and_self, Bool.or_true]))
                generalize A.getD k 0 = x at *
                generalize B.getD k 0 = y at *
                generalize A.getD (k - 1) 0 = x1 at *
                generalize B.getD (k - 1) 0 = y1 at *
                clear h0 OK
                go_wp2_with fail
                go_quiet (fail)
                go_wp2_with fail
                go_ret
                exact ⟨by rw [HF.out]; rfl, m + nq, by simp⟩
              · have h2' : decide (A.getD k 0 ≤ A.getD (k - 1) 0) = false := decide_eq_false h2
                by_cases h3 : B.getD k 0 < B.getD (k - 1) 0
                · have HF : Hid (bo = false) := (by show _ = _; rw [← HO.out]; exact okP_no hkl (by unfold bad; simp only [hd, decide_eq_true h3, Bool.and_self, Bool.or_true]))
                  generalize A.getD k 0 = x at *
                  generalize B.getD k 0 = y at *
                  generalize A.getD (k - 1) 0 = x1 at *
                  generalize B.getD (k - 1) 0 = y1 at *
                  clear h0 OK
                  go_wp2_with fail
                  go_quiet (fail)
                  go_wp2_with fail
                  go_ret
                  exact ⟨by rw [HF.out]; rfl, m + nq, by simp⟩
                · have h3' : decide (B.getD k 0 < B.getD (k - 1) 0) = false := decide_eq_false h3
                  have OK2 : Hid (∀ j, j < k + 1 → bad A B j = false) := fun j hj => by
                    by_cases e : j = k
                    · subst e
                      unfold bad
                      rw [h1', h2', h3']
                      simp
                    · exact OK.out j (by omega)
                  generalize A.getD k 0 = x at *
                  generalize B.getD k 0 = y at *
                  generalize A.getD (k - 1) 0 = x1 at *
                  generalize B.getD (k - 1) 0 = y1 at *
                  clear h0 OK
                  go_wp2_with fail
                  go_quiet (fail)
                  go_wp2_with fail
                  go_roundw
                  case rel => exact ⟨k + 1, by omega, by go_num, ⟨m + nq, by simp⟩, OK2⟩
                  case measure => simp [intOf]; omega
        · have HT : Hid (bo = true) := OY.out fun j hj => OK.out j (by omega)
          go_wp2_with fail
          go_ret
          exact ⟨by rw [HT.out]; rfl, _, rfl⟩
    · have e : inn n 1 5 = false := by simp [inn]; omega
      rw [e]
      go_enter Try.func13, Try.ntmps13
      go_wp2_with fail
      go_ret
      exact ⟨rfl, 0, rfl⟩
  · have e : inn n 1 5 = false := by simp [inn]; omega
    rw [e]
    go_enter Try.func13, Try.ntmps13
    go_wp2_with fail
    go_ret
    exact ⟨rfl, 0, rfl⟩
end Go.Proofs.Ytlegcimlhgkibaa.Lv
