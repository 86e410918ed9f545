/- ReadHeading in the model: three pieces or four, none of them empty. -/
import Derived.Test.YtepofpmdkphhdaaDoorRhT
namespace Go.Proofs.YtepofpmdkphhdaaDoor.Head
open Go.ChangeShapes Go.WideShapes Go.ChangeAt Go.RowKit Mk Fig
attribute [local go_sem ↓] Go.wp_at_zero Go.wp_at_succ

theorem ans_of {a b c M : ByteArray} {f : Int} (h : fl a b c M = f) (hf : f ≠ 0) : out f = ansOf a b c M := by
  unfold ansOf
  rw [h, if_neg hf]

set_option maxHeartbeats 8000000 in
theorem sread_bad (s : ByteArray) (w : World) (hs : s.size ≤ 1048576) (n : Nat) (p : Nat → ByteArray) (P0 P1 P2 M : ByteArray) (hP0 : P0 = p 0) (hP1 : P1 = p 1) (hP2 : P2 = p 2) (hn : n = 3 ∨ n = 4) (hM : n = 3 ∧ M = em ∨ n = 4 ∧ M = p 3) (hp : pcs s = (List.range n).map p) (hz : ∀ j, j < n → (p j).size ≠ 0) (hx : ¬ (P0.size = 6 ∧ lets (P0.extract 0 4) = true ∧ 0 ≤ fig (P0.extract 4 6) ∧ cen P1 = true ∧ P2.size = 6 ∧ 0 ≤ fig P2)) :
    Calls Tryd.prog 10 #[.string s] w fun e w' => e = .returned (ansOf P0 P1 P2 M) ∧ Below w.heap.size w w' := by
  have HM : Hid (n = 3 ∧ M = em ∨ n = 4 ∧ M = p 3) := hM
  have HP0 : Hid (P0 = p 0) := hP0
  have HP1 : Hid (P1 = p 1) := hP1
  have HP2 : Hid (P2 = p 2) := hP2
  have HX : Hid (¬ (P0.size = 6 ∧ lets (P0.extract 0 4) = true ∧ 0 ≤ fig (P0.extract 4 6) ∧ cen P1 = true ∧ P2.size = 6 ∧ 0 ≤ fig P2)) := hx
  clear hM hP0 hP1 hP2 hx
  have SP : Hid (∀ w, Calls Tryd.prog 24 #[.string s] w fun e w' => ∃ v, e = .returned v ∧ w'.ownsRow w.heap.size 9 1 v (pcs s).length ((pcs s).map Value.string) ∧ Below w.heap.size w w') := fun w => spieces s w hs
  have hl : (pcs s).length = n := by rw [hp]; simp
  have HZ : Hid (∀ j, j < n → (p j).size ≠ 0) := hz
  have HP : Hid (pcs s = (List.range n).map p) := hp
  have n0' : 3 ≤ n := by omega
  have n1' : n ≤ 4 := by omega
  clear hz hp
  go_enter Tryd.func10, Tryd.ntmps10
  go_wp2_with fail
  refine (SP.out _).mono ?_
  rintro e w1 ⟨v, rfl, R, hb⟩
  rw [hl] at R
  clear hl
  obtain ⟨aa, cap, hv⟩ := row_form R
  subst hv
  have hpa : ∃ g, aa = some ⟨g, 0, none⟩ := by
    rcases R.2 with ⟨_, h⟩ | ⟨g, cap', cur, h, _⟩
    · omega
    · simp at h; exact ⟨g, h.1⟩
  obtain ⟨g, rfl⟩ := hpa
  have CE : Hid (∀ j, j < n → w1.cell? ⟨g, j, none⟩ = some (.string (p j))) := fun j hj => by
    rw [R.cellAt j (by omega), HP.out]
    simp [hj]
  have gz : g < w1.heap.size := (R.lt g rfl).2
  have T : Hid (Two w w1) := two_of hb
  obtain ⟨r0, r1, r2, r3, r4, r5, r6, r7, n0, n1, n2, n3, n4, n5, n6, n7⟩ := T.out.cells
  have rf := T.out.f
  clear hb R
  have HN : Hid (n = 3 ∨ n = 4) := hn
  have e34 : ((n : Int) != 3) = false ∨ ((n : Int) != 3) = true ∧ ((n : Int) != 4) = false := by
    rcases hn with rfl | rfl
    · exact .inl rfl
    · exact .inr ⟨rfl, rfl⟩
  clear hn
  rcases e34 with e3 | ⟨e3, e4⟩
  all_goals
    go_wp2_with fail
    go_loop [6] (fun i => ∃ k : Nat, k ≤ n ∧ i = .int .i64 k ∧ Hid (∀ j, j < k → (p j).size ≠ 0)) (fun i => n - (intOf i).toNat)
    case atStart => exact ⟨0, Nat.zero_le _, rfl, fun j hj => by omega⟩
    case round =>
      obtain ⟨k, hk, rfl, NZ⟩ := hrel
      by_cases hlt : k < n
      · have q := CE.out k hlt
        have i0 : (0 : Int) ≤ (k : Int) := by omega
        have i1 : (k : Int) < (n : Int) := by omega
        by_cases hz : (p k).size = 0
        · have he : (p k).toList.isEmpty = true := by rw [empty_eq, decide_eq_true hz]
          exact absurd hz (HZ.out k hlt)
        · have he : (p k).toList.isEmpty = false := by rw [empty_eq, decide_eq_false hz]
          have NZ' : Hid (∀ j, j < k + 1 → (p j).size ≠ 0) := fun j hj => by
            by_cases c : j = k
            · rw [c]; exact hz
            · exact NZ.out j (by omega)
          clear hz
          go_wp2_with fail
          go_round
          case rel => exact ⟨k + 1, by omega, by go_num, NZ'⟩
          case measure => simp [intOf]; omega
      · have ek : k = n := by omega
        subst ek
        clear NZ
        have q0 := CE.out 0 (by omega)
        have q1 := CE.out 1 (by omega)
        have q2 := CE.out 2 (by omega)
        have k2 : (2 : Int) < (k : Int) := by omega
        have k1 : (1 : Int) < (k : Int) := by omega
        have k0 : (0 : Int) < (k : Int) := by omega
        rw [← HP0.out] at q0
        rw [← HP1.out] at q1
        rw [← HP2.out] at q2
        by_cases h6 : P0.size = 6
        · have e6 : ((P0.size : Int) != 6) = false := by rw [h6]; rfl
          have LE : Hid (∀ w, Calls Tryd.prog 25 #[.string (P0.extract 0 4)] w fun e w' => e = .returned (.bool (lets (P0.extract 0 4))) ∧ w' = w) := fun w => sletters_any _ w (by rw [ext_size h6 (by omega)]; omega)
          have FN : Hid (∀ w, Calls Tryd.prog 26 #[.string (P0.extract 4 6)] w fun e w' => e = .returned (.int .i64 (fig (P0.extract 4 6))) ∧ w' = w) := fun w => sfig _ w (by rw [ext_size h6 (by omega)]; omega) (by rw [ext_size h6 (by omega)]; omega)
          have CN : Hid (∀ w, Calls Tryd.prog 27 #[.string P1] w fun e w' => e = .returned (.bool (cen P1)) ∧ w' = w) := fun w => scen_any P1 w
          have FL2 : Hid (lets (P0.extract 0 4) = false ∨ fig (P0.extract 4 6) < 0 → fl P0 P1 P2 M = 2) := fun h => fl_two (.inr h)
          have FL3 : Hid (lets (P0.extract 0 4) = true → 0 ≤ fig (P0.extract 4 6) → cen P1 = false → fl P0 P1 P2 M = 3) := fun a b c => fl_three h6 a b c
          have FL4 : Hid (lets (P0.extract 0 4) = true → 0 ≤ fig (P0.extract 4 6) → cen P1 = true → P2.size ≠ 6 ∨ fig P2 < 0 → fl P0 P1 P2 M = 4) := fun a b c d => fl_four h6 a b c d
          generalize fig (P0.extract 4 6) = N at *
          cases hL : lets (P0.extract 0 4)
          · have FL : Hid (fl P0 P1 P2 M = 2) := FL2.out (.inl hL)
            rw [hL] at LE
            clear FL2 FL3 FL4 hL
            go_wp2_with (first
            | (go_at_call 25; refine (LE.out _).mono ?_; rintro e wz ⟨rfl, hw⟩; have hw' := hw.symm; subst hw')
            | (go_at_call 27; refine (CN.out _).mono ?_; rintro e wz ⟨rfl, hw⟩; have hw' := hw.symm; subst hw')
            | (go_at_call 26; refine (FN.out _).mono ?_; rintro e wz ⟨rfl, hw⟩; have hw' := hw.symm; subst hw'))
            exact bodyPost_ret (v := .tuple #[none8, .int .i64 2]) (by simp [results, Tryd.results10, go_sem, r0, r1, r2, r3, r4, r5, r6, r7]) rfl ⟨congrArg Ending.returned (ans_of FL.out (by decide)), set8 T.out.b w.heap.size (Nat.le_refl _) _ _ _ _ _ _ _ _⟩
          rw [hL] at LE FL2 FL3 FL4
          by_cases hN : N < 0
          · have FL : Hid (fl P0 P1 P2 M = 2) := FL2.out (.inr hN)
            clear FL2 FL3 FL4 hL
            go_wp2_with (first
            | (go_at_call 25; refine (LE.out _).mono ?_; rintro e wz ⟨rfl, hw⟩; have hw' := hw.symm; subst hw')
            | (go_at_call 27; refine (CN.out _).mono ?_; rintro e wz ⟨rfl, hw⟩; have hw' := hw.symm; subst hw')
            | (go_at_call 26; refine (FN.out _).mono ?_; rintro e wz ⟨rfl, hw⟩; have hw' := hw.symm; subst hw'))
            exact bodyPost_ret (v := .tuple #[none8, .int .i64 2]) (by simp [results, Tryd.results10, go_sem, r0, r1, r2, r3, r4, r5, r6, r7]) rfl ⟨congrArg Ending.returned (ans_of FL.out (by decide)), set8 T.out.b w.heap.size (Nat.le_refl _) _ _ _ _ _ _ _ _⟩
          have hN' : 0 ≤ N := by omega
          cases hC : cen P1
          · have FL : Hid (fl P0 P1 P2 M = 3) := FL3.out rfl hN' hC
            rw [hC] at CN
            clear FL2 FL3 FL4 hL hC
            go_wp2_with (first
            | (go_at_call 25; refine (LE.out _).mono ?_; rintro e wz ⟨rfl, hw⟩; have hw' := hw.symm; subst hw')
            | (go_at_call 27; refine (CN.out _).mono ?_; rintro e wz ⟨rfl, hw⟩; have hw' := hw.symm; subst hw')
            | (go_at_call 26; refine (FN.out _).mono ?_; rintro e wz ⟨rfl, hw⟩; have hw' := hw.symm; subst hw'))
            exact bodyPost_ret (v := .tuple #[none8, .int .i64 3]) (by simp [results, Tryd.results10, go_sem, r0, r1, r2, r3, r4, r5, r6, r7]) rfl ⟨congrArg Ending.returned (ans_of FL.out (by decide)), set8 T.out.b w.heap.size (Nat.le_refl _) _ _ _ _ _ _ _ _⟩
          rw [hC] at CN FL4
          by_cases g6 : P2.size = 6
          · have e62 : ((P2.size : Int) != 6) = false := by rw [g6]; rfl
            have F2 : Hid (∀ w, Calls Tryd.prog 26 #[.string P2] w fun e w' => e = .returned (.int .i64 (fig P2)) ∧ w' = w) := fun w => sfig _ w (by omega) (by omega)
            by_cases hF : fig P2 < 0
            · have FL : Hid (fl P0 P1 P2 M = 4) := FL4.out rfl hN' rfl (.inr hF)
              clear FL2 FL3 FL4 hL hC
              generalize fig P2 = f2 at *
              go_wp2_with (first
            | (go_at_call 25; refine (LE.out _).mono ?_; rintro e wz ⟨rfl, hw⟩; have hw' := hw.symm; subst hw')
            | (go_at_call 27; refine (CN.out _).mono ?_; rintro e wz ⟨rfl, hw⟩; have hw' := hw.symm; subst hw')
            | (go_at_call_of 26 (Value.string (P0.extract 4 6)); refine (FN.out _).mono ?_; rintro e wz ⟨rfl, hw⟩; have hw' := hw.symm; subst hw')
            | (go_at_call_of 26 (Value.string P2); refine (F2.out _).mono ?_; rintro e wz ⟨rfl, hw⟩; have hw' := hw.symm; subst hw'))
              exact bodyPost_ret (v := .tuple #[none8, .int .i64 4]) (by simp [results, Tryd.results10, go_sem, r0, r1, r2, r3, r4, r5, r6, r7]) rfl ⟨congrArg Ending.returned (ans_of FL.out (by decide)), set8 T.out.b w.heap.size (Nat.le_refl _) _ _ _ _ _ _ _ _⟩
            exact absurd ⟨h6, hL, hN', hC, g6, by omega⟩ HX.out
          · have e62 : ((P2.size : Int) != 6) = true := by simp; omega
            have FL : Hid (fl P0 P1 P2 M = 4) := FL4.out rfl hN' rfl (.inl g6)
            clear FL2 FL3 FL4 hL hC g6
            go_wp2_with (first
            | (go_at_call 25; refine (LE.out _).mono ?_; rintro e wz ⟨rfl, hw⟩; have hw' := hw.symm; subst hw')
            | (go_at_call 27; refine (CN.out _).mono ?_; rintro e wz ⟨rfl, hw⟩; have hw' := hw.symm; subst hw')
            | (go_at_call 26; refine (FN.out _).mono ?_; rintro e wz ⟨rfl, hw⟩; have hw' := hw.symm; subst hw'))
            exact bodyPost_ret (v := .tuple #[none8, .int .i64 4]) (by simp [results, Tryd.results10, go_sem, r0, r1, r2, r3, r4, r5, r6, r7]) rfl ⟨congrArg Ending.returned (ans_of FL.out (by decide)), set8 T.out.b w.heap.size (Nat.le_refl _) _ _ _ _ _ _ _ _⟩
        · have e6 : ((P0.size : Int) != 6) = true := by simp; omega
          have FL : Hid (fl P0 P1 P2 M = 2) := fl_two (.inl h6)
          clear h6
          go_wp2_with fail
          exact bodyPost_ret (v := .tuple #[none8, .int .i64 2]) (by simp [results, Tryd.results10, go_sem, r0, r1, r2, r3, r4, r5, r6, r7]) rfl ⟨congrArg Ending.returned (ans_of FL.out (by decide)), set8 T.out.b w.heap.size (Nat.le_refl _) _ _ _ _ _ _ _ _⟩
end Go.Proofs.YtepofpmdkphhdaaDoor.Head
