/- Remap's parts: the program. -/
import Derived.Test.YtlcbahlplablmaaRmE
namespace Go.Proofs.Ytlcbahlplablmaa.Rm
open Go.ChangeShapes Go.WideShapes Go.ChangeAt Go.RowKit
open Go.Proofs.Ytlcbahlplablmaa.Lists

theorem i_in (n a b : Int) (w : World) : Calls Try.prog 22 #[.int .i64 n, .int .i64 a, .int .i64 b] w fun e w' => e = .returned (.bool (inn n a b)) ∧ w' = w := win_any n a b w

set_option maxHeartbeats 1000000 in
theorem iok_short (a : Option Addr) (n cap : Nat) (w : World) (h : n < 2 ∨ 257 < n) : Calls Try.prog 17 #[.slice a n cap] w fun e w' => e = .returned (.bool false) ∧ w' = w := by
  have C1 : Hid (∀ w, Calls Try.prog 22 #[.int .i64 n, .int .i64 2, .int .i64 257] w fun e w' => e = .returned (.bool false) ∧ w' = w) := fun w => by
    have := i_in n 2 257 w
    have e : inn n 2 257 = false := by
      cases e : inn n 2 257
      · rfl
      · rw [inn_iff] at e; omega
    rwa [e] at this
  clear h
  go_enter Try.func17, Try.ntmps17
  go_wp2_with fail
  refine (C1.out _).mono ?_
  rintro e w1 ⟨rfl, hw⟩
  have hw' := hw.symm
  subst hw'
  go_wp2_with fail
  go_ret
  exact ⟨rfl, rfl⟩

set_option maxHeartbeats 1000000 in
theorem iok_long (L : List Int) (v : Value) (w : World) (hL : Lists.Reads w v L) (l2 : 2 ≤ L.length) (l3 : L.length ≤ 257) : Calls Try.prog 17 #[v] w fun e w' => e = .returned (.bool (okE L)) ∧ w' = w := by
  obtain ⟨b, o, hc, hv⟩ := reads_at hL
  obtain ⟨_, cap, rfl⟩ := hv (by omega)
  have HC : Hid (∀ i, i < L.length → w.cell? ⟨b, o + i, none⟩ = some (.int .i64 (L.getD i 0))) := hc
  obtain ⟨R, hR⟩ : ∃ R, okE L = R := ⟨_, rfl⟩
  have HR : Hid (okE L = R) := hR
  rw [hR]
  obtain ⟨n, hn⟩ : ∃ n, n = L.length := ⟨_, rfl⟩
  rw [← hn] at l2 l3 ⊢
  have HN : Hid (n = L.length) := hn
  have C1 : Hid (∀ w, Calls Try.prog 22 #[.int .i64 n, .int .i64 2, .int .i64 257] w fun e w' => e = .returned (.bool true) ∧ w' = w) := fun w => by
    have := i_in n 2 257 w
    have e : inn n 2 257 = true := by rw [inn_iff]; omega
    rwa [e] at this
  clear hL hc hv hR hn
  go_enter Try.func17, Try.ntmps17
  go_wp2_with fail
  refine (C1.out _).mono ?_
  rintro e w1 ⟨rfl, hw⟩
  have hw' := hw.symm
  subst hw'
  go_wp2_with fail
  go_loop [11] (fun i => ∃ k : Nat, k ≤ n ∧ i = .int .i64 k ∧ Hid (∀ j, j < k → eAt L j = true)) (fun i => n - (intOf i).toNat)
  case atStart => exact ⟨0, Nat.zero_le _, rfl, fun j hj => absurd hj (by omega)⟩
  case round =>
    obtain ⟨k, hk, rfl, OK⟩ := hrel
    by_cases hlt : k < n
    · have hkl : k < L.length := by have := HN.out; omega
      have q : w.cell? ⟨b, o + k, none⟩ = some (.int .i64 (L.getD k 0)) := HC.out k hkl
      have i2 : (0 : Int) ≤ (k : Int) := by omega
      have i3 : (k : Int) < (n : Int) := by omega
      have EA : Hid (eAt L k = (inn (L.getD k 0) (-1000000) 1000000 && (decide (k = 0) || decide (L.getD (k - 1) 0 < L.getD k 0)))) := rfl
      have NX : Hid (eAt L k = true → ∀ j, j < k + 1 → eAt L j = true) := fun h j hj => by
        by_cases e : j = k
        · rw [e]; exact h
        · exact OK.out j (by omega)
      have NO : Hid (eAt L k = false → R = false) := fun h => by rw [← HR.out]; exact okE_no hkl h
      have C3 : Hid (∀ w, Calls Try.prog 22 #[.int .i64 (L.getD k 0), .int .i64 (-1000000), .int .i64 1000000] w fun e w' => e = .returned (.bool (inn (L.getD k 0) (-1000000) 1000000)) ∧ w' = w) := fun w => i_in _ _ _ w
      by_cases k0 : k = 0
      · subst k0
        rw [Nat.add_zero] at q
        cases hz : inn (L.getD 0 0) (-1000000) 1000000
        · rw [hz] at C3 EA
          clear hz
          generalize L.getD 0 0 = z at *
          have HF : Hid (R = false) := NO.out (by rw [EA.out, Bool.false_and])
          clear NO NX EA
          go_wp2_with fail
          refine (C3.out _).mono ?_
          rintro e w2 ⟨rfl, hw⟩
          have hw2 := hw.symm
          subst hw2
          go_wp2_with fail
          go_ret
          exact ⟨by rw [HF.out]; rfl, rfl⟩
        · rw [hz] at C3 EA
          clear hz
          generalize L.getD 0 0 = z at *
          have OK2 : Hid (∀ j, j < 0 + 1 → eAt L j = true) := NX.out (by rw [EA.out, decide_eq_true rfl]; rfl)
          clear NO NX EA
          go_wp2_with fail
          refine (C3.out _).mono ?_
          rintro e w2 ⟨rfl, hw⟩
          have hw2 := hw.symm
          subst hw2
          go_wp2_with fail
          go_round
          case rel => exact ⟨0 + 1, by omega, by go_num, OK2⟩
          case measure => simp [intOf]; omega
      · obtain ⟨p, rfl⟩ : ∃ p, k = p + 1 := ⟨k - 1, by omega⟩
        have q' : w.cell? ⟨b, o + p, none⟩ = some (.int .i64 (L.getD p 0)) := HC.out p (by omega)
        rw [Nat.add_sub_cancel] at EA
        have j3 : (p : Int) + 1 - 1 = (p : Int) := by omega
        have j4 : IntKind.i64.wrap ((p : Int) + 1 - 1) = (p : Int) := by rw [j3]; exact IntWalk.i64_in _ (by omega)
        have j5 : (p : Int) < (n : Int) := by omega
        have j7 : IntKind.i64.wrap (p : Int) = (p : Int) := IntWalk.i64_in _ (by omega)
        have j8 : (0 : Int) ≤ (p : Int) := by omega
        have j6 : (0 : Int) < (p : Int) + 1 := by omega
        rw [decide_eq_false k0] at EA
        cases hz : inn (L.getD (p + 1) 0) (-1000000) 1000000
        · rw [hz] at C3 EA
          clear hz k0
          generalize L.getD (p + 1) 0 = z at *
          generalize L.getD p 0 = z' at *
          have HF : Hid (R = false) := NO.out (by rw [EA.out, Bool.false_and])
          clear NO NX EA
          go_wp2_with fail
          refine (C3.out _).mono ?_
          rintro e w2 ⟨rfl, hw⟩
          have hw2 := hw.symm
          subst hw2
          go_wp2_with fail
          go_ret
          exact ⟨by rw [HF.out]; rfl, rfl⟩
        · rw [hz] at C3 EA
          clear hz k0
          generalize L.getD (p + 1) 0 = z at *
          generalize L.getD p 0 = z' at *
          by_cases c2 : z ≤ z'
          · have c3 : decide (z' < z) = false := decide_eq_false (by omega)
            rw [c3] at EA
            clear c3
            have HF : Hid (R = false) := NO.out (by rw [EA.out, Bool.true_and]; rfl)
            clear NO NX EA
            go_wp2_with fail
            refine (C3.out _).mono ?_
            rintro e w2 ⟨rfl, hw⟩
            have hw2 := hw.symm
            subst hw2
            go_wp2_with fail
            go_ret
            exact ⟨by rw [HF.out]; rfl, rfl⟩
          · have c3 : decide (z' < z) = true := decide_eq_true (by omega)
            rw [c3] at EA
            clear c3
            have OK2 : Hid (∀ j, j < p + 1 + 1 → eAt L j = true) := NX.out (by rw [EA.out, Bool.true_and]; rfl)
            clear NO NX EA
            go_wp2_with fail
            refine (C3.out _).mono ?_
            rintro e w2 ⟨rfl, hw⟩
            have hw2 := hw.symm
            subst hw2
            go_wp2_with fail
            go_round
            case rel => exact ⟨p + 1 + 1, by omega, by go_num, OK2⟩
            case measure => simp [intOf]; omega
    · have HT : Hid (R = true) := (by
        show _ = _
        rw [← HR.out]
        exact okE_yes (by have := HN.out; omega) (by have := HN.out; omega) (fun j hj => OK.out j (by have := HN.out; omega)))
      go_wp2_with fail
      go_ret
      exact ⟨by rw [HT.out]; rfl, rfl⟩
theorem iedges_any (L : List Int) (v : Value) (w : World) (hL : Lists.Reads w v L) : Calls Try.prog 17 #[v] w fun e w' => e = .returned (.bool (okE L)) ∧ w' = w := by
  by_cases h : L.length < 2 ∨ 257 < L.length
  · rw [okE_short h]
    obtain ⟨a, cap, rfl⟩ := hL.form
    exact iok_short a L.length cap w h
  · exact iok_long L v w hL (by omega) (by omega)

end Go.Proofs.Ytlcbahlplablmaa.Rm
