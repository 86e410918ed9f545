/- The laws FnExactSum and FnExactMean walked. -/
import Derived.Test.YtbjhkdebaimkfaaSumD
namespace Go.Proofs.Ytbjhkdebaimkfaa.Flt
open Go.ChangeShapes Go.WideShapes Go.ChangeAt Go.RowKit

/-- What the sum and the count of a list are told as, a list that is too long among them. -/
def res (L : List Nat) : Nat × Int := if L.length ≤ 4000 then ((sumOf L).1, ((sumOf L).2 : Int)) else (0, -1)
theorem ssum_all (w : World) (v : Value) (L : List Nat) (h : Reads w v L) : Calls Try.prog 5 #[v] w fun e w' => e = two (res L).1 (res L).2 ∧ ∃ m, w' = w.drewN m := by
  by_cases hl : L.length ≤ 4000
  · rw [show res L = ((sumOf L).1, ((sumOf L).2 : Int)) from if_pos hl]; exact ssum w v L h hl
  · rw [show res L = (0, -1) from if_neg hl]; exact ssum_far w v L h (by omega)
theorem isum_all (w : World) (v : Value) (L : List Nat) (h : Reads w v L) (hw : ∀ x ∈ L, x < 18446744073709551616) : Calls Try.prog 7 #[v] w fun e w' => e = two (res L).1 (res L).2 ∧ w' = w := by
  by_cases hl : L.length ≤ 4000
  · rw [show res L = ((sumOf L).1, ((sumOf L).2 : Int)) from if_pos hl]; exact isum w v L h hw hl
  · rw [show res L = (0, -1) from if_neg hl]; exact isum_far w v L h (by omega)

def Mn (L : List Nat) (b : Nat) : Prop := if 0 < (res L).2 then Ieee.double.div (res L).1 (floatOfInt .f64 (res L).2) = some b else nan b = true

set_option maxHeartbeats 400000 in
theorem none_any (w : World) : Calls Try.prog 14 #[] w fun e w' => ∃ b, e = .returned (.float .f64 b) ∧ nan b = true ∧ w' = w.drew := by
  obtain ⟨b, hb, _, hrun⟩ := run_nan Try.prog .quo 23 0 0 (Or.inr (Or.inr (Or.inr rfl))) rfl w
  have hn : nan b = true := decide_eq_true hb
  have HN : Hid (nan b = true) := hn
  clear hb hn
  go_enter Try.func14, Try.ntmps14
  go_wp2
  go_ret
  exact ⟨b, rfl, HN.out, rfl⟩

theorem run_from (w : World) : (callFunc 17 #[.int .u64 9221120237041090561]).run Try.prog w = .ok (.value (.float .f64 9221120237041090561)) w := by kernel_rfl
set_option maxHeartbeats 400000 in
theorem nan_any (w : World) : Calls Try.prog 15 #[] w fun e w' => e = .returned (.float .f64 9221120237041090561) ∧ w' = w := by
  have h := run_from
  go_enter Try.func15, Try.ntmps15
  go_wp2
  go_ret
  exact ⟨rfl, rfl⟩

theorem div_run (L : List Nat) (h : 0 < (res L).2) : ∃ b, Ieee.double.div (res L).1 (floatOfInt .f64 (res L).2) = some b ∧ ∀ w, (binOp .quo 23 (.float .f64 (res L).1) (.float .f64 (floatOfInt .f64 (res L).2))).run Try.prog w = .ok (.float .f64 b) w := by
  by_cases hl : L.length ≤ 4000
  · have e : res L = ((sumOf L).1, ((sumOf L).2 : Int)) := if_pos hl
    rw [e] at h ⊢
    have so := sum_ok L
    have cp := count_pos (sumOf L).2 (by simp at h; omega) (by omega)
    obtain ⟨b, hb, _⟩ := div_some (sumOf L).1 (floatOfInt .f64 ((sumOf L).2 : Int)) so.1 cp.1 cp.2
    exact ⟨b, hb, fun w => run_float_arith w .quo 23 .f64 _ _ b hb⟩
  · have e : res L = (0, -1) := if_neg hl
    rw [e] at h
    simp at h

set_option maxHeartbeats 1000000 in
theorem smean (w : World) (v : Value) (L : List Nat) (h : Reads w v L) : Calls Try.prog 10 #[v] w fun e w' => ∃ b m, e = .returned (.float .f64 b) ∧ Mn L b ∧ w' = w.drewN m := by
  by_cases hc : 0 < (res L).2
  · obtain ⟨b, hb, hr⟩ := div_run L hc
    have MN : Hid (Mn L b) := (by show Mn L b; unfold Mn; rw [if_pos hc]; exact hb)
    have S : Hid (∀ w', w' = w → Calls Try.prog 5 #[v] w' fun e w' => e = two (res L).1 (res L).2 ∧ ∃ m, w' = w.drewN m) := fun w' e => by subst e; exact ssum_all _ v L h
    clear hb h
    generalize (res L).1 = s at *
    generalize (res L).2 = c at *
    go_enter Try.func10, Try.ntmps10
    go_wp2_with (go_at_call 5; refine (S.out _ rfl).mono ?_; rintro e w1 ⟨rfl, m, rfl⟩)
    go_ret
    exact ⟨b, m, rfl, MN.out, rfl⟩
  · have MN : Hid (∀ b, nan b = true → Mn L b) := fun b hb => by unfold Mn; rw [if_neg hc]; exact hb
    have S : Hid (∀ w', w' = w → Calls Try.prog 5 #[v] w' fun e w' => e = two (res L).1 (res L).2 ∧ ∃ m, w' = w.drewN m) := fun w' e => by subst e; exact ssum_all _ v L h
    clear h
    generalize (res L).1 = s at *
    generalize (res L).2 = c at *
    go_enter Try.func10, Try.ntmps10
    go_wp2_with (first | (go_at_call 5; refine (S.out _ rfl).mono ?_; rintro e w1 ⟨rfl, m, rfl⟩) | (go_at_call 14; refine (none_any _).mono ?_; rintro e w2 ⟨b, rfl, hb, rfl⟩; have HB : Hid (nan b = true) := hb; clear hb))
    go_ret
    exact ⟨b, m + 1, rfl, MN.out b HB.out, rfl⟩
set_option maxHeartbeats 1000000 in
theorem imean (w : World) (v : Value) (L : List Nat) (h : Reads w v L) (hw : ∀ x ∈ L, x < 18446744073709551616) : Calls Try.prog 11 #[v] w fun e w' => ∃ b, e = .returned (.float .f64 b) ∧ Mn L b ∧ w' = w := by
  by_cases hc : 0 < (res L).2
  · obtain ⟨b, hb, hr⟩ := div_run L hc
    have MN : Hid (Mn L b) := (by show Mn L b; unfold Mn; rw [if_pos hc]; exact hb)
    have S : Hid (∀ w', w' = w → Calls Try.prog 7 #[v] w' fun e w' => e = two (res L).1 (res L).2 ∧ w' = w) := fun w' e => by subst e; exact isum_all _ v L h hw
    clear hb h hw
    generalize (res L).1 = s at *
    generalize (res L).2 = c at *
    go_enter Try.func11, Try.ntmps11
    go_wp2_with (go_at_call 7; refine (S.out _ rfl).mono ?_; rintro e w1 ⟨rfl, hw1⟩; subst hw1)
    go_ret
    exact ⟨b, rfl, MN.out, rfl⟩
  · have MN : Hid (Mn L 9221120237041090561) := (by show Mn L _; unfold Mn; rw [if_neg hc]; decide +kernel)
    have S : Hid (∀ w', w' = w → Calls Try.prog 7 #[v] w' fun e w' => e = two (res L).1 (res L).2 ∧ w' = w) := fun w' e => by subst e; exact isum_all _ v L h hw
    clear h hw
    generalize (res L).1 = s at *
    generalize (res L).2 = c at *
    go_enter Try.func11, Try.ntmps11
    go_wp2_with (first | (go_at_call 7; refine (S.out _ rfl).mono ?_; rintro e w1 ⟨rfl, hw1⟩; subst hw1) | (go_at_call 15; refine (nan_any _).mono ?_; rintro e w2 ⟨rfl, hw2⟩; subst hw2))
    go_ret
    exact ⟨_, rfl, MN.out, rfl⟩

theorem sf_mean (L : List Nat) (a b : Nat) (ha : Mn L a) (hb : Mn L b) (w : World) : Calls Try.prog 8 #[.float .f64 a, .float .f64 b] w fun e w' => e = .returned (.bool true) ∧ w' = w := by
  unfold Mn at ha hb
  by_cases hc : 0 < (res L).2
  · rw [if_pos hc] at ha hb
    rw [ha] at hb
    cases hb
    exact sf_same a w
  · rw [if_neg hc] at ha hb
    exact sf_nan a b w ha hb

set_option maxHeartbeats 1000000 in
theorem sumLaw (w : World) (v : Value) (L : List Nat) (h : Reads w v L) (hw : ∀ x ∈ L, x < 18446744073709551616) :
    Calls Try.prog 3 #[v] w fun e w' => e = .returned (.bool true) ∧ Below w.heap.size w w' := by
  obtain ⟨a, cap, rfl⟩ := h.form
  by_cases hl : L.length ≤ 1048576
  · have i1 : ((L.length : Nat) : Int) ≤ 1048576 := by omega
    have HH : Hid (Reads w (.slice a L.length cap) L) := h
    have HWW : Hid (∀ x ∈ L, x < 18446744073709551616) := hw
    have hcc : ((res L).2 != (res L).2) = false := by simp
    clear h hw
    go_enter Try.func3, Try.ntmps3
    go_wp2_with fail
    refine (to_any _ _ L HH.out hl).mono ?_
    rintro e w1 ⟨v1, rfl, r1, hb1⟩
    have R1 : Hid (Reads w1 v1 L) := r1
    have HH1 : Hid (Reads w1 (.slice a L.length cap) L) := HH.out.below hb1 (Nat.le_refl _)
    have B1 : Hid (Below w.heap.size w w1) := hb1
    clear r1 hb1
    go_wp2_with fail
    refine (ssum_all _ _ L R1.out).mono ?_
    rintro e w2 ⟨rfl, m, rfl⟩
    go_wp2_with fail
    refine (to_any _ _ L (HH1.out.drewN m) hl).mono ?_
    rintro e w3 ⟨v3, rfl, r3, hb3⟩
    have R3 : Hid (Reads w3 v3 L) := r3
    have HH3 : Hid (Reads w3 (.slice a L.length cap) L) := (HH1.out.drewN m).below hb3 (Nat.le_refl _)
    have B3 : Hid (Below w.heap.size w w3) := (below_drewN B1.out m).trans (hb3.mono (below_drewN B1.out m).size)
    clear r3 hb3
    go_wp2_with fail
    refine (isum_all _ _ L R3.out HWW.out).mono ?_
    rintro e w4 ⟨rfl, hw4⟩
    subst hw4
    go_wp2_with fail
    refine (sf_same _ _).mono ?_
    rintro e w5 ⟨rfl, hw5⟩
    subst hw5
    go_wp2_with fail
    refine (to_any _ _ L HH3.out hl).mono ?_
    rintro e w6 ⟨v6, rfl, r6, hb6⟩
    have R6 : Hid (Reads w6 v6 L) := r6
    have R36 : Hid (Reads w6 v3 L) := R3.out.below hb6 (Nat.le_refl _)
    have B6 : Hid (Below w.heap.size w w6) := B3.out.trans (hb6.mono B3.out.size)
    clear r6 hb6
    go_wp2_with fail
    refine (eq_same _ _ _ L R36.out R6.out).mono ?_
    rintro e w7 ⟨rfl, m7, rfl⟩
    go_wp2_with fail
    go_ret
    exact ⟨rfl, below_drewN B6.out m7⟩
  · have i1 : (1048576 : Int) < ((L.length : Nat) : Int) := by omega
    go_enter Try.func3, Try.ntmps3
    go_wp2
    go_ret
    exact ⟨rfl, Below.refl _ _⟩

set_option maxHeartbeats 1000000 in
theorem meanLaw (w : World) (v : Value) (L : List Nat) (h : Reads w v L) (hw : ∀ x ∈ L, x < 18446744073709551616) :
    Calls Try.prog 4 #[v] w fun e w' => e = .returned (.bool true) ∧ Below w.heap.size w w' := by
  obtain ⟨a, cap, rfl⟩ := h.form
  by_cases hl : L.length ≤ 1048576
  · have i1 : ((L.length : Nat) : Int) ≤ 1048576 := by omega
    have HH : Hid (Reads w (.slice a L.length cap) L) := h
    have HWW : Hid (∀ x ∈ L, x < 18446744073709551616) := hw
    clear h hw
    go_enter Try.func4, Try.ntmps4
    go_wp2_with fail
    refine (to_any _ _ L HH.out hl).mono ?_
    rintro e w1 ⟨v1, rfl, r1, hb1⟩
    have R1 : Hid (Reads w1 v1 L) := r1
    have HH1 : Hid (Reads w1 (.slice a L.length cap) L) := HH.out.below hb1 (Nat.le_refl _)
    have B1 : Hid (Below w.heap.size w w1) := hb1
    clear r1 hb1
    go_wp2_with fail
    refine (smean _ _ L R1.out).mono ?_
    rintro e w2 ⟨b, m, rfl, mb, rfl⟩
    have MB : Hid (Mn L b) := mb
    clear mb
    go_wp2_with fail
    refine (to_any _ _ L (HH1.out.drewN m) hl).mono ?_
    rintro e w3 ⟨v3, rfl, r3, hb3⟩
    have R3 : Hid (Reads w3 v3 L) := r3
    have HH3 : Hid (Reads w3 (.slice a L.length cap) L) := (HH1.out.drewN m).below hb3 (Nat.le_refl _)
    have B3 : Hid (Below w.heap.size w w3) := (below_drewN B1.out m).trans (hb3.mono (below_drewN B1.out m).size)
    clear r3 hb3
    go_wp2_with fail
    refine (imean _ _ L R3.out HWW.out).mono ?_
    rintro e w4 ⟨b4, rfl, mb4, hw4⟩
    subst hw4
    have MB4 : Hid (Mn L b4) := mb4
    clear mb4
    go_wp2_with fail
    refine (sf_mean L _ _ MB4.out MB.out _).mono ?_
    rintro e w5 ⟨rfl, hw5⟩
    subst hw5
    go_wp2_with fail
    refine (to_any _ _ L HH3.out hl).mono ?_
    rintro e w6 ⟨v6, rfl, r6, hb6⟩
    have R6 : Hid (Reads w6 v6 L) := r6
    have R36 : Hid (Reads w6 v3 L) := R3.out.below hb6 (Nat.le_refl _)
    have B6 : Hid (Below w.heap.size w w6) := B3.out.trans (hb6.mono B3.out.size)
    clear r6 hb6
    go_wp2_with fail
    refine (eq_same _ _ _ L R36.out R6.out).mono ?_
    rintro e w7 ⟨rfl, m7, rfl⟩
    go_wp2_with fail
    go_ret
    exact ⟨rfl, below_drewN B6.out m7⟩
  · have i1 : (1048576 : Int) < ((L.length : Nat) : Int) := by omega
    go_enter Try.func4, Try.ntmps4
    go_wp2
    go_ret
    exact ⟨rfl, Below.refl _ _⟩
end Go.Proofs.Ytbjhkdebaimkfaa.Flt
