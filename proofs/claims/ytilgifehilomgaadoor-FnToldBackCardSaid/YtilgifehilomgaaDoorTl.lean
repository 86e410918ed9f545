/- The law FnToldBack walked. -/
import Derived.Test.YtilgifehilomgaaDoorRdJ
namespace Go.Proofs.YtilgifehilomgaaDoor.Rd
open Go.ChangeShapes Go.WideShapes Go.ChangeAt Go.RowKit Flt Dec

theorem self_eq (x : Nat) : (ord x x == some .eq) = !nan x := by
  have := self_ne x
  rw [← this]
  cases h : (ord x x == some .eq)
  · have : (ord x x != some .eq) = true := by unfold bne; rw [h]; rfl
    rw [this]; rfl
  · have : (ord x x != some .eq) = false := by unfold bne; rw [h]; rfl
    rw [this]; rfl

set_option maxRecDepth 20000 in
set_option maxHeartbeats 1000000 in
theorem tLaw (a : Option Addr) (n cap : Nat) (w : World) (hT : Dec.Tb w) (h : Code w a n cap) (hn : n < 9223372036854775808) : Calls Tryd.prog 3 #[.slice a n cap] w fun e w' => e = .returned (.bool true) ∧ Below w.heap.size w w' := by
  by_cases hb : 1048576 < n
  · go_enter Tryd.func3, Tryd.ntmps3
    go_wp2_with fail
    refine (big_yes _ _ _ _ hb hn).mono ?_
    rintro e w1 ⟨rfl, hw⟩
    have hw' := hw.symm
    subst hw'
    go_wp2_with fail
    go_ret
    exact ⟨rfl, Below.refl _ _⟩
  have H : Hid (Code w a n cap) := h
  have HB : Hid (n ≤ 1048576) := (by show _ ≤ _; omega)
  have HT : Hid (Dec.Tb w) := hT
  clear h hb hT
  go_enter Tryd.func3, Tryd.ntmps3
  go_wp2_with fail
  refine (big_no _ _ _ _ HB.out).mono ?_
  rintro e w1 ⟨rfl, hw⟩
  have hw' := hw.symm
  subst hw'
  go_wp2_with fail
  refine (drawTold_any a n cap _ H.out HB.out).mono ?_
  rintro e w2 ⟨⟨x, q, rfl, hx⟩, b2⟩
  have B2 : Hid (Below w.heap.size w w2) := b2
  obtain ⟨r, KD, S1, I1⟩ := told_both x q hx
  obtain ⟨V, B, RN, OR⟩ := back_both x q r KD
  have HS : Hid (∀ w, Calls Tryd.prog 6 #[.float .f64 x, .int .i64 q] w fun e w' => e = str r ∧ Below w.heap.size w w') := S1
  have HI : Hid (∀ w, Dec.Tb w → Calls Tryd.prog 7 #[.float .f64 x, .int .i64 q] w fun e w' => e = str r ∧ Below w.heap.size w w') := I1
  have HRN : Hid (∀ w, Dec.Tb w → Calls Tryd.prog 8 #[.string ⟨r.toArray⟩] w (fb V B w)) := RN
  clear b2 hx KD S1 I1 RN H
  have hrr : (r == r) = true := by simp
  have hrr' : (r != r) = false := by simp
  go_wp2_with fail
  refine (HS.out _).mono ?_
  rintro e w3 ⟨rfl, b3⟩
  have B3 : Hid (Below w.heap.size w w3) := B2.out.trans (b3.mono B2.out.size)
  clear b3 B2
  go_wp2_with fail
  refine (HI.out _ (HT.out.keep _ _ B3.out)).mono ?_
  rintro e w4 ⟨rfl, b4⟩
  have B4 : Hid (Below w.heap.size w w4) := B3.out.trans (b4.mono B3.out.size)
  clear b4 B3
  go_wp2_with fail
  refine (HRN.out _ (HT.out.keep _ _ B4.out)).mono ?_
  rintro e w5 ⟨⟨y, rfl, hy⟩, b5⟩
  have B5 : Hid (Below w.heap.size w w5) := B4.out.trans (b5.mono B4.out.size)
  have HY : Hid (cn y = V) := hy
  clear b5 B4 hy HRN HS HI
  rcases OR with ⟨hr, rfl⟩ | ⟨h1, h2, rfl, hall⟩
  · rcases hr with rfl | rfl
    · go_wp2_with fail
      go_ret
      exact ⟨rfl, B5.out⟩
    · go_wp2_with fail
      go_ret
      exact ⟨rfl, B5.out⟩
  · obtain ⟨ny, I2⟩ := hall y HY.out
    have HI2 : Hid (∀ w, Dec.Tb w → Calls Tryd.prog 7 #[.float .f64 y, .int .i64 q] w fun e w' => e = str r ∧ Below w.heap.size w w') := I2
    have e1 : (r == []) = false := by rw [beq_eq_false_iff_ne]; exact h1
    have e2 : (r == [102, 97, 114]) = false := by rw [beq_eq_false_iff_ne]; exact h2
    have sx := self_eq x
    have sy := self_eq y
    rw [ny] at sy
    obtain ⟨b, hb⟩ : ∃ b, (!nan x) = b := ⟨_, rfl⟩
    rw [hb] at sx sy
    have hbb : (b == b) = true := by cases b <;> rfl
    clear I2 hall ny hb
    go_wp2_with fail
    refine (HI2.out _ (HT.out.keep _ _ B5.out)).mono ?_
    rintro e w6 ⟨rfl, b6⟩
    have B6 : Hid (Below w.heap.size w w6) := B5.out.trans (b6.mono B5.out.size)
    clear b6 B5
    go_wp2_with fail
    go_ret
    exact ⟨by simp, B6.out⟩
end Go.Proofs.YtilgifehilomgaaDoor.Rd
