/- MarkOf in the program. -/
import Derived.Test.YtepofpmdkphhdaaDoorMk
import Derived.Deep.RegionWith
import Derived.Deep.RegionHeld3
import Derived.Deep.DrawnRows
import Derived.Deep.Cut
import Derived.Deep.DeepCutAuto
import Derived.Deep.DeepMust
namespace Go.Proofs.YtepofpmdkphhdaaDoor.Mk
open Go.ChangeShapes Go.WideShapes Go.ChangeAt Go.RowKit
attribute [local go_sem ↓] Go.wp_at_zero Go.wp_at_succ

def part (p q : Int) : Int × Int := if p < 0 ∨ q < 0 then (-1, 0) else (4, p * 26 + q + 1)
theorem le_bounds (b : Nat) : -1 ≤ leOf b ∧ leOf b ≤ 25 := by
  unfold leOf lt
  by_cases h : 65 ≤ b ∧ b ≤ 90
  · rw [decide_eq_true h.1, decide_eq_true h.2]; simp; omega
  · have : (decide (65 ≤ b) && decide (b ≤ 90)) = false := by
      rw [Bool.and_eq_false_iff]; simp; omega
    rw [this]; simp

set_option maxHeartbeats 1000000 in
theorem partOf_any (p q : Int) (w : World) (hp : -1 ≤ p ∧ p ≤ 25) (hq : -1 ≤ q ∧ q ≤ 25) : Calls Tryd.prog 42 #[.int .i64 p, .int .i64 q] w fun e w' => e = ii (part p q) ∧ w' = w := by
  by_cases h1 : p < 0
  · have E : part p q = (-1, 0) := if_pos (.inl h1)
    rw [E]
    go_enter Tryd.func42, Tryd.ntmps42
    go_wp2
    go_ret2
    exact ⟨rfl, rfl⟩
  · by_cases h2 : q < 0
    · have E : part p q = (-1, 0) := if_pos (.inr h2)
      rw [E]
      go_enter Tryd.func42, Tryd.ntmps42
      go_wp2
      go_ret2
      exact ⟨rfl, rfl⟩
    · have E : part p q = (4, p * 26 + q + 1) := if_neg (by omega)
      rw [E]
      obtain ⟨p1, p2⟩ := hp
      obtain ⟨q1, q2⟩ := hq
      have j1 : 0 ≤ p := by omega
      have j2 : 0 ≤ q := by omega
      clear h1 h2 E
      go_enter Tryd.func42, Tryd.ntmps42
      go_wp2
      go_ret2
      exact ⟨rfl, rfl⟩

set_option maxHeartbeats 400000 in
theorem within_any (n l h : Int) (w : World) : Calls Tryd.prog 20 #[.int .i64 n, .int .i64 l, .int .i64 h] w fun e w' => e = .returned (.bool (decide (l ≤ n) && decide (n ≤ h))) ∧ w' = w := by
  cases h1 : decide (l ≤ n)
  · have i1 : ¬ l ≤ n := by simpa using h1
    go_enter Tryd.func20, Tryd.ntmps20
    go_wp2
    go_ret
    exact ⟨rfl, rfl⟩
  · have i1 : l ≤ n := by simpa using h1
    go_enter Tryd.func20, Tryd.ntmps20
    go_wp2
    go_ret
    exact ⟨rfl, rfl⟩

set_option maxHeartbeats 2000000 in
theorem imark_P (a b c : UInt8) (w : World) (h : a.toNat = 80) : Calls Tryd.prog 33 #[.string ⟨#[a, b, c]⟩] w fun e w' => e = ii (part (leOf b.toNat) (leOf c.toNat)) ∧ ∃ m, w' = w.drewN m := by
  have he := empty_eq ⟨#[a, b, c]⟩
  have hsz : (⟨#[a, b, c]⟩ : ByteArray).size = 3 := rfl
  rw [decide_eq_false (by rw [hsz]; omega)] at he
  have g0 : (⟨#[a, b, c]⟩ : ByteArray)[0]'(by rw [hsz]; omega) = a := rfl
  have g1 : (⟨#[a, b, c]⟩ : ByteArray)[1]'(by rw [hsz]; omega) = b := rfl
  have g2 : (⟨#[a, b, c]⟩ : ByteArray)[2]'(by rw [hsz]; omega) = c := rfl
  have BY : Hid ((-1 ≤ leOf b.toNat ∧ leOf b.toNat ≤ 25) ∧ (-1 ≤ leOf c.toNat ∧ leOf c.toNat ≤ 25)) := ⟨le_bounds _, le_bounds _⟩
  have LY : Hid (∀ w, Calls Tryd.prog 43 #[.int .u8 b.toNat] w fun e w' => e = .returned (.int .i64 (leOf b.toNat)) ∧ w' = w) := letterOf_any _
  have LZ : Hid (∀ w, Calls Tryd.prog 43 #[.int .u8 c.toNat] w fun e w' => e = .returned (.int .i64 (leOf c.toNat)) ∧ w' = w) := letterOf_any _
  have PA : Hid (∀ w, Calls Tryd.prog 42 #[.int .i64 (leOf b.toNat), .int .i64 (leOf c.toNat)] w fun e w' => e = ii (part (leOf b.toNat) (leOf c.toNat)) ∧ w' = w) := fun w => partOf_any _ _ w BY.out.1 BY.out.2
  generalize leOf b.toNat = ly at *
  generalize leOf c.toNat = lz at *
  generalize part ly lz = R at *
  obtain ⟨R1, R2⟩ := R
  generalize gy : b.toNat = y at *
  generalize gz : c.toNat = z at *
  go_enter Tryd.func33, Tryd.ntmps33
  go_upto_region 6 with fail
  go_region_held3 (fun _ => True) (trivial)
    (first
    | (go_at_call_of 43 (Value.int IntKind.u8 (y : Int)); refine (LY.out _).mono ?_; rintro e w1 ⟨rfl, hw1⟩; subst hw1)
    | (go_at_call_of 43 (Value.int IntKind.u8 (z : Int)); refine (LZ.out _).mono ?_; rintro e w1 ⟨rfl, hw1⟩; subst hw1)
    | (go_at_call 42; refine (PA.out _).mono ?_; rintro e w1 ⟨rfl, hw1⟩; subst hw1))
  all_goals
    go_wp2_with fail
    go_ret2
    exact ⟨rfl, 1, rfl⟩

set_option maxHeartbeats 2000000 in
theorem imark_no (a b c : UInt8) (w : World) (h : a.toNat ≠ 80) (hz : leOf c.toNat + 1 < 1 ∨ 24 < leOf c.toNat + 1) : Calls Tryd.prog 33 #[.string ⟨#[a, b, c]⟩] w fun e w' => e = ii (-1, 0) ∧ ∃ m, w' = w.drewN m := by
  have he := empty_eq ⟨#[a, b, c]⟩
  have hsz : (⟨#[a, b, c]⟩ : ByteArray).size = 3 := rfl
  rw [decide_eq_false (by rw [hsz]; omega)] at he
  have g0 : (⟨#[a, b, c]⟩ : ByteArray)[0]'(by rw [hsz]; omega) = a := rfl
  have g2 : (⟨#[a, b, c]⟩ : ByteArray)[2]'(by rw [hsz]; omega) = c := rfl
  have hp' : ((a.toNat : Int) == 80) = false := by simp; omega
  obtain ⟨l1, l2⟩ := le_bounds c.toNat
  have LZ : Hid (∀ w, Calls Tryd.prog 43 #[.int .u8 c.toNat] w fun e w' => e = .returned (.int .i64 (leOf c.toNat)) ∧ w' = w) := letterOf_any _
  have hW : (decide (1 ≤ leOf c.toNat + 1) && decide (leOf c.toNat + 1 ≤ 24)) = false := by rw [Bool.and_eq_false_iff]; simp; omega
  generalize leOf c.toNat = lz at *
  go_enter Tryd.func33, Tryd.ntmps33
  go_wp2_with (first | (go_at_call 43; refine (LZ.out _).mono ?_; rintro e w1 ⟨rfl, hw1⟩; subst hw1) | (go_at_call 20; refine (within_any _ _ _ _).mono ?_; rintro e w1 ⟨rfl, hw1⟩; subst hw1))
  go_ret2
  exact ⟨rfl, 0, rfl⟩

theorem ext2 (a b c : UInt8) (x y : UInt8) : (((⟨#[a, b, c]⟩ : ByteArray).extract 0 2).toList == [x, y]) = (decide (a = x) && decide (b = y)) := by
  rw [ByteArray.toList_eq]
  have : ((⟨#[a, b, c]⟩ : ByteArray).extract 0 2).data.toList = [a, b] := by rw [ByteArray.data_extract]; rfl
  rw [this]
  simp [Bool.beq_eq_decide_eq]

def pick3 (p q r : Bool) (n : Int) : Int × Int := if p then (1, n) else if q then (2, n) else if r then (3, n) else (-1, 0)
set_option maxHeartbeats 2000000 in
theorem imark_yes (a b c : UInt8) (w : World) (h : a.toNat ≠ 80) (hz : 1 ≤ leOf c.toNat + 1 ∧ leOf c.toNat + 1 ≤ 24) : Calls Tryd.prog 33 #[.string ⟨#[a, b, c]⟩] w fun e w' => e = ii (pick3 (((⟨#[a, b, c]⟩ : ByteArray).extract 0 2).toList == [82, 82]) (((⟨#[a, b, c]⟩ : ByteArray).extract 0 2).toList == [67, 67]) (((⟨#[a, b, c]⟩ : ByteArray).extract 0 2).toList == [65, 65]) (leOf c.toNat + 1)) ∧ ∃ m, w' = w.drewN m := by
  have he := empty_eq ⟨#[a, b, c]⟩
  have hsz : (⟨#[a, b, c]⟩ : ByteArray).size = 3 := rfl
  rw [decide_eq_false (by rw [hsz]; omega)] at he
  have g0 : (⟨#[a, b, c]⟩ : ByteArray)[0]'(by rw [hsz]; omega) = a := rfl
  have g2 : (⟨#[a, b, c]⟩ : ByteArray)[2]'(by rw [hsz]; omega) = c := rfl
  have hp' : ((a.toNat : Int) == 80) = false := by simp; omega
  obtain ⟨l1, l2⟩ := le_bounds c.toNat
  have LZ : Hid (∀ w, Calls Tryd.prog 43 #[.int .u8 c.toNat] w fun e w' => e = .returned (.int .i64 (leOf c.toNat)) ∧ w' = w) := letterOf_any _
  have hW : (decide (1 ≤ leOf c.toNat + 1) && decide (leOf c.toNat + 1 ≤ 24)) = true := by simp; omega
  generalize leOf c.toNat = lz at *
  cases h82 : (((⟨#[a, b, c]⟩ : ByteArray).extract 0 2).toList == [82, 82])
  · cases h67 : (((⟨#[a, b, c]⟩ : ByteArray).extract 0 2).toList == [67, 67])
    · cases h65 : (((⟨#[a, b, c]⟩ : ByteArray).extract 0 2).toList == [65, 65])
      all_goals
        go_enter Tryd.func33, Tryd.ntmps33
        go_wp2_with (first | (go_at_call 43; refine (LZ.out _).mono ?_; rintro e w1 ⟨rfl, hw1⟩; subst hw1) | (go_at_call 20; refine (within_any _ _ _ _).mono ?_; rintro e w1 ⟨rfl, hw1⟩; subst hw1))
        go_ret2
        exact ⟨rfl, 0, rfl⟩
    · go_enter Tryd.func33, Tryd.ntmps33
      go_wp2_with (first | (go_at_call 43; refine (LZ.out _).mono ?_; rintro e w1 ⟨rfl, hw1⟩; subst hw1) | (go_at_call 20; refine (within_any _ _ _ _).mono ?_; rintro e w1 ⟨rfl, hw1⟩; subst hw1))
      go_ret2
      exact ⟨rfl, 0, rfl⟩
  · go_enter Tryd.func33, Tryd.ntmps33
    go_wp2_with (first | (go_at_call 43; refine (LZ.out _).mono ?_; rintro e w1 ⟨rfl, hw1⟩; subst hw1) | (go_at_call 20; refine (within_any _ _ _ _).mono ?_; rintro e w1 ⟨rfl, hw1⟩; subst hw1))
    go_ret2
    exact ⟨rfl, 0, rfl⟩

theorem u8_is (a : UInt8) (n : Nat) (hn : n < 256) : decide (a = UInt8.ofNat n) = decide (a.toNat = n) := by
  have : (a = UInt8.ofNat n) ↔ a.toNat = n := by
    constructor
    · intro h; rw [h]; simp; omega
    · intro h; rw [← h]; simp
  exact decide_eq_decide.2 this

theorem lt_iff (b : Nat) : lt b = true ↔ 65 ≤ b ∧ b ≤ 90 := by unfold lt; simp

theorem fin_P (y z : Nat) : part (leOf y) (leOf z) = mkOf 3 80 y z := by
  have e : mkOf 3 80 y z = if lt y && lt z then (4, ((y : Int) - 65) * 26 + ((z : Int) - 65 + 1)) else (-1, 0) := by
    unfold mkOf
    rw [show lt 80 = true by decide]
    simp
  rw [e]
  unfold part leOf
  cases hy : lt y
  · simp
  · cases hz : lt z
    · simp
    · have h1 := (lt_iff y).1 hy
      have h2 := (lt_iff z).1 hz
      simp
      rw [if_neg (by omega)]
      simp
      omega
theorem fin_no (x y z : Nat) (hx : x ≠ 80) (hz : leOf z + 1 < 1 ∨ 24 < leOf z + 1) : mkOf 3 x y z = (-1, 0) := by
  unfold mkOf
  simp only [show ¬ ((3 : Nat) = 0) by omega, show ¬ ((3 : Nat) ≠ 3) by omega, if_false]
  unfold leOf at hz
  cases h : lt z
  · simp
  · rw [h] at hz
    have h2 := (lt_iff z).1 h
    simp at hz
    have hc : x ≠ y ∨ 24 < (z : Int) - 65 + 1 := .inr (by omega)
    rw [if_neg hx, if_pos hc]
    split <;> rfl
theorem fin_yes (x y z : Nat) (hx : x ≠ 80) (hz : 1 ≤ leOf z + 1 ∧ leOf z + 1 ≤ 24) :
    pick3 (decide (x = 82) && decide (y = 82)) (decide (x = 67) && decide (y = 67)) (decide (x = 65) && decide (y = 65)) (leOf z + 1) = mkOf 3 x y z := by
  have hl : lt z = true := by
    cases h : lt z
    · unfold leOf at hz; rw [h] at hz; simp at hz
    · rfl
  have h2 := (lt_iff z).1 hl
  have e : leOf z = (z : Int) - 65 := by unfold leOf; rw [hl]; rfl
  rw [e] at hz ⊢
  unfold mkOf pick3
  rw [hl]
  by_cases h82 : x = 82 ∧ y = 82
  · obtain ⟨rfl, rfl⟩ := h82
    simp [show lt 82 = true by decide]
    omega
  · by_cases h67 : x = 67 ∧ y = 67
    · obtain ⟨rfl, rfl⟩ := h67
      simp [show lt 67 = true by decide]
      omega
    · by_cases h65 : x = 65 ∧ y = 65
      · obtain ⟨rfl, rfl⟩ := h65
        simp [show lt 65 = true by decide]
        omega
      · have n1 : (decide (x = 82) && decide (y = 82)) = false := by rw [Bool.and_eq_false_iff]; simp; omega
        have n2 : (decide (x = 67) && decide (y = 67)) = false := by rw [Bool.and_eq_false_iff]; simp; omega
        have n3 : (decide (x = 65) && decide (y = 65)) = false := by rw [Bool.and_eq_false_iff]; simp; omega
        rw [n1, n2, n3]
        simp
        rw [if_neg hx]
        by_cases hxy : x = y
        · rw [if_neg (show ¬ x = 82 by omega), if_neg (show ¬ x = 67 by omega), if_neg (show ¬ x = 65 by omega)]
          split <;> (intros; rfl)
        · have hc : ¬ x = y ∨ 24 < (z : Int) - 65 + 1 := .inl hxy
          rw [if_pos hc]
          intros
          rfl

theorem imark_any (s : ByteArray) (w : World) : Calls Tryd.prog 33 #[.string s] w fun e w' => e = ii (markOf s) ∧ ∃ m, w' = w.drewN m := by
  by_cases h3 : s.size = 3
  · obtain ⟨a, b, c, rfl⟩ := three s h3
    rw [mark_three]
    by_cases ha : a.toNat = 80
    · rw [ha, ← fin_P]
      exact imark_P a b c w ha
    · by_cases hz : 1 ≤ leOf c.toNat + 1 ∧ leOf c.toNat + 1 ≤ 24
      · have := imark_yes a b c w ha hz
        rw [ext2, ext2, ext2] at this
        have e82 := fun q : UInt8 => u8_is q 82 (by omega)
        have e67 := fun q : UInt8 => u8_is q 67 (by omega)
        have e65 := fun q : UInt8 => u8_is q 65 (by omega)
        rw [show (82 : UInt8) = UInt8.ofNat 82 from rfl, show (67 : UInt8) = UInt8.ofNat 67 from rfl, show (65 : UInt8) = UInt8.ofNat 65 from rfl, e82, e82, e67, e67, e65, e65, fin_yes _ _ _ ha hz] at this
        exact this
      · rw [fin_no _ _ _ ha (by omega)]
        exact imark_no a b c w ha (by omega)
  · have he := empty_eq s
    by_cases h0 : s.size = 0
    · have E : markOf s = (0, 0) := by unfold markOf mkOf; rw [if_pos h0]
      rw [E]
      rw [decide_eq_true h0] at he
      go_enter Tryd.func33, Tryd.ntmps33
      go_wp2
      go_ret2
      exact ⟨rfl, 0, rfl⟩
    · rw [decide_eq_false h0] at he
      have E : markOf s = (-1, 0) := by unfold markOf mkOf; rw [if_neg h0, if_pos h3]
      rw [E]
      have i1 : ((s.size : Int) != 3) = true := by simp; omega
      go_enter Tryd.func33, Tryd.ntmps33
      go_wp2
      go_ret2
      exact ⟨rfl, 0, rfl⟩

end Go.Proofs.YtepofpmdkphhdaaDoor.Mk
