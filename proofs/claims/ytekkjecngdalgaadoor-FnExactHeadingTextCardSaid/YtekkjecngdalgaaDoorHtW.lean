/- The law FnExactHeadingText walked. -/
import Derived.Test.YtekkjecngdalgaaDoorHtL
namespace Go.Proofs.YtekkjecngdalgaaDoor.Head
open Go.ChangeShapes Go.WideShapes Go.ChangeAt Go.RowKit Mk Fig Dec

set_option maxHeartbeats 2000000 in
theorem textLaw (K A : ByteArray) (n : Int) (C : ByteArray) (d h m : Int) (M : ByteArray) (w : World) (hT : Tb w) (hK : K.size ≤ maxLen) (hA : A.size ≤ maxLen) (hC : C.size ≤ maxLen) (hM : M.size ≤ maxLen) :
    Calls Tryd.prog 3 #[hd K A n C d h m M] w fun e w' => e = .returned (.bool true) ∧ Below w.heap.size w w' := by
  have SZ : Hid (∀ w, Calls Tryd.prog 5 #[hd K A n C d h m M, .int .i64 1048576] w fun e w' => e = .returned (.int .i64 (sz K A C M)) ∧ Below w.heap.size w w') := fun w => sz_any K A n C d h m M w hK hA hC hM
  have TO : Hid (∀ w, Calls Tryd.prog 7 #[hd K A n C d h m M] w fun e w' => e = .returned (hd K A n C d h m M) ∧ Below w.heap.size w w') := fun w => toHeading_any K A n C d h m M w
  have HT : Hid (Tb w) := hT
  clear hK hA hC hM hT
  by_cases hz : 0 ≤ sz K A C M
  · have zz := sz_pos hz
    obtain ⟨r, b, S, I⟩ := both K A n C d h m M (by omega) (by omega) (by rw [ByteArray.size_append]; omega)
    have HS : Hid (∀ w, Calls Tryd.prog 6 #[hd K A n C d h m M] w fun e w' => e = sb r b ∧ Below w.heap.size w w') := S
    have HI : Hid (∀ w, Tb w → Calls Tryd.prog 8 #[hd K A n C d h m M] w fun e w' => e = sb r b ∧ Below w.heap.size w w') := I
    have hrr : (r == r) = true := by simp
    have hrr' : (r != r) = false := by simp
    have hbb : (b != b) = false := by simp
    clear S I zz
    generalize sz K A C M = z at *
    go_enter Tryd.func3, Tryd.ntmps3
    go_wp2_with fail
    refine (SZ.out _).mono ?_
    rintro e w1 ⟨rfl, hb1⟩
    obtain ⟨a0, a1, a2, a3, a4, a5, a6, a7, a8⟩ := keep8 (g := w.heap.size) (v0 := .string K) (v1 := .string A) (v2 := .int .i64 n) (v3 := .string C) (v4 := .int .i64 d) (v5 := .int .i64 h) (v6 := .int .i64 m) (v7 := .string M) hb1 (by simp) (by simp [go_sem]) (by simp [go_sem]) (by simp [go_sem]) (by simp [go_sem]) (by simp [go_sem]) (by simp [go_sem]) (by simp [go_sem]) (by simp [go_sem])
    have B1 : Hid (Below w.heap.size w w1) := ((Below.refl _ _).alloc (Nat.le_refl _) _).trans (hb1.mono (by simp))
    clear hb1
    go_wp2_with fail
    refine (TO.out _).mono ?_
    rintro e w2 ⟨rfl, hb2⟩
    obtain ⟨b0, b1, b2, b3, b4, b5, b6, b7, b8⟩ := keep8 (g := w.heap.size) (v0 := .string K) (v1 := .string A) (v2 := .int .i64 n) (v3 := .string C) (v4 := .int .i64 d) (v5 := .int .i64 h) (v6 := .int .i64 m) (v7 := .string M) hb2 a8 a0 a1 a2 a3 a4 a5 a6 a7
    have B2 : Hid (Below w.heap.size w w2) := B1.out.trans (hb2.mono B1.out.size)
    clear hb2 a0 a1 a2 a3 a4 a5 a6 a7 a8
    go_wp2_with fail
    refine (HS.out _).mono ?_
    rintro e w3 ⟨rfl, hb3⟩
    obtain ⟨a0, a1, a2, a3, a4, a5, a6, a7, a8⟩ := keep8 (g := w.heap.size) (v0 := .string K) (v1 := .string A) (v2 := .int .i64 n) (v3 := .string C) (v4 := .int .i64 d) (v5 := .int .i64 h) (v6 := .int .i64 m) (v7 := .string M) hb3 b8 b0 b1 b2 b3 b4 b5 b6 b7
    have B3 : Hid (Below w.heap.size w w3) := B2.out.trans (hb3.mono B2.out.size)
    clear hb3 b0 b1 b2 b3 b4 b5 b6 b7 b8
    go_wp2_with fail
    refine (TO.out _).mono ?_
    rintro e w4 ⟨rfl, hb4⟩
    have B4 : Hid (Below w.heap.size w w4) := B3.out.trans (hb4.mono B3.out.size)
    clear hb4
    go_wp2_with fail
    refine (HI.out _ (HT.out.keep _ _ B4.out)).mono ?_
    rintro e w5 ⟨rfl, hb5⟩
    have B5 : Hid (Below w.heap.size w w5) := B4.out.trans (hb5.mono B4.out.size)
    clear hb5
    go_wp2_with fail
    all_goals
      go_ret
      exact ⟨rfl, B5.out⟩
  · have hz' : sz K A C M < 0 := by omega
    generalize sz K A C M = z at *
    go_enter Tryd.func3, Tryd.ntmps3
    go_wp2_with fail
    refine (SZ.out _).mono ?_
    rintro e w1 ⟨rfl, hb1⟩
    have B1 : Hid (Below w.heap.size w w1) := ((Below.refl _ _).alloc (Nat.le_refl _) _).trans (hb1.mono (by simp))
    clear hb1
    go_wp2_with fail
    go_ret
    exact ⟨rfl, B1.out⟩
end Go.Proofs.YtekkjecngdalgaaDoor.Head
