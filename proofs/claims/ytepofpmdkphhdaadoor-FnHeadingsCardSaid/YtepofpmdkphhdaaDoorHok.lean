/- Whether a heading is right, in the model, and what is wrong with it, in the program. -/
import Derived.Test.YtepofpmdkphhdaaDoorHead
namespace Go.Proofs.YtepofpmdkphhdaaDoor.Head
open Go.ChangeShapes Go.WideShapes Go.ChangeAt Go.RowKit Mk Fig

abbrev hd (K A : ByteArray) (n : Int) (C : ByteArray) (d h m : Int) (M : ByteArray) : Value := .agg #[.string K, .string A, .int .i64 n, .string C, .int .i64 d, .int .i64 h, .int .i64 m, .string M]
def wi (n l h : Int) : Bool := decide (l ≤ n) && decide (n ≤ h)
def two (s : ByteArray) : Bool := lets s && decide (s.size = 2)
/-- The first thing that is wrong with a heading; 0: none. -/
def fault (K A : ByteArray) (n : Int) (C : ByteArray) (d h m : Int) (M : ByteArray) : Int :=
  if !(two K && two A && wi n 0 99) then 2 else if !cen C then 3 else if !(wi d 1 31 && wi h 0 23 && wi m 0 59) then 4 else if (markOf M).1 < 0 then 5 else 0

set_option maxHeartbeats 400000 in
theorem l2in_any (n l h : Int) (w : World) : Calls Tryd.prog 31 #[.int .i64 n, .int .i64 l, .int .i64 h] w fun e w' => e = .returned (.bool (wi n l h)) ∧ w' = w := by
  unfold wi
  cases h1 : decide (l ≤ n)
  · have i1 : ¬ l ≤ n := by simpa using h1
    go_enter Tryd.func31, Tryd.ntmps31
    go_wp2
    go_ret
    exact ⟨rfl, rfl⟩
  · have i1 : l ≤ n := by simpa using h1
    go_enter Tryd.func31, Tryd.ntmps31
    go_wp2
    go_ret
    exact ⟨rfl, rfl⟩

theorem lets_append (a b : ByteArray) : lets (a ++ b) = (lets a && lets b) := by
  unfold lets
  rw [ByteArray.data_append]
  simp

set_option maxHeartbeats 4000000 in
theorem sok_walk (K A : ByteArray) (n : Int) (C : ByteArray) (d h m : Int) (M : ByteArray) (mk mn : Int) (k1 k2 b8 : Bool) (e1 : ((K.size : Int) == 2) = k1) (e2 : ((A.size : Int) == 2) = k2) (e8 : decide (0 ≤ mk) = b8) (bl b3 b4 b5 b6 b7 : Bool) (w : World) (hMK : ∀ w, Calls Tryd.prog 29 #[.string M] w fun e w' => e = ii (mk, mn) ∧ ∃ q, w' = w.drewN q)
    (hL : ∀ w, Calls Tryd.prog 25 #[.string (K ++ A)] w fun e w' => e = .returned (.bool bl) ∧ w' = w)
    (h3 : ∀ w, Calls Tryd.prog 31 #[.int .i64 n, .int .i64 0, .int .i64 99] w fun e w' => e = .returned (.bool b3) ∧ w' = w)
    (h4 : ∀ w, Calls Tryd.prog 27 #[.string C] w fun e w' => e = .returned (.bool b4) ∧ w' = w)
    (h5 : ∀ w, Calls Tryd.prog 31 #[.int .i64 d, .int .i64 1, .int .i64 31] w fun e w' => e = .returned (.bool b5) ∧ w' = w)
    (h6 : ∀ w, Calls Tryd.prog 31 #[.int .i64 h, .int .i64 0, .int .i64 23] w fun e w' => e = .returned (.bool b6) ∧ w' = w)
    (h7 : ∀ w, Calls Tryd.prog 31 #[.int .i64 m, .int .i64 0, .int .i64 59] w fun e w' => e = .returned (.bool b7) ∧ w' = w) :
    Calls Tryd.prog 14 #[hd K A n C d h m M] w fun e w' => e = .returned (.bool (k1 && (k2 && (bl && (b3 && (b4 && (b5 && (b6 && (b7 && b8))))))))) ∧ Below w.heap.size w w' := by
  have MK : Hid _ := hMK
  have HL : Hid _ := hL
  have H3 : Hid _ := h3
  have H4 : Hid _ := h4
  have H5 : Hid _ := h5
  have H6 : Hid _ := h6
  have H7 : Hid _ := h7
  clear hMK hL h3 h4 h5 h6 h7
  go_enter Tryd.func14, Tryd.ntmps14
  go_wp2_with fail
  refine (MK.out _).mono ?_
  rintro e w1 ⟨rfl, q, rfl⟩
  have BE : Hid (Below w.heap.size w ((w.alloc (.cells #[.string K, .string A, .int .i64 n, .string C, .int .i64 d, .int .i64 h, .int .i64 m, .string M] 25)).drewN q)) := below_drewN ((Below.refl _ _).alloc (Nat.le_refl _) _) _
  cases k1
  · go_wp2_with (first | (go_at_call 25; refine (HL.out _).mono ?_; rintro e w1 ⟨rfl, hw1⟩; subst hw1) | (go_at_call_of 31 (Value.int IntKind.i64 n); refine (H3.out _).mono ?_; rintro e w1 ⟨rfl, hw1⟩; subst hw1) | (go_at_call 27; refine (H4.out _).mono ?_; rintro e w1 ⟨rfl, hw1⟩; subst hw1) | (go_at_call_of 31 (Value.int IntKind.i64 d); refine (H5.out _).mono ?_; rintro e w1 ⟨rfl, hw1⟩; subst hw1) | (go_at_call_of 31 (Value.int IntKind.i64 h); refine (H6.out _).mono ?_; rintro e w1 ⟨rfl, hw1⟩; subst hw1) | (go_at_call_of 31 (Value.int IntKind.i64 m); refine (H7.out _).mono ?_; rintro e w1 ⟨rfl, hw1⟩; subst hw1))
    all_goals
      go_ret
      exact ⟨rfl, BE.out⟩
  · cases k2
    · go_wp2_with (first | (go_at_call 25; refine (HL.out _).mono ?_; rintro e w1 ⟨rfl, hw1⟩; subst hw1) | (go_at_call_of 31 (Value.int IntKind.i64 n); refine (H3.out _).mono ?_; rintro e w1 ⟨rfl, hw1⟩; subst hw1) | (go_at_call 27; refine (H4.out _).mono ?_; rintro e w1 ⟨rfl, hw1⟩; subst hw1) | (go_at_call_of 31 (Value.int IntKind.i64 d); refine (H5.out _).mono ?_; rintro e w1 ⟨rfl, hw1⟩; subst hw1) | (go_at_call_of 31 (Value.int IntKind.i64 h); refine (H6.out _).mono ?_; rintro e w1 ⟨rfl, hw1⟩; subst hw1) | (go_at_call_of 31 (Value.int IntKind.i64 m); refine (H7.out _).mono ?_; rintro e w1 ⟨rfl, hw1⟩; subst hw1))
      all_goals
        go_ret
        exact ⟨rfl, BE.out⟩
    · have z1 : K.size = 2 := by have := eq_of_beq e1; omega
      have z2 : A.size = 2 := by have := eq_of_beq e2; omega
      cases bl
      · go_wp2_with (first | (go_at_call 25; refine (HL.out _).mono ?_; rintro e w1 ⟨rfl, hw1⟩; subst hw1) | (go_at_call_of 31 (Value.int IntKind.i64 n); refine (H3.out _).mono ?_; rintro e w1 ⟨rfl, hw1⟩; subst hw1) | (go_at_call 27; refine (H4.out _).mono ?_; rintro e w1 ⟨rfl, hw1⟩; subst hw1) | (go_at_call_of 31 (Value.int IntKind.i64 d); refine (H5.out _).mono ?_; rintro e w1 ⟨rfl, hw1⟩; subst hw1) | (go_at_call_of 31 (Value.int IntKind.i64 h); refine (H6.out _).mono ?_; rintro e w1 ⟨rfl, hw1⟩; subst hw1) | (go_at_call_of 31 (Value.int IntKind.i64 m); refine (H7.out _).mono ?_; rintro e w1 ⟨rfl, hw1⟩; subst hw1))
        all_goals
          go_ret
          exact ⟨rfl, BE.out⟩
      · cases b3
        · go_wp2_with (first | (go_at_call 25; refine (HL.out _).mono ?_; rintro e w1 ⟨rfl, hw1⟩; subst hw1) | (go_at_call_of 31 (Value.int IntKind.i64 n); refine (H3.out _).mono ?_; rintro e w1 ⟨rfl, hw1⟩; subst hw1) | (go_at_call 27; refine (H4.out _).mono ?_; rintro e w1 ⟨rfl, hw1⟩; subst hw1) | (go_at_call_of 31 (Value.int IntKind.i64 d); refine (H5.out _).mono ?_; rintro e w1 ⟨rfl, hw1⟩; subst hw1) | (go_at_call_of 31 (Value.int IntKind.i64 h); refine (H6.out _).mono ?_; rintro e w1 ⟨rfl, hw1⟩; subst hw1) | (go_at_call_of 31 (Value.int IntKind.i64 m); refine (H7.out _).mono ?_; rintro e w1 ⟨rfl, hw1⟩; subst hw1))
          all_goals
            go_ret
            exact ⟨rfl, BE.out⟩
        · cases b4
          · go_wp2_with (first | (go_at_call 25; refine (HL.out _).mono ?_; rintro e w1 ⟨rfl, hw1⟩; subst hw1) | (go_at_call_of 31 (Value.int IntKind.i64 n); refine (H3.out _).mono ?_; rintro e w1 ⟨rfl, hw1⟩; subst hw1) | (go_at_call 27; refine (H4.out _).mono ?_; rintro e w1 ⟨rfl, hw1⟩; subst hw1) | (go_at_call_of 31 (Value.int IntKind.i64 d); refine (H5.out _).mono ?_; rintro e w1 ⟨rfl, hw1⟩; subst hw1) | (go_at_call_of 31 (Value.int IntKind.i64 h); refine (H6.out _).mono ?_; rintro e w1 ⟨rfl, hw1⟩; subst hw1) | (go_at_call_of 31 (Value.int IntKind.i64 m); refine (H7.out _).mono ?_; rintro e w1 ⟨rfl, hw1⟩; subst hw1))
            all_goals
              go_ret
              exact ⟨rfl, BE.out⟩
          · cases b5
            · go_wp2_with (first | (go_at_call 25; refine (HL.out _).mono ?_; rintro e w1 ⟨rfl, hw1⟩; subst hw1) | (go_at_call_of 31 (Value.int IntKind.i64 n); refine (H3.out _).mono ?_; rintro e w1 ⟨rfl, hw1⟩; subst hw1) | (go_at_call 27; refine (H4.out _).mono ?_; rintro e w1 ⟨rfl, hw1⟩; subst hw1) | (go_at_call_of 31 (Value.int IntKind.i64 d); refine (H5.out _).mono ?_; rintro e w1 ⟨rfl, hw1⟩; subst hw1) | (go_at_call_of 31 (Value.int IntKind.i64 h); refine (H6.out _).mono ?_; rintro e w1 ⟨rfl, hw1⟩; subst hw1) | (go_at_call_of 31 (Value.int IntKind.i64 m); refine (H7.out _).mono ?_; rintro e w1 ⟨rfl, hw1⟩; subst hw1))
              all_goals
                go_ret
                exact ⟨rfl, BE.out⟩
            · cases b6
              · go_wp2_with (first | (go_at_call 25; refine (HL.out _).mono ?_; rintro e w1 ⟨rfl, hw1⟩; subst hw1) | (go_at_call_of 31 (Value.int IntKind.i64 n); refine (H3.out _).mono ?_; rintro e w1 ⟨rfl, hw1⟩; subst hw1) | (go_at_call 27; refine (H4.out _).mono ?_; rintro e w1 ⟨rfl, hw1⟩; subst hw1) | (go_at_call_of 31 (Value.int IntKind.i64 d); refine (H5.out _).mono ?_; rintro e w1 ⟨rfl, hw1⟩; subst hw1) | (go_at_call_of 31 (Value.int IntKind.i64 h); refine (H6.out _).mono ?_; rintro e w1 ⟨rfl, hw1⟩; subst hw1) | (go_at_call_of 31 (Value.int IntKind.i64 m); refine (H7.out _).mono ?_; rintro e w1 ⟨rfl, hw1⟩; subst hw1))
                all_goals
                  go_ret
                  exact ⟨rfl, BE.out⟩
              · cases b7
                · go_wp2_with (first | (go_at_call 25; refine (HL.out _).mono ?_; rintro e w1 ⟨rfl, hw1⟩; subst hw1) | (go_at_call_of 31 (Value.int IntKind.i64 n); refine (H3.out _).mono ?_; rintro e w1 ⟨rfl, hw1⟩; subst hw1) | (go_at_call 27; refine (H4.out _).mono ?_; rintro e w1 ⟨rfl, hw1⟩; subst hw1) | (go_at_call_of 31 (Value.int IntKind.i64 d); refine (H5.out _).mono ?_; rintro e w1 ⟨rfl, hw1⟩; subst hw1) | (go_at_call_of 31 (Value.int IntKind.i64 h); refine (H6.out _).mono ?_; rintro e w1 ⟨rfl, hw1⟩; subst hw1) | (go_at_call_of 31 (Value.int IntKind.i64 m); refine (H7.out _).mono ?_; rintro e w1 ⟨rfl, hw1⟩; subst hw1))
                  all_goals
                    go_ret
                    exact ⟨rfl, BE.out⟩
                · by_cases hmk : 0 ≤ mk
                  · obtain rfl : b8 = true := e8.symm.trans (decide_eq_true hmk)
                    go_wp2_with (first | (go_at_call 25; refine (HL.out _).mono ?_; rintro e w1 ⟨rfl, hw1⟩; subst hw1) | (go_at_call_of 31 (Value.int IntKind.i64 n); refine (H3.out _).mono ?_; rintro e w1 ⟨rfl, hw1⟩; subst hw1) | (go_at_call 27; refine (H4.out _).mono ?_; rintro e w1 ⟨rfl, hw1⟩; subst hw1) | (go_at_call_of 31 (Value.int IntKind.i64 d); refine (H5.out _).mono ?_; rintro e w1 ⟨rfl, hw1⟩; subst hw1) | (go_at_call_of 31 (Value.int IntKind.i64 h); refine (H6.out _).mono ?_; rintro e w1 ⟨rfl, hw1⟩; subst hw1) | (go_at_call_of 31 (Value.int IntKind.i64 m); refine (H7.out _).mono ?_; rintro e w1 ⟨rfl, hw1⟩; subst hw1))
                    all_goals
                      go_ret
                      exact ⟨rfl, BE.out⟩
                  · obtain rfl : b8 = false := e8.symm.trans (decide_eq_false hmk)
                    go_wp2_with (first | (go_at_call 25; refine (HL.out _).mono ?_; rintro e w1 ⟨rfl, hw1⟩; subst hw1) | (go_at_call_of 31 (Value.int IntKind.i64 n); refine (H3.out _).mono ?_; rintro e w1 ⟨rfl, hw1⟩; subst hw1) | (go_at_call 27; refine (H4.out _).mono ?_; rintro e w1 ⟨rfl, hw1⟩; subst hw1) | (go_at_call_of 31 (Value.int IntKind.i64 d); refine (H5.out _).mono ?_; rintro e w1 ⟨rfl, hw1⟩; subst hw1) | (go_at_call_of 31 (Value.int IntKind.i64 h); refine (H6.out _).mono ?_; rintro e w1 ⟨rfl, hw1⟩; subst hw1) | (go_at_call_of 31 (Value.int IntKind.i64 m); refine (H7.out _).mono ?_; rintro e w1 ⟨rfl, hw1⟩; subst hw1))
                    all_goals
                      go_ret
                      exact ⟨rfl, BE.out⟩

def flt (b1 b2 b3 b4 b5 b6 b7 b8 : Bool) : Int := if !(b1 && b2 && b3) then 2 else if !b4 then 3 else if !(b5 && b6 && b7) then 4 else if b8 then 5 else 0
set_option maxHeartbeats 4000000 in
theorem fault_walk (K A : ByteArray) (n : Int) (C : ByteArray) (d h m : Int) (M : ByteArray) (mk mn : Int) (b8 : Bool) (e8 : decide (mk < 0) = b8) (b1 b2 b3 b4 b5 b6 b7 : Bool) (w : World) (hMK : ∀ w, Calls Tryd.prog 33 #[.string M] w fun e w' => e = ii (mk, mn) ∧ ∃ q, w' = w.drewN q)
    (h1 : ∀ w, Calls Tryd.prog 34 #[.string K, .int .i64 2] w fun e w' => e = .returned (.bool b1) ∧ w' = w)
    (h2 : ∀ w, Calls Tryd.prog 34 #[.string A, .int .i64 2] w fun e w' => e = .returned (.bool b2) ∧ w' = w)
    (h3 : ∀ w, Calls Tryd.prog 20 #[.int .i64 n, .int .i64 0, .int .i64 99] w fun e w' => e = .returned (.bool b3) ∧ w' = w)
    (h4 : ∀ w, Calls Tryd.prog 35 #[.string C] w fun e w' => e = .returned (.bool b4) ∧ w' = w)
    (h5 : ∀ w, Calls Tryd.prog 20 #[.int .i64 d, .int .i64 1, .int .i64 31] w fun e w' => e = .returned (.bool b5) ∧ w' = w)
    (h6 : ∀ w, Calls Tryd.prog 20 #[.int .i64 h, .int .i64 0, .int .i64 23] w fun e w' => e = .returned (.bool b6) ∧ w' = w)
    (h7 : ∀ w, Calls Tryd.prog 20 #[.int .i64 m, .int .i64 0, .int .i64 59] w fun e w' => e = .returned (.bool b7) ∧ w' = w) :
    Calls Tryd.prog 16 #[hd K A n C d h m M] w fun e w' => e = .returned (.int .i64 (flt b1 b2 b3 b4 b5 b6 b7 b8)) ∧ Below w.heap.size w w' := by
  have MK : Hid _ := hMK
  have H1 : Hid _ := h1
  have H2 : Hid _ := h2
  have H3 : Hid _ := h3
  have H4 : Hid _ := h4
  have H5 : Hid _ := h5
  have H6 : Hid _ := h6
  have H7 : Hid _ := h7
  clear hMK h1 h2 h3 h4 h5 h6 h7
  go_enter Tryd.func16, Tryd.ntmps16
  go_wp2_with fail
  refine (MK.out _).mono ?_
  rintro e w1 ⟨rfl, q, rfl⟩
  have BE : Hid (Below w.heap.size w ((w.alloc (.cells #[.string K, .string A, .int .i64 n, .string C, .int .i64 d, .int .i64 h, .int .i64 m, .string M] 25)).drewN q)) := below_drewN ((Below.refl _ _).alloc (Nat.le_refl _) _) _
  cases b1
  · go_wp2_with (first | (go_at_call_of 34 (Value.string K); refine (H1.out _).mono ?_; rintro e w1 ⟨rfl, hw1⟩; subst hw1) | (go_at_call_of 34 (Value.string A); refine (H2.out _).mono ?_; rintro e w1 ⟨rfl, hw1⟩; subst hw1) | (go_at_call_of 20 (Value.int IntKind.i64 n); refine (H3.out _).mono ?_; rintro e w1 ⟨rfl, hw1⟩; subst hw1) | (go_at_call 35; refine (H4.out _).mono ?_; rintro e w1 ⟨rfl, hw1⟩; subst hw1) | (go_at_call_of 20 (Value.int IntKind.i64 d); refine (H5.out _).mono ?_; rintro e w1 ⟨rfl, hw1⟩; subst hw1) | (go_at_call_of 20 (Value.int IntKind.i64 h); refine (H6.out _).mono ?_; rintro e w1 ⟨rfl, hw1⟩; subst hw1) | (go_at_call_of 20 (Value.int IntKind.i64 m); refine (H7.out _).mono ?_; rintro e w1 ⟨rfl, hw1⟩; subst hw1))
    all_goals
      go_ret
      exact ⟨rfl, BE.out⟩
  · cases b2
    · go_wp2_with (first | (go_at_call_of 34 (Value.string K); refine (H1.out _).mono ?_; rintro e w1 ⟨rfl, hw1⟩; subst hw1) | (go_at_call_of 34 (Value.string A); refine (H2.out _).mono ?_; rintro e w1 ⟨rfl, hw1⟩; subst hw1) | (go_at_call_of 20 (Value.int IntKind.i64 n); refine (H3.out _).mono ?_; rintro e w1 ⟨rfl, hw1⟩; subst hw1) | (go_at_call 35; refine (H4.out _).mono ?_; rintro e w1 ⟨rfl, hw1⟩; subst hw1) | (go_at_call_of 20 (Value.int IntKind.i64 d); refine (H5.out _).mono ?_; rintro e w1 ⟨rfl, hw1⟩; subst hw1) | (go_at_call_of 20 (Value.int IntKind.i64 h); refine (H6.out _).mono ?_; rintro e w1 ⟨rfl, hw1⟩; subst hw1) | (go_at_call_of 20 (Value.int IntKind.i64 m); refine (H7.out _).mono ?_; rintro e w1 ⟨rfl, hw1⟩; subst hw1))
      all_goals
        go_ret
        exact ⟨rfl, BE.out⟩
    · cases b3
      · go_wp2_with (first | (go_at_call_of 34 (Value.string K); refine (H1.out _).mono ?_; rintro e w1 ⟨rfl, hw1⟩; subst hw1) | (go_at_call_of 34 (Value.string A); refine (H2.out _).mono ?_; rintro e w1 ⟨rfl, hw1⟩; subst hw1) | (go_at_call_of 20 (Value.int IntKind.i64 n); refine (H3.out _).mono ?_; rintro e w1 ⟨rfl, hw1⟩; subst hw1) | (go_at_call 35; refine (H4.out _).mono ?_; rintro e w1 ⟨rfl, hw1⟩; subst hw1) | (go_at_call_of 20 (Value.int IntKind.i64 d); refine (H5.out _).mono ?_; rintro e w1 ⟨rfl, hw1⟩; subst hw1) | (go_at_call_of 20 (Value.int IntKind.i64 h); refine (H6.out _).mono ?_; rintro e w1 ⟨rfl, hw1⟩; subst hw1) | (go_at_call_of 20 (Value.int IntKind.i64 m); refine (H7.out _).mono ?_; rintro e w1 ⟨rfl, hw1⟩; subst hw1))
        all_goals
          go_ret
          exact ⟨rfl, BE.out⟩
      · cases b4
        · go_wp2_with (first | (go_at_call_of 34 (Value.string K); refine (H1.out _).mono ?_; rintro e w1 ⟨rfl, hw1⟩; subst hw1) | (go_at_call_of 34 (Value.string A); refine (H2.out _).mono ?_; rintro e w1 ⟨rfl, hw1⟩; subst hw1) | (go_at_call_of 20 (Value.int IntKind.i64 n); refine (H3.out _).mono ?_; rintro e w1 ⟨rfl, hw1⟩; subst hw1) | (go_at_call 35; refine (H4.out _).mono ?_; rintro e w1 ⟨rfl, hw1⟩; subst hw1) | (go_at_call_of 20 (Value.int IntKind.i64 d); refine (H5.out _).mono ?_; rintro e w1 ⟨rfl, hw1⟩; subst hw1) | (go_at_call_of 20 (Value.int IntKind.i64 h); refine (H6.out _).mono ?_; rintro e w1 ⟨rfl, hw1⟩; subst hw1) | (go_at_call_of 20 (Value.int IntKind.i64 m); refine (H7.out _).mono ?_; rintro e w1 ⟨rfl, hw1⟩; subst hw1))
          all_goals
            go_ret
            exact ⟨rfl, BE.out⟩
        · cases b5
          · go_wp2_with (first | (go_at_call_of 34 (Value.string K); refine (H1.out _).mono ?_; rintro e w1 ⟨rfl, hw1⟩; subst hw1) | (go_at_call_of 34 (Value.string A); refine (H2.out _).mono ?_; rintro e w1 ⟨rfl, hw1⟩; subst hw1) | (go_at_call_of 20 (Value.int IntKind.i64 n); refine (H3.out _).mono ?_; rintro e w1 ⟨rfl, hw1⟩; subst hw1) | (go_at_call 35; refine (H4.out _).mono ?_; rintro e w1 ⟨rfl, hw1⟩; subst hw1) | (go_at_call_of 20 (Value.int IntKind.i64 d); refine (H5.out _).mono ?_; rintro e w1 ⟨rfl, hw1⟩; subst hw1) | (go_at_call_of 20 (Value.int IntKind.i64 h); refine (H6.out _).mono ?_; rintro e w1 ⟨rfl, hw1⟩; subst hw1) | (go_at_call_of 20 (Value.int IntKind.i64 m); refine (H7.out _).mono ?_; rintro e w1 ⟨rfl, hw1⟩; subst hw1))
            all_goals
              go_ret
              exact ⟨rfl, BE.out⟩
          · cases b6
            · go_wp2_with (first | (go_at_call_of 34 (Value.string K); refine (H1.out _).mono ?_; rintro e w1 ⟨rfl, hw1⟩; subst hw1) | (go_at_call_of 34 (Value.string A); refine (H2.out _).mono ?_; rintro e w1 ⟨rfl, hw1⟩; subst hw1) | (go_at_call_of 20 (Value.int IntKind.i64 n); refine (H3.out _).mono ?_; rintro e w1 ⟨rfl, hw1⟩; subst hw1) | (go_at_call 35; refine (H4.out _).mono ?_; rintro e w1 ⟨rfl, hw1⟩; subst hw1) | (go_at_call_of 20 (Value.int IntKind.i64 d); refine (H5.out _).mono ?_; rintro e w1 ⟨rfl, hw1⟩; subst hw1) | (go_at_call_of 20 (Value.int IntKind.i64 h); refine (H6.out _).mono ?_; rintro e w1 ⟨rfl, hw1⟩; subst hw1) | (go_at_call_of 20 (Value.int IntKind.i64 m); refine (H7.out _).mono ?_; rintro e w1 ⟨rfl, hw1⟩; subst hw1))
              all_goals
                go_ret
                exact ⟨rfl, BE.out⟩
            · cases b7
              · go_wp2_with (first | (go_at_call_of 34 (Value.string K); refine (H1.out _).mono ?_; rintro e w1 ⟨rfl, hw1⟩; subst hw1) | (go_at_call_of 34 (Value.string A); refine (H2.out _).mono ?_; rintro e w1 ⟨rfl, hw1⟩; subst hw1) | (go_at_call_of 20 (Value.int IntKind.i64 n); refine (H3.out _).mono ?_; rintro e w1 ⟨rfl, hw1⟩; subst hw1) | (go_at_call 35; refine (H4.out _).mono ?_; rintro e w1 ⟨rfl, hw1⟩; subst hw1) | (go_at_call_of 20 (Value.int IntKind.i64 d); refine (H5.out _).mono ?_; rintro e w1 ⟨rfl, hw1⟩; subst hw1) | (go_at_call_of 20 (Value.int IntKind.i64 h); refine (H6.out _).mono ?_; rintro e w1 ⟨rfl, hw1⟩; subst hw1) | (go_at_call_of 20 (Value.int IntKind.i64 m); refine (H7.out _).mono ?_; rintro e w1 ⟨rfl, hw1⟩; subst hw1))
                all_goals
                  go_ret
                  exact ⟨rfl, BE.out⟩
              · by_cases hmk : mk < 0
                · obtain rfl : b8 = true := e8.symm.trans (decide_eq_true hmk)
                  go_wp2_with (first | (go_at_call_of 34 (Value.string K); refine (H1.out _).mono ?_; rintro e w1 ⟨rfl, hw1⟩; subst hw1) | (go_at_call_of 34 (Value.string A); refine (H2.out _).mono ?_; rintro e w1 ⟨rfl, hw1⟩; subst hw1) | (go_at_call_of 20 (Value.int IntKind.i64 n); refine (H3.out _).mono ?_; rintro e w1 ⟨rfl, hw1⟩; subst hw1) | (go_at_call 35; refine (H4.out _).mono ?_; rintro e w1 ⟨rfl, hw1⟩; subst hw1) | (go_at_call_of 20 (Value.int IntKind.i64 d); refine (H5.out _).mono ?_; rintro e w1 ⟨rfl, hw1⟩; subst hw1) | (go_at_call_of 20 (Value.int IntKind.i64 h); refine (H6.out _).mono ?_; rintro e w1 ⟨rfl, hw1⟩; subst hw1) | (go_at_call_of 20 (Value.int IntKind.i64 m); refine (H7.out _).mono ?_; rintro e w1 ⟨rfl, hw1⟩; subst hw1))
                  all_goals
                    go_ret
                    exact ⟨rfl, BE.out⟩
                · obtain rfl : b8 = false := e8.symm.trans (decide_eq_false hmk)
                  go_wp2_with (first | (go_at_call_of 34 (Value.string K); refine (H1.out _).mono ?_; rintro e w1 ⟨rfl, hw1⟩; subst hw1) | (go_at_call_of 34 (Value.string A); refine (H2.out _).mono ?_; rintro e w1 ⟨rfl, hw1⟩; subst hw1) | (go_at_call_of 20 (Value.int IntKind.i64 n); refine (H3.out _).mono ?_; rintro e w1 ⟨rfl, hw1⟩; subst hw1) | (go_at_call 35; refine (H4.out _).mono ?_; rintro e w1 ⟨rfl, hw1⟩; subst hw1) | (go_at_call_of 20 (Value.int IntKind.i64 d); refine (H5.out _).mono ?_; rintro e w1 ⟨rfl, hw1⟩; subst hw1) | (go_at_call_of 20 (Value.int IntKind.i64 h); refine (H6.out _).mono ?_; rintro e w1 ⟨rfl, hw1⟩; subst hw1) | (go_at_call_of 20 (Value.int IntKind.i64 m); refine (H7.out _).mono ?_; rintro e w1 ⟨rfl, hw1⟩; subst hw1))
                  all_goals
                    go_ret
                    exact ⟨rfl, BE.out⟩

theorem two_int (s : ByteArray) : ((s.size : Int) == 2) = decide (s.size = 2) := by
  by_cases h : s.size = 2
  · rw [h]; rfl
  · rw [decide_eq_false h]; exact beq_eq_false_iff_ne.2 (by omega)

/-- Both tell whether a heading is right; the program tells what is wrong. -/
theorem sok_any (K A : ByteArray) (n : Int) (C : ByteArray) (d h m : Int) (M : ByteArray) (w : World) (hka : (K ++ A).size ≤ 1048576) :
    Calls Tryd.prog 14 #[hd K A n C d h m M] w fun e w' => e = .returned (.bool (decide (fault K A n C d h m M = 0))) ∧ Below w.heap.size w w' := by
  have := sok_walk K A n C d h m M (markOf M).1 (markOf M).2 _ _ _ (two_int K) (two_int A) rfl (lets (K ++ A)) (wi n 0 99) (cen C) (wi d 1 31) (wi h 0 23) (wi m 0 59) w (fun w => smark_any M w) (fun w => sletters_any _ w hka) (fun w => l2in_any _ _ _ w) (fun w => scen_any C w) (fun w => l2in_any _ _ _ w) (fun w => l2in_any _ _ _ w) (fun w => l2in_any _ _ _ w)
  refine this.mono ?_
  rintro e w' ⟨rfl, hb⟩
  refine ⟨?_, hb⟩
  congr 2
  rw [lets_append]
  unfold fault two
  generalize lets K = x1
  generalize lets A = x2
  generalize decide (K.size = 2) = x3
  generalize decide (A.size = 2) = x4
  generalize wi n 0 99 = x5
  generalize cen C = x6
  generalize wi d 1 31 = x7
  generalize wi h 0 23 = x8
  generalize wi m 0 59 = x9
  generalize (markOf M).1 = z
  by_cases hz : 0 ≤ z
  · rw [decide_eq_true hz, if_neg (show ¬ z < 0 by omega)]
    cases x1 <;> cases x2 <;> cases x3 <;> cases x4 <;> cases x5 <;> cases x6 <;> cases x7 <;> cases x8 <;> cases x9 <;> rfl
  · rw [decide_eq_false hz, if_pos (show z < 0 by omega)]
    cases x1 <;> cases x2 <;> cases x3 <;> cases x4 <;> cases x5 <;> cases x6 <;> cases x7 <;> cases x8 <;> cases x9 <;> rfl

theorem ifault_any (K A : ByteArray) (n : Int) (C : ByteArray) (d h m : Int) (M : ByteArray) (w : World) (hk : K.size ≤ 1048576) (ha : A.size ≤ 1048576) :
    Calls Tryd.prog 16 #[hd K A n C d h m M] w fun e w' => e = .returned (.int .i64 (fault K A n C d h m M)) ∧ Below w.heap.size w w' := by
  have := fault_walk K A n C d h m M (markOf M).1 (markOf M).2 _ rfl (two K) (two A) (wi n 0 99) (cen C) (wi d 1 31) (wi h 0 23) (wi m 0 59) w (fun w => imark_any M w) (fun w => lonly_any K 2 w hk) (fun w => lonly_any A 2 w ha) (fun w => within_any _ _ _ w) (fun w => icen_any C w) (fun w => within_any _ _ _ w) (fun w => within_any _ _ _ w) (fun w => within_any _ _ _ w)
  refine this.mono ?_
  rintro e w' ⟨rfl, hb⟩
  refine ⟨?_, hb⟩
  congr 2
  unfold flt fault
  by_cases hz : (markOf M).1 < 0
  · rw [decide_eq_true hz, if_pos hz]; rfl
  · rw [decide_eq_false hz, if_neg hz]; rfl
end Go.Proofs.YtepofpmdkphhdaaDoor.Head
