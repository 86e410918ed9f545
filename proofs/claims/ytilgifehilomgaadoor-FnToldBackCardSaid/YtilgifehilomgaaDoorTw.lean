/- What Told says, in the program and in its model; what is read of it, and told again. -/
import Derived.Test.YtilgifehilomgaaDoorTd
import Derived.Test.YtilgifehilomgaaDoorTb
import Derived.Test.YtilgifehilomgaaDoorRnQ
import Derived.Test.YtilgifehilomgaaDoorFltL
import Derived.Test.YtilgifehilomgaaDoorLibC
import Derived.Lib.LaidTab
namespace Go.Proofs.YtilgifehilomgaaDoor.Flt
open Go.ChangeShapes Go.WideShapes Go.ChangeAt Go.RowKit Dec

abbrev str (r : List UInt8) : Ending := .returned (.string ⟨r.toArray⟩)

/-- Both say of a whole number the text tz. -/
theorem point_tz (z : Int) (p : Nat) (hz : z.natAbs ≤ 1000000000000000) (hp : p ≤ 6) :
    (∀ w, Calls Tryd.prog 17 #[.int .i64 z, .int .i64 p] w fun e w' => e = str (tz z p) ∧ Below w.heap.size w w') ∧ (∀ w, Tb w → Calls Tryd.prog 23 #[.int .i64 z, .int .i64 p] w fun e w' => e = str (tz z p) ∧ Below w.heap.size w w') :=
  ⟨fun w => spoint z p w hz hp, fun w hT => ip lib z p w hT hz hp⟩

theorem sknown_any (x : Nat) (w : World) : Calls Tryd.prog 14 #[.float .f64 x] w fun e w' => e = .returned (.bool (kn x)) ∧ ∃ m, w' = w.drewN m := by
  by_cases h : rng x < 9218868437227405312
  · refine (known_yes x w h).mono ?_
    rintro e w' ⟨rfl, rfl⟩
    exact ⟨by rw [show kn x = true from decide_eq_true h], 0, rfl⟩
  · refine (known_no x w (by omega)).mono ?_
    rintro e w' ⟨rfl, rfl⟩
    exact ⟨by rw [show kn x = false from decide_eq_false h], 1, rfl⟩

set_option maxHeartbeats 2000000 in
theorem stold_fin (x p : Nat) (w : World) (z : Int) (b : Bool) (r : List UInt8) (y : Nat) (hx : rng x < 9218868437227405312) (hp : p ≤ 6) (hm : floatBits .mul .f64 x (tenF p) = some y)
    (h7 : ∀ w, Calls Tryd.prog 15 #[.float .f64 y] w fun e w' => e = two z b ∧ ∃ m, w' = w.drewN m) (h9 : ∀ w, Calls Tryd.prog 17 #[.int .i64 z, .int .i64 p] w fun e w' => e = str r ∧ Below w.heap.size w w') :
    Calls Tryd.prog 6 #[.float .f64 x, .int .i64 p] w fun e w' => e = (if b then str r else str [102, 97, 114]) ∧ Below w.heap.size w w' := by
  have n1 := self_ne x
  have hn : nan x = false := decide_eq_false (by omega)
  rw [hn] at n1
  have hk : kn x = true := decide_eq_true hx
  have i1 : ¬ (p : Int) < 0 := by omega
  have i2 : ¬ (6 : Int) < (p : Int) := by omega
  have hmul : ∀ w, (binOp .mul 24 (.float .f64 x) (.float .f64 (tenF p))).run Tryd.prog w = .ok (.float .f64 y) w := fun w => run_float_arith w .mul 24 .f64 _ _ _ hm
  have ht := ten_int p hp
  have LT : Hid (∀ w, Calls Tryd.prog 16 #[.int .i64 p] w fun e w' => e = .returned (.int .i64 ((10 : Int) ^ p)) ∧ w' = w) := fun w => lten_any p w hp
  have KN : Hid (∀ w, Calls Tryd.prog 14 #[.float .f64 x] w fun e w' => e = .returned (.bool true) ∧ ∃ m, w' = w.drewN m) := fun w => by rw [← hk]; exact sknown_any x w
  have H7 : Hid _ := h7
  have H9 : Hid _ := h9
  generalize (10 : Int) ^ p = tz at *
  generalize tenF p = tf at *
  clear hm hn hk h7 h9
  cases b
  · go_enter Tryd.func6, Tryd.ntmps6
    go_wp2_with (first | (go_at_call 14; refine (KN.out _).mono ?_; rintro e w1 ⟨rfl, m, rfl⟩) | (go_at_call 16; refine (LT.out _).mono ?_; rintro e w1 ⟨rfl, hw1⟩; subst hw1) | (go_at_call 15; refine (H7.out _).mono ?_; rintro e w1 ⟨rfl, m, rfl⟩))
    go_ret
    exact ⟨rfl, below_drewN (Below.refl _ _) _⟩
  · go_enter Tryd.func6, Tryd.ntmps6
    go_wp2_with (first | (go_at_call 14; refine (KN.out _).mono ?_; rintro e w1 ⟨rfl, m, rfl⟩) | (go_at_call 16; refine (LT.out _).mono ?_; rintro e w1 ⟨rfl, hw1⟩; subst hw1) | (go_at_call 15; refine (H7.out _).mono ?_; rintro e w1 ⟨rfl, m, rfl⟩) | (go_at_call 17; refine (H9.out _).mono ?_; rintro e w9 ⟨rfl, hb9⟩))
    go_ret
    exact ⟨rfl, (below_drewN (Below.refl w.heap.size w) _).trans (hb9.mono (below_drewN (Below.refl w.heap.size w) _).size)⟩

set_option maxHeartbeats 2000000 in
theorem itold_fin (x p : Nat) (w : World) (hT : Tb w) (z : Int) (b : Bool) (r : List UInt8) (y : Nat) (hx : rng x < 9218868437227405312) (hp : p ≤ 6) (hm : floatBits .mul .f64 x (tenF p) = some y)
    (h13 : ∀ w, Calls Tryd.prog 21 #[.float .f64 y] w fun e w' => e = two z b ∧ ∃ m, w' = w.drewN m) (h15 : ∀ w, Tb w → Calls Tryd.prog 23 #[.int .i64 z, .int .i64 p] w fun e w' => e = str r ∧ Below w.heap.size w w') :
    Calls Tryd.prog 7 #[.float .f64 x, .int .i64 p] w fun e w' => e = (if b then str r else str [102, 97, 114]) ∧ Below w.heap.size w w' := by
  have hn : nan x = false := decide_eq_false (by omega)
  have W : Hid (∀ w, Calls Tryd.prog 18 #[.int .i64 p, .int .i64 0, .int .i64 6] w fun e w' => e = .returned (.bool true) ∧ w' = w) := fun w => by
    have := within_any p 0 6 w
    rw [decide_eq_true (by omega), decide_eq_true (by omega)] at this
    exact this
  have NA : Hid (∀ w, Calls Tryd.prog 19 #[.float .f64 x] w fun e w' => e = .returned (.bool false) ∧ w' = w) := fun w => by rw [← hn]; exact isnan_any x w
  have IH : Hid (∀ w, Calls Tryd.prog 20 #[.float .f64 x, .int .i64 1] w fun e w' => e = .returned (.bool false) ∧ w' = w) := fun w => isinf_hi x false w (not_gt x hx)
  have IL : Hid (∀ w, Calls Tryd.prog 20 #[.float .f64 x, .int .i64 (-1)] w fun e w' => e = .returned (.bool false) ∧ w' = w) := fun w => isinf_lo x false w (not_gt _ (by rw [neg_rng]; exact hx))
  have hmul : ∀ w, (binOp .mul 24 (.float .f64 x) (.float .f64 (tenF p))).run Tryd.prog w = .ok (.float .f64 y) w := fun w => run_float_arith w .mul 24 .f64 _ _ _ hm
  have PW : Hid (∀ w, Calls Tryd.prog 22 #[.int .i64 p] w fun e w' => e = .returned (.float .f64 (tenF p)) ∧ w' = w) := fun w => power_any p w hp
  have H13 : Hid _ := h13
  have H15 : Hid _ := h15
  have HT : Hid (Tb w) := hT
  generalize tenF p = tf at *
  clear hm hn h13 h15 hT
  go_enter Tryd.func7, Tryd.ntmps7
  go_wp2_with fail
  refine (W.out _).mono ?_
  rintro e w1 ⟨rfl, hw1⟩
  subst hw1
  go_wp2_with fail
  refine (NA.out _).mono ?_
  rintro e w1 ⟨rfl, hw1⟩
  subst hw1
  go_wp2_with fail
  refine (IH.out _).mono ?_
  rintro e w1 ⟨rfl, hw1⟩
  subst hw1
  go_wp2_with fail
  refine (IL.out _).mono ?_
  rintro e w1 ⟨rfl, hw1⟩
  subst hw1
  go_wp2_with fail
  refine (PW.out _).mono ?_
  rintro e w1 ⟨rfl, hw1⟩
  subst hw1
  go_wp2_with fail
  refine (H13.out _).mono ?_
  rintro e w2 ⟨rfl, m, rfl⟩
  cases b
  · go_wp2_with fail
    go_ret
    exact ⟨rfl, below_drewN (Below.refl _ _) _⟩
  · go_wp2_with fail
    refine (H15.out _ (HT.out.keep _ _ (below_drewN (Below.refl _ _) _))).mono ?_
    rintro e w9 ⟨rfl, hb9⟩
    go_wp2_with fail
    go_ret
    exact ⟨rfl, (below_drewN (Below.refl w1.heap.size w1) m).trans (hb9.mono (below_drewN (Below.refl w1.heap.size w1) m).size)⟩

set_option maxHeartbeats 1000000 in
theorem stold_out (x : Nat) (q : Int) (w : World) (h : q < 0 ∨ 6 < q) : Calls Tryd.prog 6 #[.float .f64 x, .int .i64 q] w fun e w' => e = str [] ∧ Below w.heap.size w w' := by
  by_cases h1 : q < 0
  · go_enter Tryd.func6, Tryd.ntmps6
    go_wp2
    go_ret
    exact ⟨rfl, Below.refl _ _⟩
  · have h2 : 6 < q := by omega
    go_enter Tryd.func6, Tryd.ntmps6
    go_wp2
    go_ret
    exact ⟨rfl, Below.refl _ _⟩
set_option maxHeartbeats 1000000 in
theorem itold_out (x : Nat) (q : Int) (w : World) (h : q < 0 ∨ 6 < q) : Calls Tryd.prog 7 #[.float .f64 x, .int .i64 q] w fun e w' => e = str [] ∧ Below w.heap.size w w' := by
  have W : Hid (∀ w, Calls Tryd.prog 18 #[.int .i64 q, .int .i64 0, .int .i64 6] w fun e w' => e = .returned (.bool false) ∧ w' = w) := fun w => by
    have := within_any q 0 6 w
    rw [show (decide (0 ≤ q) && decide (q ≤ 6)) = false by rw [Bool.and_eq_false_iff]; simp; omega] at this
    exact this
  clear h
  go_enter Tryd.func7, Tryd.ntmps7
  go_wp2_with fail
  refine (W.out _).mono ?_
  rintro e w1 ⟨rfl, hw1⟩
  subst hw1
  go_wp2_with fail
  go_ret
  exact ⟨rfl, Below.refl _ _⟩

set_option maxHeartbeats 1000000 in
theorem stold_nan (x : Nat) (q : Int) (w : World) (h0 : 0 ≤ q) (h6 : q ≤ 6) (hn : nan x = true) : Calls Tryd.prog 6 #[.float .f64 x, .int .i64 q] w fun e w' => e = str [47] ∧ Below w.heap.size w w' := by
  have n1 := self_ne x
  rw [hn] at n1
  go_enter Tryd.func6, Tryd.ntmps6
  go_wp2
  go_ret
  exact ⟨rfl, Below.refl _ _⟩
theorem win_yes (q : Int) (h0 : 0 ≤ q) (h6 : q ≤ 6) (w : World) : Calls Tryd.prog 18 #[.int .i64 q, .int .i64 0, .int .i64 6] w fun e w' => e = .returned (.bool true) ∧ w' = w := by
  have := within_any q 0 6 w
  rw [decide_eq_true h0, decide_eq_true h6] at this
  exact this
set_option maxHeartbeats 1000000 in
theorem itold_nan (x : Nat) (q : Int) (w : World) (h0 : 0 ≤ q) (h6 : q ≤ 6) (hn : nan x = true) : Calls Tryd.prog 7 #[.float .f64 x, .int .i64 q] w fun e w' => e = str [47] ∧ Below w.heap.size w w' := by
  have W : Hid (∀ w, Calls Tryd.prog 18 #[.int .i64 q, .int .i64 0, .int .i64 6] w fun e w' => e = .returned (.bool true) ∧ w' = w) := fun w => win_yes q h0 h6 w
  have NA : Hid (∀ w, Calls Tryd.prog 19 #[.float .f64 x] w fun e w' => e = .returned (.bool true) ∧ w' = w) := fun w => by rw [← hn]; exact isnan_any x w
  clear hn
  go_enter Tryd.func7, Tryd.ntmps7
  go_wp2_with fail
  refine (W.out _).mono ?_
  rintro e w1 ⟨rfl, hw1⟩
  subst hw1
  go_wp2_with fail
  refine (NA.out _).mono ?_
  rintro e w1 ⟨rfl, hw1⟩
  subst hw1
  go_wp2_with fail
  go_ret
  exact ⟨rfl, Below.refl _ _⟩

def infT (s : Bool) : List UInt8 := if s then [108, 111, 119] else [104, 105, 103, 104]
def infB (s : Bool) : Nat := if s then 18442240474082181120 else 9218868437227405312
set_option maxHeartbeats 1000000 in
theorem stold_inf (s : Bool) (q : Int) (w : World) (h0 : 0 ≤ q) (h6 : q ≤ 6) : Calls Tryd.prog 6 #[.float .f64 (infB s), .int .i64 q] w fun e w' => e = str (infT s) ∧ Below w.heap.size w w' := by
  have n1 := self_ne (infB s)
  have hn : nan (infB s) = false := by cases s <;> decide +kernel
  rw [hn] at n1
  have hk : kn (infB s) = false := by cases s <;> decide +kernel
  have KN : Hid (∀ w, Calls Tryd.prog 14 #[.float .f64 (infB s)] w fun e w' => e = .returned (.bool false) ∧ ∃ m, w' = w.drewN m) := fun w => by rw [← hk]; exact sknown_any _ w
  have hg : (ord (infB s) 0 == some .gt) = !s := by cases s <;> decide +kernel
  have ES : Hid (infT s = if s then [108, 111, 119] else [104, 105, 103, 104]) := rfl
  generalize infB s = x at *
  generalize infT s = tt at *
  clear hn hk
  cases s
  · obtain rfl : tt = [104, 105, 103, 104] := ES.out
    go_enter Tryd.func6, Tryd.ntmps6
    go_wp2_with (go_at_call 14; refine (KN.out _).mono ?_; rintro e w1 ⟨rfl, m, rfl⟩)
    go_ret
    exact ⟨rfl, below_drewN (Below.refl _ _) _⟩
  · obtain rfl : tt = [108, 111, 119] := ES.out
    go_enter Tryd.func6, Tryd.ntmps6
    go_wp2_with (go_at_call 14; refine (KN.out _).mono ?_; rintro e w1 ⟨rfl, m, rfl⟩)
    go_ret
    exact ⟨rfl, below_drewN (Below.refl _ _) _⟩
set_option maxHeartbeats 1000000 in
theorem itold_inf (s : Bool) (q : Int) (w : World) (h0 : 0 ≤ q) (h6 : q ≤ 6) : Calls Tryd.prog 7 #[.float .f64 (infB s), .int .i64 q] w fun e w' => e = str (infT s) ∧ Below w.heap.size w w' := by
  have W : Hid (∀ w, Calls Tryd.prog 18 #[.int .i64 q, .int .i64 0, .int .i64 6] w fun e w' => e = .returned (.bool true) ∧ w' = w) := fun w => win_yes q h0 h6 w
  have hn : nan (infB s) = false := by cases s <;> decide +kernel
  have NA : Hid (∀ w, Calls Tryd.prog 19 #[.float .f64 (infB s)] w fun e w' => e = .returned (.bool false) ∧ w' = w) := fun w => by rw [← hn]; exact isnan_any _ w
  have IH : Hid (∀ w, Calls Tryd.prog 20 #[.float .f64 (infB s), .int .i64 1] w fun e w' => e = .returned (.bool (!s)) ∧ w' = w) := fun w => isinf_hi _ _ w (by cases s <;> decide +kernel)
  have IL : Hid (∀ w, Calls Tryd.prog 20 #[.float .f64 (infB s), .int .i64 (-1)] w fun e w' => e = .returned (.bool s) ∧ w' = w) := fun w => isinf_lo _ _ w (by cases s <;> decide +kernel)
  have ES : Hid (infT s = if s then [108, 111, 119] else [104, 105, 103, 104]) := rfl
  generalize infB s = x at *
  generalize infT s = tt at *
  clear hn
  go_enter Tryd.func7, Tryd.ntmps7
  go_wp2_with fail
  refine (W.out _).mono ?_
  rintro e w1 ⟨rfl, hw1⟩
  subst hw1
  go_wp2_with fail
  refine (NA.out _).mono ?_
  rintro e w1 ⟨rfl, hw1⟩
  subst hw1
  go_wp2_with fail
  refine (IH.out _).mono ?_
  rintro e w1 ⟨rfl, hw1⟩
  subst hw1
  cases s
  · obtain rfl : tt = [104, 105, 103, 104] := ES.out
    go_wp2_with fail
    go_ret
    exact ⟨rfl, Below.refl _ _⟩
  · obtain rfl : tt = [108, 111, 119] := ES.out
    go_wp2_with fail
    refine (IL.out _).mono ?_
    rintro e w1 ⟨rfl, hw1⟩
    subst hw1
    go_wp2_with fail
    go_ret
    exact ⟨rfl, Below.refl _ _⟩

theorem inf_is (x : Nat) (hx : x < 18446744073709551616) (h : rng x = 9218868437227405312) : ∃ s, x = infB s := by
  unfold rng at h
  by_cases c : x < 9223372036854775808
  · exact ⟨false, by show x = 9218868437227405312; omega⟩
  · exact ⟨true, by show x = 18442240474082181120; omega⟩

/-- What Told says of a number that the places fit. -/
theorem told_tz (x p y : Nat) (hx : rng x < 9218868437227405312) (hp : p ≤ 6) (hm : floatBits .mul .f64 x (tenF p) = some y) (hy : y < 18446744073709551616) (h : rng y ≤ 4831355200913801216) :
    (near y).natAbs ≤ 1000000000000000 ∧ (∀ w, Calls Tryd.prog 6 #[.float .f64 x, .int .i64 p] w fun e w' => e = str (tz (near y) p) ∧ Below w.heap.size w w') ∧ (∀ w, Tb w → Calls Tryd.prog 7 #[.float .f64 x, .int .i64 p] w fun e w' => e = str (tz (near y) p) ∧ Below w.heap.size w w') := by
  have hz : (near y).natAbs ≤ 1000000000000000 := by have := near_in y h; omega
  obtain ⟨h1, h2⟩ := point_tz (near y) p hz hp
  exact ⟨hz, fun w => stold_fin x p w (near y) true _ y hx hp hm (fun w => snear_yes y w h) h1, fun w hT => itold_fin x p w hT (near y) true _ y hx hp hm (fun w => inear_yes y w hy h) h2⟩
theorem told_far (x p y : Nat) (hx : rng x < 9218868437227405312) (hp : p ≤ 6) (hm : floatBits .mul .f64 x (tenF p) = some y) (hy : y < 18446744073709551616) (h : ¬ rng y ≤ 4831355200913801216) :
    (∀ w, Calls Tryd.prog 6 #[.float .f64 x, .int .i64 p] w fun e w' => e = str [102, 97, 114] ∧ Below w.heap.size w w') ∧ (∀ w, Tb w → Calls Tryd.prog 7 #[.float .f64 x, .int .i64 p] w fun e w' => e = str [102, 97, 114] ∧ Below w.heap.size w w') := by
  obtain ⟨h1, h2⟩ := point_tz 0 p (by decide) hp
  exact ⟨fun w => stold_fin x p w 0 false _ y hx hp hm (fun w => snear_no y w (by omega)) h1, fun w hT => itold_fin x p w hT 0 false _ y hx hp hm (fun w => inear_no y w hy (by omega)) h2⟩

/-- The five kinds of what Told says. -/
def Kind (x : Nat) (q : Int) (r : List UInt8) : Prop :=
  r = [] ∨ r = [102, 97, 114] ∨ (r = [47] ∧ nan x = true ∧ 0 ≤ q ∧ q ≤ 6) ∨ (∃ s, r = infT s ∧ x = infB s ∧ 0 ≤ q ∧ q ≤ 6) ∨ (∃ (z : Int) (p : Nat), r = tz z p ∧ z.natAbs ≤ 1000000000000000 ∧ p ≤ 6 ∧ q = p ∧ nan x = false)
theorem told_both (x : Nat) (q : Int) (hx : x < 18446744073709551616) : ∃ r : List UInt8, Kind x q r ∧ (∀ w, Calls Tryd.prog 6 #[.float .f64 x, .int .i64 q] w fun e w' => e = str r ∧ Below w.heap.size w w') ∧
    (∀ w, Tb w → Calls Tryd.prog 7 #[.float .f64 x, .int .i64 q] w fun e w' => e = str r ∧ Below w.heap.size w w') := by
  by_cases hq : 0 ≤ q ∧ q ≤ 6
  · cases hn : nan x
    · have hr : rng x ≤ 9218868437227405312 := by unfold nan at hn; simpa using hn
      by_cases hi : rng x = 9218868437227405312
      · obtain ⟨s, rfl⟩ := inf_is x hx hi
        exact ⟨infT s, .inr (.inr (.inr (.inl ⟨s, rfl, rfl, hq.1, hq.2⟩))), fun w => stold_inf s q w hq.1 hq.2, fun w _ => itold_inf s q w hq.1 hq.2⟩
      · obtain ⟨p, rfl⟩ : ∃ p : Nat, q = p := ⟨q.toNat, by omega⟩
        have hp : p ≤ 6 := by omega
        obtain ⟨y, hm, hy⟩ := mul_fin x (tenF p) (by omega) (ten_fin p)
        by_cases h : rng y ≤ 4831355200913801216
        · obtain ⟨hz, h1, h2⟩ := told_tz x p y (by omega) hp hm hy h
          exact ⟨_, .inr (.inr (.inr (.inr ⟨near y, p, rfl, hz, hp, rfl, hn⟩))), h1, h2⟩
        · obtain ⟨h1, h2⟩ := told_far x p y (by omega) hp hm hy h
          exact ⟨_, .inr (.inl rfl), h1, h2⟩
    · exact ⟨[47], .inr (.inr (.inl ⟨rfl, hn, hq.1, hq.2⟩)), fun w => stold_nan x q w hq.1 hq.2 hn, fun w _ => itold_nan x q w hq.1 hq.2 hn⟩
  · exact ⟨[], .inl rfl, fun w => stold_out x q w (by omega), fun w _ => itold_out x q w (by omega)⟩

theorem cn_back {x q : Nat} (h : cn x = q) (hq : nan q = false) : x = q := by
  cases hn : nan x
  · rw [cn_num hn] at h; exact h
  · have : nan (cn x) = true := by rw [cn_nan hn]; decide +kernel
    rw [h, hq] at this
    cases this
theorem cn_none {x : Nat} (h : cn x = qn) : nan x = true := by
  cases hn : nan x
  · rw [cn_num hn] at h; rw [h] at hn; exact absurd hn (by decide +kernel)
  · rfl

/-- What is read of what Told says, and what Told says of that again. -/
theorem back_both (x : Nat) (q : Int) (r : List UInt8) (h : Kind x q r) : ∃ V B, (∀ w, Tb w → Calls Tryd.prog 8 #[.string ⟨r.toArray⟩] w (fb V B w)) ∧
    (((r = [] ∨ r = [102, 97, 114]) ∧ B = false) ∨ (r ≠ [] ∧ r ≠ [102, 97, 114] ∧ B = true ∧ ∀ y, cn y = V → nan y = nan x ∧ (∀ w, Tb w → Calls Tryd.prog 7 #[.float .f64 y, .int .i64 q] w fun e w' => e = str r ∧ Below w.heap.size w w'))) := by
  have tl : ∀ l : List UInt8, (⟨l.toArray⟩ : ByteArray).toList = l := fun l => by rw [Lib.toList_data]
  have dl : ∀ l : List UInt8, (⟨l.toArray⟩ : ByteArray).data.toList = l := fun l => by simp
  have sz : ∀ l : List UInt8, (⟨l.toArray⟩ : ByteArray).size = l.length := fun l => by show l.toArray.size = _; simp
  rcases h with rfl | rfl | ⟨rfl, hn, h0, h6⟩ | ⟨s, rfl, rfl, h0, h6⟩ | ⟨z, p, rfl, hz, hp, rfl, hn⟩
  · exact ⟨0, false, fun w hT => iread_any lib errs _ w hT (by rw [sz]; decide) 0 false (by rw [tl]; decide) (by rw [tl]; decide) (by rw [tl]; decide) (by rw [dl]; exact ans_far.2), .inl ⟨.inl rfl, rfl⟩⟩
  · exact ⟨0, false, fun w hT => iread_any lib errs _ w hT (by rw [sz]; decide) 0 false (by rw [tl]; decide) (by rw [tl]; decide) (by rw [tl]; decide) (by rw [dl]; exact ans_far.1), .inl ⟨.inr rfl, rfl⟩⟩
  · refine ⟨qn, true, fun w _ => iread_none _ w (by rw [tl]; decide), .inr ⟨by simp, by simp, rfl, fun y hy => ?_⟩⟩
    have ny := cn_none hy
    exact ⟨by rw [ny, hn], fun w _ => itold_nan y q w h0 h6 ny⟩
  · cases s
    · refine ⟨pinf, true, fun w _ => iread_high _ w (by rw [tl]; decide) (by rw [tl]; decide), .inr ⟨by decide, by decide, rfl, fun y hy => ?_⟩⟩
      have ey := cn_back hy (by decide +kernel)
      subst ey
      exact ⟨rfl, fun w _ => itold_inf false q w h0 h6⟩
    · refine ⟨ninf, true, fun w _ => iread_low _ w (by rw [tl]; decide) (by rw [tl]; decide) (by rw [tl]; decide), .inr ⟨by decide, by decide, rfl, fun y hy => ?_⟩⟩
      have ey := cn_back hy (by decide +kernel)
      subst ey
      exact ⟨rfl, fun w _ => itold_inf true q w h0 h6⟩
  · obtain ⟨k, m, e1, e2, e3, e4, e5, e6⟩ := back_op z p hz hp
    have A := ans_tz z p hz hp
    rw [e1] at A
    refine ⟨k, true, fun w hT => iread_any lib errs _ w hT (by rw [sz]; have := tz_len z p hz hp; omega) k true (by rw [tl]; exact tz_slash z p) (by rw [tl]; exact tz_high z p) (by rw [tl]; exact tz_low z p) (by rw [dl]; exact A), .inr ⟨tz_some z p, tz_far z p, rfl, fun y hy => ?_⟩⟩
    have ey := cn_back hy e2
    subst ey
    refine ⟨by rw [e2, hn], ?_⟩
    have my : m < 18446744073709551616 := by
      obtain ⟨m', hm', hlt⟩ := mul_fin y (tenF p) e3 (ten_fin p)
      rw [e4] at hm'
      have := Option.some.inj hm'
      omega
    have := (told_tz y p m e3 hp e4 my e5).2.2
    rw [e6] at this
    exact this
end Go.Proofs.YtilgifehilomgaaDoor.Flt
