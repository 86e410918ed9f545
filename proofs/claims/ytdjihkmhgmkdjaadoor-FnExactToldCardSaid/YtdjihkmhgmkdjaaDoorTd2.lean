/- What Told says, in the program and in its model; the law FnExactTold walked. -/
import Derived.Test.YtdjihkmhgmkdjaaDoorTd
import Derived.Test.YtdjihkmhgmkdjaaDoorLibC
import Derived.Lib.LaidTab
namespace Go.Proofs.YtdjihkmhgmkdjaaDoor.Flt
open Go.ChangeShapes Go.WideShapes Go.ChangeAt Go.RowKit Dec

def Tb (w : World) : Prop := Lib.TabIs Tryd.prog w "internal/strconv.uint64pow10" .u64 Lib.pow10Tab ∧ 1 < w.heap.size
theorem gP : Tryd.prog.globalNamed "internal/strconv.uint64pow10" = some 1 := by kernel_rfl
theorem Tb.keep (w w' : World) (h : Tb w) (hb : Below w.heap.size w w') : Tb w' :=
  ⟨var?_below hb gP h.2 h.1, Nat.lt_of_lt_of_le h.2 hb.size⟩
theorem lib : LibC Tb := libC Tb Tb.keep (fun _ h => h.1)

abbrev str (r : List UInt8) : Ending := .returned (.string ⟨r.toArray⟩)

/-- Both say the same of a whole number. -/
theorem point_both (z : Int) (p : Nat) (hz : -1000000000000000 ≤ z ∧ z ≤ 1000000000000000) (hp : p ≤ 6) : ∃ r : List UInt8,
    (∀ w, Calls Tryd.prog 9 #[.int .i64 z, .int .i64 p] w fun e w' => e = str r ∧ Below w.heap.size w w') ∧ (∀ w, Tb w → Calls Tryd.prog 15 #[.int .i64 z, .int .i64 p] w fun e w' => e = str r ∧ Below w.heap.size w w') := by
  by_cases h : 0 ≤ z
  · obtain ⟨n, rfl⟩ : ∃ n : Nat, z = n := ⟨z.toNat, by omega⟩
    exact ⟨_, fun w => spoint_yes n p w (by omega) hp, fun w hT => ipoint lib n [] n p w hT (.inl ⟨rfl, rfl⟩) (by omega) hp⟩
  · obtain ⟨n, rfl⟩ : ∃ n : Nat, z = -(n : Int) := ⟨(-z).toNat, by omega⟩
    exact ⟨_, fun w => spoint_neg n p w (by omega) (by omega) hp, fun w hT => ipoint lib (-(n : Int)) [45] n p w hT (.inr ⟨rfl, by omega, rfl⟩) (by omega) hp⟩

theorem far_both (y : Nat) (p : Nat) (hy : y < 18446744073709551616) (hp : p ≤ 6) : ∃ (z : Int) (b : Bool) (r : List UInt8),
    (∀ w, Calls Tryd.prog 7 #[.float .f64 y] w fun e w' => e = two z b ∧ ∃ m, w' = w.drewN m) ∧ (∀ w, Calls Tryd.prog 13 #[.float .f64 y] w fun e w' => e = two z b ∧ ∃ m, w' = w.drewN m) ∧
    (∀ w, Calls Tryd.prog 9 #[.int .i64 z, .int .i64 p] w fun e w' => e = str r ∧ Below w.heap.size w w') ∧ (∀ w, Tb w → Calls Tryd.prog 15 #[.int .i64 z, .int .i64 p] w fun e w' => e = str r ∧ Below w.heap.size w w') := by
  by_cases h : rng y ≤ 4831355200913801216
  · obtain ⟨r, h1, h2⟩ := point_both (near y) p (near_in y h) hp
    exact ⟨near y, true, r, fun w => snear_yes y w h, fun w => inear_yes y w hy h, h1, h2⟩
  · obtain ⟨r, h1, h2⟩ := point_both 0 p (by omega) hp
    exact ⟨0, false, r, fun w => snear_no y w (by omega), fun w => inear_no y w hy (by omega), h1, h2⟩

theorem sknown_any (x : Nat) (w : World) : Calls Tryd.prog 6 #[.float .f64 x] w fun e w' => e = .returned (.bool (kn x)) ∧ ∃ m, w' = w.drewN m := by
  by_cases h : rng x < 9218868437227405312
  · refine (known_yes x w h).mono ?_
    rintro e w' ⟨rfl, rfl⟩
    exact ⟨by rw [show kn x = true from decide_eq_true h], 0, rfl⟩
  · refine (known_no x w (by omega)).mono ?_
    rintro e w' ⟨rfl, rfl⟩
    exact ⟨by rw [show kn x = false from decide_eq_false h], 1, rfl⟩

set_option maxHeartbeats 2000000 in
theorem stold_fin (x p : Nat) (w : World) (z : Int) (b : Bool) (r : List UInt8) (y : Nat) (hx : rng x < 9218868437227405312) (hp : p ≤ 6) (hm : floatBits .mul .f64 x (tenF p) = some y)
    (h7 : ∀ w, Calls Tryd.prog 7 #[.float .f64 y] w fun e w' => e = two z b ∧ ∃ m, w' = w.drewN m) (h9 : ∀ w, Calls Tryd.prog 9 #[.int .i64 z, .int .i64 p] w fun e w' => e = str r ∧ Below w.heap.size w w') :
    Calls Tryd.prog 4 #[.float .f64 x, .int .i64 p] w fun e w' => e = (if b then str r else str [102, 97, 114]) ∧ Below w.heap.size w w' := by
  have n1 := self_ne x
  have hn : nan x = false := decide_eq_false (by omega)
  rw [hn] at n1
  have hk : kn x = true := decide_eq_true hx
  have i1 : ¬ (p : Int) < 0 := by omega
  have i2 : ¬ (6 : Int) < (p : Int) := by omega
  have hmul : ∀ w, (binOp .mul 22 (.float .f64 x) (.float .f64 (tenF p))).run Tryd.prog w = .ok (.float .f64 y) w := fun w => run_float_arith w .mul 22 .f64 _ _ _ hm
  have ht := ten_int p hp
  have LT : Hid (∀ w, Calls Tryd.prog 8 #[.int .i64 p] w fun e w' => e = .returned (.int .i64 ((10 : Int) ^ p)) ∧ w' = w) := fun w => lten_any p w hp
  have KN : Hid (∀ w, Calls Tryd.prog 6 #[.float .f64 x] w fun e w' => e = .returned (.bool true) ∧ ∃ m, w' = w.drewN m) := fun w => by rw [← hk]; exact sknown_any x w
  have H7 : Hid _ := h7
  have H9 : Hid _ := h9
  generalize (10 : Int) ^ p = tz at *
  generalize tenF p = tf at *
  clear hm hn hk h7 h9
  cases b
  · go_enter Tryd.func4, Tryd.ntmps4
    go_wp2_with (first | (go_at_call 6; refine (KN.out _).mono ?_; rintro e w1 ⟨rfl, m, rfl⟩) | (go_at_call 8; refine (LT.out _).mono ?_; rintro e w1 ⟨rfl, hw1⟩; subst hw1) | (go_at_call 7; refine (H7.out _).mono ?_; rintro e w1 ⟨rfl, m, rfl⟩))
    go_ret
    exact ⟨rfl, below_drewN (Below.refl _ _) _⟩
  · go_enter Tryd.func4, Tryd.ntmps4
    go_wp2_with (first | (go_at_call 6; refine (KN.out _).mono ?_; rintro e w1 ⟨rfl, m, rfl⟩) | (go_at_call 8; refine (LT.out _).mono ?_; rintro e w1 ⟨rfl, hw1⟩; subst hw1) | (go_at_call 7; refine (H7.out _).mono ?_; rintro e w1 ⟨rfl, m, rfl⟩) | (go_at_call 9; refine (H9.out _).mono ?_; rintro e w9 ⟨rfl, hb9⟩))
    go_ret
    exact ⟨rfl, (below_drewN (Below.refl w.heap.size w) _).trans (hb9.mono (below_drewN (Below.refl w.heap.size w) _).size)⟩

set_option maxHeartbeats 2000000 in
theorem itold_fin (x p : Nat) (w : World) (hT : Tb w) (z : Int) (b : Bool) (r : List UInt8) (y : Nat) (hx : rng x < 9218868437227405312) (hp : p ≤ 6) (hm : floatBits .mul .f64 x (tenF p) = some y)
    (h13 : ∀ w, Calls Tryd.prog 13 #[.float .f64 y] w fun e w' => e = two z b ∧ ∃ m, w' = w.drewN m) (h15 : ∀ w, Tb w → Calls Tryd.prog 15 #[.int .i64 z, .int .i64 p] w fun e w' => e = str r ∧ Below w.heap.size w w') :
    Calls Tryd.prog 5 #[.float .f64 x, .int .i64 p] w fun e w' => e = (if b then str r else str [102, 97, 114]) ∧ Below w.heap.size w w' := by
  have hn : nan x = false := decide_eq_false (by omega)
  have W : Hid (∀ w, Calls Tryd.prog 10 #[.int .i64 p, .int .i64 0, .int .i64 6] w fun e w' => e = .returned (.bool true) ∧ w' = w) := fun w => by
    have := within_any p 0 6 w
    rw [decide_eq_true (by omega), decide_eq_true (by omega)] at this
    exact this
  have NA : Hid (∀ w, Calls Tryd.prog 11 #[.float .f64 x] w fun e w' => e = .returned (.bool false) ∧ w' = w) := fun w => by rw [← hn]; exact isnan_any x w
  have IH : Hid (∀ w, Calls Tryd.prog 12 #[.float .f64 x, .int .i64 1] w fun e w' => e = .returned (.bool false) ∧ w' = w) := fun w => isinf_hi x false w (not_gt x hx)
  have IL : Hid (∀ w, Calls Tryd.prog 12 #[.float .f64 x, .int .i64 (-1)] w fun e w' => e = .returned (.bool false) ∧ w' = w) := fun w => isinf_lo x false w (not_gt _ (by rw [neg_rng]; exact hx))
  have hmul : ∀ w, (binOp .mul 22 (.float .f64 x) (.float .f64 (tenF p))).run Tryd.prog w = .ok (.float .f64 y) w := fun w => run_float_arith w .mul 22 .f64 _ _ _ hm
  have PW : Hid (∀ w, Calls Tryd.prog 14 #[.int .i64 p] w fun e w' => e = .returned (.float .f64 (tenF p)) ∧ w' = w) := fun w => power_any p w hp
  have H13 : Hid _ := h13
  have H15 : Hid _ := h15
  have HT : Hid (Tb w) := hT
  generalize tenF p = tf at *
  clear hm hn h13 h15 hT
  go_enter Tryd.func5, Tryd.ntmps5
  go_wp2_with fail
  refine (W.out _).mono ?_
  rintro e w1 ⟨rfl, hw1⟩
  subst hw1
  go_wp2_with fail
  refine (NA.out _).mono ?_
  rintro e w1 ⟨rfl, hw1⟩
  subst hw1
  go_wp2_with fail
  refine (IH.out _).mono ?_
  rintro e w1 ⟨rfl, hw1⟩
  subst hw1
  go_wp2_with fail
  refine (IL.out _).mono ?_
  rintro e w1 ⟨rfl, hw1⟩
  subst hw1
  go_wp2_with fail
  refine (PW.out _).mono ?_
  rintro e w1 ⟨rfl, hw1⟩
  subst hw1
  go_wp2_with fail
  refine (H13.out _).mono ?_
  rintro e w2 ⟨rfl, m, rfl⟩
  cases b
  · go_wp2_with fail
    go_ret
    exact ⟨rfl, below_drewN (Below.refl _ _) _⟩
  · go_wp2_with fail
    refine (H15.out _ (HT.out.keep _ _ (below_drewN (Below.refl _ _) _))).mono ?_
    rintro e w9 ⟨rfl, hb9⟩
    go_wp2_with fail
    go_ret
    exact ⟨rfl, (below_drewN (Below.refl w1.heap.size w1) m).trans (hb9.mono (below_drewN (Below.refl w1.heap.size w1) m).size)⟩

set_option maxHeartbeats 1000000 in
theorem stold_out (x : Nat) (q : Int) (w : World) (h : q < 0 ∨ 6 < q) : Calls Tryd.prog 4 #[.float .f64 x, .int .i64 q] w fun e w' => e = str [] ∧ Below w.heap.size w w' := by
  by_cases h1 : q < 0
  · go_enter Tryd.func4, Tryd.ntmps4
    go_wp2
    go_ret
    exact ⟨rfl, Below.refl _ _⟩
  · have h2 : 6 < q := by omega
    go_enter Tryd.func4, Tryd.ntmps4
    go_wp2
    go_ret
    exact ⟨rfl, Below.refl _ _⟩
set_option maxHeartbeats 1000000 in
theorem itold_out (x : Nat) (q : Int) (w : World) (h : q < 0 ∨ 6 < q) : Calls Tryd.prog 5 #[.float .f64 x, .int .i64 q] w fun e w' => e = str [] ∧ Below w.heap.size w w' := by
  have W : Hid (∀ w, Calls Tryd.prog 10 #[.int .i64 q, .int .i64 0, .int .i64 6] w fun e w' => e = .returned (.bool false) ∧ w' = w) := fun w => by
    have := within_any q 0 6 w
    rw [show (decide (0 ≤ q) && decide (q ≤ 6)) = false by rw [Bool.and_eq_false_iff]; simp; omega] at this
    exact this
  clear h
  go_enter Tryd.func5, Tryd.ntmps5
  go_wp2_with fail
  refine (W.out _).mono ?_
  rintro e w1 ⟨rfl, hw1⟩
  subst hw1
  go_wp2_with fail
  go_ret
  exact ⟨rfl, Below.refl _ _⟩

set_option maxHeartbeats 1000000 in
theorem stold_nan (x : Nat) (q : Int) (w : World) (h0 : 0 ≤ q) (h6 : q ≤ 6) (hn : nan x = true) : Calls Tryd.prog 4 #[.float .f64 x, .int .i64 q] w fun e w' => e = str [47] ∧ Below w.heap.size w w' := by
  have n1 := self_ne x
  rw [hn] at n1
  go_enter Tryd.func4, Tryd.ntmps4
  go_wp2
  go_ret
  exact ⟨rfl, Below.refl _ _⟩
theorem win_yes (q : Int) (h0 : 0 ≤ q) (h6 : q ≤ 6) (w : World) : Calls Tryd.prog 10 #[.int .i64 q, .int .i64 0, .int .i64 6] w fun e w' => e = .returned (.bool true) ∧ w' = w := by
  have := within_any q 0 6 w
  rw [decide_eq_true h0, decide_eq_true h6] at this
  exact this
set_option maxHeartbeats 1000000 in
theorem itold_nan (x : Nat) (q : Int) (w : World) (h0 : 0 ≤ q) (h6 : q ≤ 6) (hn : nan x = true) : Calls Tryd.prog 5 #[.float .f64 x, .int .i64 q] w fun e w' => e = str [47] ∧ Below w.heap.size w w' := by
  have W : Hid (∀ w, Calls Tryd.prog 10 #[.int .i64 q, .int .i64 0, .int .i64 6] w fun e w' => e = .returned (.bool true) ∧ w' = w) := fun w => win_yes q h0 h6 w
  have NA : Hid (∀ w, Calls Tryd.prog 11 #[.float .f64 x] w fun e w' => e = .returned (.bool true) ∧ w' = w) := fun w => by rw [← hn]; exact isnan_any x w
  clear hn
  go_enter Tryd.func5, Tryd.ntmps5
  go_wp2_with fail
  refine (W.out _).mono ?_
  rintro e w1 ⟨rfl, hw1⟩
  subst hw1
  go_wp2_with fail
  refine (NA.out _).mono ?_
  rintro e w1 ⟨rfl, hw1⟩
  subst hw1
  go_wp2_with fail
  go_ret
  exact ⟨rfl, Below.refl _ _⟩

def infT (s : Bool) : List UInt8 := if s then [108, 111, 119] else [104, 105, 103, 104]
def infB (s : Bool) : Nat := if s then 18442240474082181120 else 9218868437227405312
set_option maxHeartbeats 1000000 in
theorem stold_inf (s : Bool) (q : Int) (w : World) (h0 : 0 ≤ q) (h6 : q ≤ 6) : Calls Tryd.prog 4 #[.float .f64 (infB s), .int .i64 q] w fun e w' => e = str (infT s) ∧ Below w.heap.size w w' := by
  have n1 := self_ne (infB s)
  have hn : nan (infB s) = false := by cases s <;> decide +kernel
  rw [hn] at n1
  have hk : kn (infB s) = false := by cases s <;> decide +kernel
  have KN : Hid (∀ w, Calls Tryd.prog 6 #[.float .f64 (infB s)] w fun e w' => e = .returned (.bool false) ∧ ∃ m, w' = w.drewN m) := fun w => by rw [← hk]; exact sknown_any _ w
  have hg : (ord (infB s) 0 == some .gt) = !s := by cases s <;> decide +kernel
  have ES : Hid (infT s = if s then [108, 111, 119] else [104, 105, 103, 104]) := rfl
  generalize infB s = x at *
  generalize infT s = tt at *
  clear hn hk
  cases s
  · obtain rfl : tt = [104, 105, 103, 104] := ES.out
    go_enter Tryd.func4, Tryd.ntmps4
    go_wp2_with (go_at_call 6; refine (KN.out _).mono ?_; rintro e w1 ⟨rfl, m, rfl⟩)
    go_ret
    exact ⟨rfl, below_drewN (Below.refl _ _) _⟩
  · obtain rfl : tt = [108, 111, 119] := ES.out
    go_enter Tryd.func4, Tryd.ntmps4
    go_wp2_with (go_at_call 6; refine (KN.out _).mono ?_; rintro e w1 ⟨rfl, m, rfl⟩)
    go_ret
    exact ⟨rfl, below_drewN (Below.refl _ _) _⟩
set_option maxHeartbeats 1000000 in
theorem itold_inf (s : Bool) (q : Int) (w : World) (h0 : 0 ≤ q) (h6 : q ≤ 6) : Calls Tryd.prog 5 #[.float .f64 (infB s), .int .i64 q] w fun e w' => e = str (infT s) ∧ Below w.heap.size w w' := by
  have W : Hid (∀ w, Calls Tryd.prog 10 #[.int .i64 q, .int .i64 0, .int .i64 6] w fun e w' => e = .returned (.bool true) ∧ w' = w) := fun w => win_yes q h0 h6 w
  have hn : nan (infB s) = false := by cases s <;> decide +kernel
  have NA : Hid (∀ w, Calls Tryd.prog 11 #[.float .f64 (infB s)] w fun e w' => e = .returned (.bool false) ∧ w' = w) := fun w => by rw [← hn]; exact isnan_any _ w
  have IH : Hid (∀ w, Calls Tryd.prog 12 #[.float .f64 (infB s), .int .i64 1] w fun e w' => e = .returned (.bool (!s)) ∧ w' = w) := fun w => isinf_hi _ _ w (by cases s <;> decide +kernel)
  have IL : Hid (∀ w, Calls Tryd.prog 12 #[.float .f64 (infB s), .int .i64 (-1)] w fun e w' => e = .returned (.bool s) ∧ w' = w) := fun w => isinf_lo _ _ w (by cases s <;> decide +kernel)
  have ES : Hid (infT s = if s then [108, 111, 119] else [104, 105, 103, 104]) := rfl
  generalize infB s = x at *
  generalize infT s = tt at *
  clear hn
  go_enter Tryd.func5, Tryd.ntmps5
  go_wp2_with fail
  refine (W.out _).mono ?_
  rintro e w1 ⟨rfl, hw1⟩
  subst hw1
  go_wp2_with fail
  refine (NA.out _).mono ?_
  rintro e w1 ⟨rfl, hw1⟩
  subst hw1
  go_wp2_with fail
  refine (IH.out _).mono ?_
  rintro e w1 ⟨rfl, hw1⟩
  subst hw1
  cases s
  · obtain rfl : tt = [104, 105, 103, 104] := ES.out
    go_wp2_with fail
    go_ret
    exact ⟨rfl, Below.refl _ _⟩
  · obtain rfl : tt = [108, 111, 119] := ES.out
    go_wp2_with fail
    refine (IL.out _).mono ?_
    rintro e w1 ⟨rfl, hw1⟩
    subst hw1
    go_wp2_with fail
    go_ret
    exact ⟨rfl, Below.refl _ _⟩

theorem inf_is (x : Nat) (hx : x < 18446744073709551616) (h : rng x = 9218868437227405312) : ∃ s, x = infB s := by
  unfold rng at h
  by_cases c : x < 9223372036854775808
  · exact ⟨false, by show x = 9218868437227405312; omega⟩
  · exact ⟨true, by show x = 18442240474082181120; omega⟩

theorem told_both (x : Nat) (q : Int) (hx : x < 18446744073709551616) : ∃ r : List UInt8, (∀ w, Calls Tryd.prog 4 #[.float .f64 x, .int .i64 q] w fun e w' => e = str r ∧ Below w.heap.size w w') ∧
    (∀ w, Tb w → Calls Tryd.prog 5 #[.float .f64 x, .int .i64 q] w fun e w' => e = str r ∧ Below w.heap.size w w') := by
  by_cases hq : 0 ≤ q ∧ q ≤ 6
  · cases hn : nan x
    · have hr : rng x ≤ 9218868437227405312 := by unfold nan at hn; simpa using hn
      by_cases hi : rng x = 9218868437227405312
      · obtain ⟨s, rfl⟩ := inf_is x hx hi
        exact ⟨infT s, fun w => stold_inf s q w hq.1 hq.2, fun w _ => itold_inf s q w hq.1 hq.2⟩
      · obtain ⟨p, rfl⟩ : ∃ p : Nat, q = p := ⟨q.toNat, by omega⟩
        have hp : p ≤ 6 := by omega
        obtain ⟨y, hm, hy⟩ := mul_fin x (tenF p) (by omega) (ten_fin p)
        obtain ⟨z, b, r, h7, h13, h9, h15⟩ := far_both y p hy hp
        have S := fun w => stold_fin x p w z b r y (by omega) hp hm h7 h9
        have I := fun w (hT : Tb w) => itold_fin x p w hT z b r y (by omega) hp hm h13 h15
        cases b
        · exact ⟨[102, 97, 114], S, I⟩
        · exact ⟨r, S, I⟩
    · exact ⟨[47], fun w => stold_nan x q w hq.1 hq.2 hn, fun w _ => itold_nan x q w hq.1 hq.2 hn⟩
  · exact ⟨[], fun w => stold_out x q w (by omega), fun w _ => itold_out x q w (by omega)⟩

set_option maxHeartbeats 1000000 in
theorem toldLaw (x : Nat) (q : Int) (w : World) (hT : Tb w) (hx : x < 18446744073709551616) : Calls Tryd.prog 3 #[.float .f64 x, .int .i64 q] w fun e w' => e = .returned (.bool true) ∧ Below w.heap.size w w' := by
  obtain ⟨r, S, I⟩ := told_both x q hx
  have HS : Hid (∀ w, Calls Tryd.prog 4 #[.float .f64 x, .int .i64 q] w fun e w' => e = str r ∧ Below w.heap.size w w') := S
  have HI : Hid (∀ w, Tb w → Calls Tryd.prog 5 #[.float .f64 x, .int .i64 q] w fun e w' => e = str r ∧ Below w.heap.size w w') := I
  have HT : Hid (Tb w) := hT
  have hrr : (r == r) = true := by simp
  have hrr' : (r != r) = false := by simp
  clear S I hT hx
  go_enter Tryd.func3, Tryd.ntmps3
  go_wp2_with fail
  refine (HS.out _).mono ?_
  rintro e w1 ⟨rfl, hb1⟩
  have B1 : Hid (Below w.heap.size w w1) := hb1
  clear hb1
  go_wp2_with fail
  refine (HI.out _ (HT.out.keep _ _ B1.out)).mono ?_
  rintro e w2 ⟨rfl, hb2⟩
  have B2 : Hid (Below w.heap.size w w2) := B1.out.trans (hb2.mono B1.out.size)
  clear hb2
  go_wp2_with fail
  all_goals
    go_ret
    exact ⟨rfl, B2.out⟩
end Go.Proofs.YtdjihkmhgmkdjaaDoor.Flt
