/- Where a number stands in order: the program's place, what its comparison says. -/
import Derived.Test.YtfjkchkcgnjkaaaNanC
import Derived.Test.YtfjkchkcgnjkaaaSo
import Derived.Laws.Bits64
namespace Go.Proofs.Ytfjkchkcgnjkaaa.Flt
open Go.ChangeShapes Go.WideShapes Go.ChangeAt Go.RowKit

def pl (x : Nat) : Nat := if nan x then 18446744073709551615 else if sgn x then 18446744073709551615 - x else x + 9223372036854775808
theorem run_bits (x : Nat) (w : World) : (callFunc 32 #[.float .f64 x]).run Try.prog w = .ok (.value (.int .u64 x)) w := by kernel_rfl
theorem and_top (x : Nat) : (x &&& 9223372036854775808) = x / 9223372036854775808 % 2 * 9223372036854775808 := by
  have e : x &&& 9223372036854775808 = ((x >>> 63) &&& 1) <<< 63 := by
    apply Nat.eq_of_testBit_eq
    intro i
    simp only [Nat.testBit_and, Nat.testBit_shiftLeft, Nat.testBit_shiftRight]
    rw [show (9223372036854775808 : Nat) = 1 <<< 63 by rfl, Nat.testBit_shiftLeft]
    by_cases h : 63 ≤ i
    · simp [h, show 63 + (i - 63) = i by omega]
    · simp [h]
  rw [e, Nat.shiftLeft_eq, Nat.shiftRight_eq_div_pow, show (1 : Nat) = 2 ^ 1 - 1 by rfl, Nat.and_two_pow_sub_one_eq_mod]
theorem or_top (x : Nat) (h : x < 9223372036854775808) : (x ||| 9223372036854775808) = x + 9223372036854775808 := by
  have e := Nat.two_pow_add_eq_or_of_lt (i := 63) (b := x) (by rw [show (2 : Nat) ^ 63 = 9223372036854775808 by rfl]; exact h) 1
  rw [show (2 : Nat) ^ 63 = 9223372036854775808 by rfl, Nat.mul_one] at e
  rw [Nat.or_comm, ← e]
  omega
theorem and_u (x : Nat) (hx : x < 18446744073709551616) : bits .and .u64 (x : Int) 9223372036854775808 = ((x &&& 9223372036854775808 : Nat) : Int) :=
  bits_and_u64_nat x 9223372036854775808 hx (by omega)

theorem top_bits (x : Nat) (hx : x < 18446744073709551616) : (bits .and .u64 (x : Int) 9223372036854775808 != 0) = sgn x := by
  rw [and_u x hx, and_top]
  unfold sgn
  have : x / 9223372036854775808 % 2 < 2 := Nat.mod_lt _ (by omega)
  generalize x / 9223372036854775808 % 2 = q at *
  by_cases e : q = 0
  · subst e; rfl
  · have : q = 1 := by omega
    subst this; rfl
theorem or_u (x : Nat) (hx : x < 9223372036854775808) : bits .or .u64 (x : Int) 9223372036854775808 = ((x + 9223372036854775808 : Nat) : Int) := by
  have := bits_or_u64_nat x 9223372036854775808 (by omega) (by omega)
  rw [or_top x hx] at this
  exact this
theorem xor_top (x : Nat) (hx : x < 18446744073709551616) : 18446744073709551615 ^^^ x = 18446744073709551615 - x := by
  have e : (~~~ (BitVec.ofNat 64 x)).toNat = 2 ^ 64 - 1 - x := by rw [BitVec.toNat_not, BitVec.toNat_ofNat, Nat.mod_eq_of_lt (by exact hx)]
  rw [← BitVec.allOnes_xor, BitVec.toNat_xor, BitVec.toNat_allOnes, BitVec.toNat_ofNat, Nat.mod_eq_of_lt (by exact hx)] at e
  exact e
theorem xor_u (x : Nat) (hx : x < 18446744073709551616) : bits .xor .u64 IntKind.u64.max (x : Int) = 18446744073709551615 - (x : Int) := by
  have := bits_xor_u64_nat 18446744073709551615 x (by omega) hx
  rw [xor_top x hx] at this
  refine Eq.trans this ?_
  omega
theorem sgn_lo {x : Nat} (h : sgn x = false) (hx : x < 18446744073709551616) : x < 9223372036854775808 := by
  unfold sgn at h
  simp at h
  omega
set_option maxHeartbeats 400000 in
theorem place_any (x : Nat) (w : World) (h : x < 18446744073709551616) :
    Calls Try.prog 23 #[.float .f64 x] w fun e w' => e = .returned (.int .u64 (pl x)) ∧ w' = w := by
  have hb := run_bits x
  have hs : (FloatKind.f64.format.order x x != some Ordering.eq) = nan x := self_ne x
  have ht := top_bits x h
  cases e1 : nan x
  · rw [e1] at hs
    cases e2 : sgn x
    · have hp : pl x = x + 9223372036854775808 := by unfold pl; rw [if_neg (by simp [e1]), if_neg (by simp [e2])]
      rw [e2] at ht
      have ho := or_u x (sgn_lo e2 h)
      rw [hp]
      generalize x + 9223372036854775808 = y at *
      clear e1 e2 hp
      go_enter Try.func23, Try.ntmps23
      go_wp2
      go_ret
      exact ⟨rfl, rfl⟩
    · have hp : pl x = 18446744073709551615 - x := by unfold pl; rw [if_neg (by simp [e1]), if_pos e2]
      rw [e2] at ht
      rw [hp]
      have hz : ((18446744073709551615 - x : Nat) : Int) = 18446744073709551615 - (x : Int) := by omega
      rw [hz]
      have h0 := h
      clear e1 e2 hp
      go_enter Try.func23, Try.ntmps23
      go_wp2
      go_ret
      exact ⟨congrArg (fun z => Ending.returned (.int .u64 z)) (xor_u x h0), rfl⟩
  · have hp : pl x = 18446744073709551615 := by unfold pl; rw [if_pos e1]
    rw [e1] at hs
    rw [hp]
    clear e1 hp
    go_enter Try.func23, Try.ntmps23
    go_wp2
    go_ret
    exact ⟨rfl, rfl⟩
def cv (a b : Nat) : Int := if a < b then -1 else if b < a then 1 else 0
theorem cv_neg (a b : Nat) : cv a b < 0 ↔ a < b := by unfold cv; split <;> (try split) <;> omega

set_option maxHeartbeats 400000 in
theorem cmp_any (a b : Nat) (w : World) :
    Calls Try.prog 22 #[.int .u64 (a : Int), .int .u64 (b : Int)] w fun e w' => e = .returned (.int .i64 (cv a b)) ∧ w' = w := by
  by_cases h1 : a < b
  · have : cv a b = -1 := if_pos h1
    rw [this]
    have i1 : (a : Int) < (b : Int) := by omega
    go_enter Try.func22, Try.ntmps22
    go_wp2
    go_ret
    exact ⟨rfl, rfl⟩
  · by_cases h2 : b < a
    · have : cv a b = 1 := by unfold cv; rw [if_neg h1, if_pos h2]
      rw [this]
      have i1 : ¬ (a : Int) < (b : Int) := by omega
      have i2 : (b : Int) < (a : Int) := by omega
      go_enter Try.func22, Try.ntmps22
      go_wp2
      go_ret
      exact ⟨rfl, rfl⟩
    · have : cv a b = 0 := by unfold cv; rw [if_neg h1, if_neg h2]
      rw [this]
      have i1 : ¬ (a : Int) < (b : Int) := by omega
      have i2 : ¬ (b : Int) < (a : Int) := by omega
      go_enter Try.func22, Try.ntmps22
      go_wp2
      go_ret
      exact ⟨rfl, rfl⟩
set_option maxHeartbeats 400000 in
theorem by_any (a b : Nat) (w : World) (ha : a < 18446744073709551616) (hb : b < 18446744073709551616) :
    Calls Try.prog 16 #[.float .f64 a, .float .f64 b] w fun e w' => e = .returned (.int .i64 (cv (pl a) (pl b))) ∧ w' = w := by
  have C1 := place_any a w ha
  have C2 := place_any b w hb
  have C3 := cmp_any (pl a) (pl b) w
  go_enter Try.func16, Try.ntmps16
  go_wp2_with fail
  refine C1.mono ?_
  rintro e w1 ⟨rfl, h1⟩
  subst h1
  go_wp2_with fail
  refine C2.mono ?_
  rintro e w2 ⟨rfl, h1⟩
  subst h1
  go_wp2_with fail
  refine C3.mono ?_
  rintro e w3 ⟨rfl, h1⟩
  subst h1
  go_wp2_with fail
  go_ret
  exact ⟨rfl, rfl⟩
end Go.Proofs.Ytfjkchkcgnjkaaa.Flt
