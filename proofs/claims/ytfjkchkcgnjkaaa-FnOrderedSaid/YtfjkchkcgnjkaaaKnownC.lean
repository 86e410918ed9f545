/- Contracts for Known, in the program and in its model; two floats held against each other. -/
import Derived.Test.YtfjkchkcgnjkaaaRows
import Derived.Test.YtfjkchkcgnjkaaaFlt
import Derived.WalkKit
import Derived.ProofKit
import Derived.WalkSpells
import Derived.WalkLawsBesides
import Derived.Laws.Bits64b
import Derived.Below
namespace Go.Proofs.Ytfjkchkcgnjkaaa.Flt
open Go.ChangeShapes Go.WideShapes Go.ChangeAt Go.RowKit

/-- An operation without an answer gives some missing number, and one draw is taken. -/
theorem run_nan (P : Program) (op : BinOp) (t : TypeId) (x y : Nat) (hop : op = .add ∨ op = .sub ∨ op = .mul ∨ op = .quo) (h : floatBits op .f64 x y = none) (w : World) :
    ∃ b, 9218868437227405312 < rng b ∧ b < 18446744073709551616 ∧ (binOp op t (.float .f64 x) (.float .f64 y)).run P w = .ok (.float .f64 b) w.drew := by
  refine ⟨Question.cut (.nanBits .f64 x y) (w.tape w.drawn (.nanBits .f64 x y)), ?_, ?_, ?_⟩
  · simp [Question.cut, rng]
    generalize w.tape w.drawn (.nanBits .f64 x y) = T
    have hT : T % 2 = 0 ∨ T % 2 = 1 := by omega
    rcases hT with hT | hT <;> rw [hT] <;> omega
  · simp [Question.cut]; omega
  · unfold floatBits at h
    rcases hop with rfl | rfl | rfl | rfl <;> simp only at h <;> simp [binOp, Op.floatArith, h, Question.forced]

theorem and_exp (x : Nat) : (x &&& 9218868437227405312) = x / 4503599627370496 % 2048 * 4503599627370496 := by
  have e : x &&& 9218868437227405312 = ((x >>> 52) &&& 2047) <<< 52 := by
    apply Nat.eq_of_testBit_eq
    intro i
    simp only [Nat.testBit_and, Nat.testBit_shiftLeft, Nat.testBit_shiftRight]
    rw [show (9218868437227405312 : Nat) = 2047 <<< 52 by rfl, Nat.testBit_shiftLeft]
    by_cases h : 52 ≤ i
    · simp [h, show 52 + (i - 52) = i by omega]
    · simp [h]
  rw [e, Nat.shiftLeft_eq, Nat.shiftRight_eq_div_pow, show (2047 : Nat) = 2 ^ 11 - 1 by rfl, Nat.and_two_pow_sub_one_eq_mod]

theorem and_u64 (x : Nat) (hx : x < 18446744073709551616) : bits .and .u64 (x : Int) 9218868437227405312 = ((x &&& 9218868437227405312 : Nat) : Int) :=
  bits_and_u64_nat x 9218868437227405312 hx (by omega)

def kn (x : Nat) : Bool := decide (rng x < 9218868437227405312)
theorem kn_bits (x : Nat) (hx : x < 18446744073709551616) : (bits .and .u64 (x : Int) 9218868437227405312 != 9218868437227405312) = kn x := by
  rw [and_u64 x hx, and_exp x]
  unfold kn rng
  by_cases h : x % 9223372036854775808 < 9218868437227405312
  · rw [decide_eq_true h]; simp; omega
  · rw [decide_eq_false h]; simp; omega

theorem div_zero (x : Nat) (h : rng x = 0) : Ieee.double.div 4607182418800017408 x = some (if sgn x then 18442240474082181120 else 9218868437227405312) := by
  have e1 : Ieee.double.read 4607182418800017408 = .number false 4503599627370496 (-52) := rfl
  have e2 : Ieee.double.read x = .number (sgn x) 0 (-1074) := by rw [read_eq, if_pos (by omega), h]
  unfold Ieee.Format.div
  rw [e1, e2]
  cases sgn x <;> rfl

theorem key_zero : key 0 = 0 := rfl
theorem sgn_inf (s : Bool) : key (if s then 18442240474082181120 else 9218868437227405312) = sg s 9218868437227405312 ∧ rng (if s then 18442240474082181120 else 9218868437227405312) = 9218868437227405312 := by cases s <;> exact ⟨rfl, rfl⟩

abbrev ord (x y : Nat) : Option Ordering := FloatKind.f64.format.order x y

def nan (x : Nat) : Bool := decide (9218868437227405312 < rng x)
def sameB (a b : Nat) : Bool := if nan a || nan b then nan a && nan b else decide (a = b)

theorem self_ne (x : Nat) : (ord x x != some .eq) = nan x := by
  unfold nan
  by_cases h : 9218868437227405312 < rng x
  · rw [decide_eq_true h, show ord x x = none from order_nan x x (Or.inl h)]; rfl
  · rw [decide_eq_false h, show ord x x = some (compare (key x) (key x)) from order_key x x (by omega) (by omega), c_eq rfl]; rfl


set_option maxHeartbeats 1000000 in
theorem sf_same (x : Nat) (w : World) : Calls Try.prog 17 #[.float .f64 x, .float .f64 x] w fun e w' => e = .returned (.bool true) ∧ w' = w := by
  have n1 := self_ne x
  cases ea : nan x
  · have ra : rng x ≤ 9218868437227405312 := by have := ea; unfold nan at this; simpa using this
    rw [ea] at n1
    have ho : ord x 0 = some (compare (key x) 0) := order_key x 0 ra (by decide)
    have hxx : (ord x x == some .eq) = true := by rw [show ord x x = some (compare (key x) (key x)) from order_key x x ra ra, c_eq rfl]; rfl
    by_cases hz : rng x = 0
    · have hk : key x = 0 := by unfold key; rw [hz]; cases sgn x <;> rfl
      have o2 : (ord x 0 == some .eq) = true := by rw [ho, hk]; rfl
      have hq : ∀ w, (binOp .quo 31 (.float .f64 4607182418800017408) (.float .f64 x)).run Try.prog w = .ok (.float .f64 (if sgn x then 18442240474082181120 else 9218868437227405312)) w := fun w => run_float_arith w .quo 31 .f64 _ _ _ (div_zero x hz)
      generalize (if sgn x then 18442240474082181120 else 9218868437227405312) = y at *
      have hb : ((ord y 0 == some .gt) == (ord y 0 == some .gt)) = true := by simp
      clear hk ho ea ra
      go_enter Try.func17, Try.ntmps17
      go_wp2
      go_ret
      exact ⟨rfl, rfl⟩
    · have o2 : (ord x 0 == some .eq) = false := by
        rw [ho]
        cases hs : sgn x
        · have hk : 0 < key x := by unfold key; rw [hs]; simp [sg]; omega
          rw [c_gt hk]; rfl
        · have hk : key x < 0 := by unfold key; rw [hs]; simp [sg]; omega
          rw [c_lt hk]; rfl
      clear ho ea ra
      go_enter Try.func17, Try.ntmps17
      go_wp2
      go_ret
      exact ⟨rfl, rfl⟩
  · rw [ea] at n1
    clear ea
    go_enter Try.func17, Try.ntmps17
    go_wp2
    go_ret
    exact ⟨rfl, rfl⟩
set_option maxHeartbeats 1000000 in
theorem sf_nan (x y : Nat) (w : World) (hx : nan x = true) (hy : nan y = true) : Calls Try.prog 17 #[.float .f64 x, .float .f64 y] w fun e w' => e = .returned (.bool true) ∧ w' = w := by
  have n1 := self_ne x
  have n2 := self_ne y
  rw [hx] at n1
  rw [hy] at n2
  clear hx hy
  go_enter Try.func17, Try.ntmps17
  go_wp2
  go_ret
  exact ⟨rfl, rfl⟩
end Go.Proofs.Ytfjkchkcgnjkaaa.Flt
