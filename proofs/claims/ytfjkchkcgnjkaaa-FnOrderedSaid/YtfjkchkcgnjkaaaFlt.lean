/- Plain facts on float64 by its bits: a word's sign and rung; numbers stand to each other as their signed rungs do; a number less itself is nought. -/
import Ieee.Arith
import Derived.Laws.FloatArith
namespace Go.Proofs.Ytfjkchkcgnjkaaa.Flt
open Ieee

def sgn (x : Nat) : Bool := x / 9223372036854775808 % 2 == 1
def rng (x : Nat) : Nat := x % 9223372036854775808
def sg (s : Bool) (v : Nat) : Int := if s then -(v : Int) else v
def key (x : Nat) : Int := sg (sgn x) (rng x)
/-- The magnitude of a rung, in units of the least one. -/
def val (r : Nat) : Nat := if r < 4503599627370496 then r else (4503599627370496 + r % 4503599627370496) * 2 ^ (r / 4503599627370496 - 1)

theorem read_eq (x : Nat) : double.read x = if rng x < 4503599627370496 then .number (sgn x) (rng x) (-1074) else if rng x < 9218868437227405312 then .number (sgn x) (4503599627370496 + rng x % 4503599627370496) (-1074 + (rng x / 4503599627370496 - 1 : Nat)) else if rng x = 9218868437227405312 then .infinity (sgn x) else .nan (sgn x) (rng x - 9218868437227405312) := by
  rfl

theorem val_lt {r q : Nat} (h : r < q) : val r < val q := by
  unfold val
  by_cases hq : q < 4503599627370496
  · rw [if_pos (by omega), if_pos hq]; exact h
  · rw [if_neg hq]
    have hp : 0 < 2 ^ (q / 4503599627370496 - 1) := Nat.two_pow_pos _
    by_cases hr : r < 4503599627370496
    · rw [if_pos hr]
      have : 4503599627370496 * 1 ≤ (4503599627370496 + q % 4503599627370496) * 2 ^ (q / 4503599627370496 - 1) := Nat.mul_le_mul (by omega) hp
      omega
    · rw [if_neg hr]
      have e1 : 1 ≤ r / 4503599627370496 := by omega
      have e2 : r / 4503599627370496 ≤ q / 4503599627370496 := by omega
      by_cases e : r / 4503599627370496 = q / 4503599627370496
      · rw [e]
        exact Nat.mul_lt_mul_of_pos_right (by omega) hp
      · have h1 : 2 ^ (r / 4503599627370496 - 1) * 2 ≤ 2 ^ (q / 4503599627370496 - 1) := by
          rw [← Nat.pow_succ]
          exact Nat.pow_le_pow_right (by omega) (by omega)
        have hp1 : 0 < 2 ^ (r / 4503599627370496 - 1) := Nat.two_pow_pos _
        have h2 : (4503599627370496 + r % 4503599627370496) * 2 ^ (r / 4503599627370496 - 1) < (4503599627370496 * 2) * 2 ^ (r / 4503599627370496 - 1) := Nat.mul_lt_mul_of_pos_right (by omega) hp1
        have h3 : 4503599627370496 * (2 ^ (r / 4503599627370496 - 1) * 2) ≤ (4503599627370496 + q % 4503599627370496) * 2 ^ (q / 4503599627370496 - 1) := Nat.mul_le_mul (by omega) h1
        have h4 : (4503599627370496 * 2) * 2 ^ (r / 4503599627370496 - 1) = 4503599627370496 * (2 ^ (r / 4503599627370496 - 1) * 2) := by
          rw [Nat.mul_assoc, Nat.mul_comm 2]
        omega

theorem val_zero : val 0 = 0 := rfl
theorem c_lt {a b : Int} (h : a < b) : compare a b = .lt := by
  show compareOfLessAndEq a b = _
  unfold compareOfLessAndEq
  rw [if_pos h]
theorem c_eq {a b : Int} (h : a = b) : compare a b = .eq := by
  show compareOfLessAndEq a b = _
  unfold compareOfLessAndEq
  rw [if_neg (by omega), if_pos h]
theorem c_gt {a b : Int} (h : b < a) : compare a b = .gt := by
  show compareOfLessAndEq a b = _
  unfold compareOfLessAndEq
  rw [if_neg (by omega), if_neg (by omega)]

theorem cmp_sg {r q : Nat} (s t : Bool) : compare (sg s (val r)) (sg t (val q)) = compare (sg s r) (sg t q) := by
  have h0 : ∀ n, 0 < n → 0 < val n := fun n h => by have := val_lt h; rw [val_zero] at this; exact this
  have hrq : r < q → val r < val q := val_lt
  have hqr : q < r → val q < val r := val_lt
  have z1 := h0 r
  have z2 := h0 q
  have v0 := val_zero
  have hz : r = 0 → val r = 0 := fun e => by rw [e]; rfl
  have hz' : q = 0 → val q = 0 := fun e => by rw [e]; rfl
  have hee : r = q → val r = val q := fun e => by rw [e]
  have key : ∀ a b c d : Int, (a < b ↔ c < d) → (a = b ↔ c = d) → compare a b = compare c d := by
    intro a b c d h1 h2
    by_cases x : a < b
    · rw [c_lt x, c_lt (h1.1 x)]
    · by_cases y : a = b
      · rw [c_eq y, c_eq (h2.1 y)]
      · have x' : ¬ c < d := fun e => x (h1.2 e)
        have y' : ¬ c = d := fun e => y (h2.2 e)
        rw [c_gt (by omega), c_gt (by omega)]
  generalize val r = vr at *
  generalize val q = vq at *
  refine key _ _ _ _ ?_ ?_
  · cases s <;> cases t <;> simp [sg] <;> omega
  · cases s <;> cases t <;> simp [sg] <;> omega

theorem cmp_scale (a b : Int) (k : Nat) : compare (a * 2 ^ k) (b * 2 ^ k) = compare a b := by
  have hp : (0 : Int) < 2 ^ k := Int.pow_pos (by omega)
  by_cases x : a < b
  · rw [c_lt x, c_lt (Int.mul_lt_mul_of_pos_right x hp)]
  · by_cases y : a = b
    · rw [y]; simp
    · have : b < a := by omega
      rw [c_gt this, c_gt (Int.mul_lt_mul_of_pos_right this hp)]

theorem signed_eq (s : Bool) (m k : Nat) : signed s m k = sg s (m * 2 ^ k) := by
  unfold signed sg
  rw [Nat.shiftLeft_eq]
theorem sg_mul (s : Bool) (m k : Nat) : sg s (m * 2 ^ k) = sg s m * 2 ^ k := by
  cases s <;> simp [sg, Int.neg_mul]

theorem order_num (s t : Bool) (m n a b : Nat) : (Datum.number s m (-1074 + (a : Int))).order (.number t n (-1074 + (b : Int))) = some (compare (sg s (m * 2 ^ a)) (sg t (n * 2 ^ b))) := by
  simp only [Datum.order, signed_eq]
  congr 1
  by_cases h : a ≤ b
  · have e1 : ((-1074 + (a : Int)) - min (-1074 + (a : Int)) (-1074 + (b : Int))).toNat = 0 := by omega
    have e2 : ((-1074 + (b : Int)) - min (-1074 + (a : Int)) (-1074 + (b : Int))).toNat = b - a := by omega
    rw [e1, e2, ← cmp_scale _ _ a, ← sg_mul, ← sg_mul, Nat.mul_assoc, ← Nat.pow_add, Nat.mul_assoc, ← Nat.pow_add]
    rw [show 0 + a = a by omega, show b - a + a = b by omega]
  · have e1 : ((-1074 + (a : Int)) - min (-1074 + (a : Int)) (-1074 + (b : Int))).toNat = a - b := by omega
    have e2 : ((-1074 + (b : Int)) - min (-1074 + (a : Int)) (-1074 + (b : Int))).toNat = 0 := by omega
    rw [e1, e2, ← cmp_scale _ _ b, ← sg_mul, ← sg_mul, Nat.mul_assoc, ← Nat.pow_add, Nat.mul_assoc, ← Nat.pow_add]
    rw [show 0 + b = b by omega, show a - b + b = a by omega]

/-- A finite word as a number whose magnitude is its rung's. -/
theorem read_fin (x : Nat) (h : rng x < 9218868437227405312) : ∃ m a : Nat, double.read x = .number (sgn x) m (-1074 + (a : Int)) ∧ m * 2 ^ a = val (rng x) := by
  rw [read_eq]
  by_cases h1 : rng x < 4503599627370496
  · exact ⟨rng x, 0, by rw [if_pos h1]; rfl, by rw [val, if_pos h1]; simp⟩
  · exact ⟨_, _, by rw [if_neg h1, if_pos h], by rw [val, if_neg h1]⟩
theorem read_inf (x : Nat) (h : rng x = 9218868437227405312) : double.read x = .infinity (sgn x) := by
  rw [read_eq, if_neg (by omega), if_neg (by omega), if_pos h]
theorem read_nan (x : Nat) (h : 9218868437227405312 < rng x) : double.read x = .nan (sgn x) (rng x - 9218868437227405312) := by
  rw [read_eq, if_neg (by omega), if_neg (by omega), if_neg (by omega)]

/-- Numbers stand to each other as their signed rungs do. -/
theorem order_key (x y : Nat) (hx : rng x ≤ 9218868437227405312) (hy : rng y ≤ 9218868437227405312) : double.order x y = some (compare (key x) (key y)) := by
  unfold Format.order
  by_cases h1 : rng x = 9218868437227405312
  · rw [read_inf x h1]
    by_cases h2 : rng y = 9218868437227405312
    · rw [read_inf y h2]
      unfold key
      rw [h1, h2]
      cases sgn x <;> cases sgn y <;> rfl
    · obtain ⟨n, b, e, _⟩ := read_fin y (by omega)
      rw [e]
      unfold key
      rw [h1]
      simp only [Datum.order]
      congr 1
      cases sgn x
      · rw [if_neg (by simp)]; symm; apply c_gt; cases sgn y <;> simp [sg] <;> omega
      · rw [if_pos rfl]; symm; apply c_lt; cases sgn y <;> simp [sg] <;> omega
  · obtain ⟨m, a, e, hm⟩ := read_fin x (by omega)
    rw [e]
    by_cases h2 : rng y = 9218868437227405312
    · rw [read_inf y h2]
      unfold key
      rw [h2]
      simp only [Datum.order]
      congr 1
      cases sgn y
      · rw [if_neg (by simp)]; symm; apply c_lt; cases sgn x <;> simp [sg] <;> omega
      · rw [if_pos rfl]; symm; apply c_gt; cases sgn x <;> simp [sg] <;> omega
    · obtain ⟨n, b, e', hn⟩ := read_fin y (by omega)
      rw [e', order_num, hm, hn, cmp_sg]
      rfl
theorem order_nan (x y : Nat) (h : 9218868437227405312 < rng x ∨ 9218868437227405312 < rng y) : double.order x y = none := by
  unfold Format.order
  rcases h with h | h
  · rw [read_nan x h]; rfl
  · rw [read_nan y h]; cases double.read x <;> rfl

theorem sub_self (x : Nat) (h : rng x < 9218868437227405312) : double.sub x x = some 0 := by
  obtain ⟨m, a, e, _⟩ := read_fin x h
  unfold Format.sub
  rw [e]
  have e0 : ∀ z : Int, (z - min z z).toNat = 0 := fun z => by omega
  simp only [Datum.opposite, Datum.sum, e0, signed_eq]
  have ez : sg (sgn x) (m * 2 ^ 0) + sg (!sgn x) (m * 2 ^ 0) = 0 := by cases sgn x <;> simp [sg] <;> omega
  rw [ez]
  cases sgn x <;> rfl
theorem sub_self_none (x : Nat) (h : 9218868437227405312 ≤ rng x) : double.sub x x = none := by
  unfold Format.sub
  by_cases h1 : rng x = 9218868437227405312
  · rw [read_inf x h1]; cases sgn x <;> rfl
  · rw [read_nan x (by omega)]; rfl
theorem word_rng (s : Bool) (r : Nat) (h : r < 9223372036854775808) : rng (double.word s r) = r ∧ double.word s r < 18446744073709551616 := by
  have e : double.signWeight = 9223372036854775808 := rfl
  unfold Format.word rng
  rw [e]
  cases s
  · simp; omega
  · simp; omega
theorem nearest_rng (s : Bool) (m : Nat) (p : Int) : rng (double.nearest s m p) ≤ 9218868437227405312 ∧ double.nearest s m p < 18446744073709551616 := by
  have e : double.infRung = 9218868437227405312 := rfl
  unfold Format.nearest
  dsimp only
  split
  · have := word_rng s 0 (by omega); rw [this.1]; exact ⟨by omega, this.2⟩
  · rw [e]
    generalize (_ : Nat) + _ = z
    have := word_rng s (min z 9218868437227405312) (by omega)
    rw [this.1]
    exact ⟨by omega, this.2⟩
theorem winf_rng (s : Bool) : rng (double.write (.infinity s)) ≤ 9218868437227405312 ∧ double.write (.infinity s) < 18446744073709551616 := by
  cases s <;> exact ⟨by decide +kernel, by decide +kernel⟩

/-- A number that is not missing and one that is known have a sum, and it is not missing. -/
theorem add_some (x y : Nat) (hx : rng x ≤ 9218868437227405312) (hy : rng y < 9218868437227405312) : ∃ r, double.add x y = some r ∧ rng r ≤ 9218868437227405312 ∧ r < 18446744073709551616 := by
  obtain ⟨n, b, e', _⟩ := read_fin y hy
  by_cases h : rng x = 9218868437227405312
  · refine ⟨double.write (.infinity (sgn x)), ?_, winf_rng _⟩
    unfold Format.add
    rw [read_inf x h, e']
    rfl
  · obtain ⟨m, a, e, _⟩ := read_fin x (by omega)
    unfold Format.add
    rw [e, e']
    exact ⟨_, rfl, nearest_rng _ _ _⟩

theorem fin_pos (y : Nat) (h0 : 0 < rng y) (h1 : rng y < 9218868437227405312) : ∃ (m : Nat) (p : Int), double.read y = .number (sgn y) (m + 1) p := by
  rw [read_eq]
  by_cases h : rng y < 4503599627370496
  · exact ⟨rng y - 1, -1074, by rw [if_pos h, show rng y - 1 + 1 = rng y by omega]⟩
  · rw [if_neg h, if_pos h1]
    exact ⟨4503599627370495 + rng y % 4503599627370496, _, by rw [show 4503599627370495 + rng y % 4503599627370496 + 1 = 4503599627370496 + rng y % 4503599627370496 by omega]⟩

theorem div_some (x y : Nat) (hx : rng x ≤ 9218868437227405312) (h0 : 0 < rng y) (h1 : rng y < 9218868437227405312) : ∃ r, double.div x y = some r ∧ r < 18446744073709551616 := by
  obtain ⟨n, b, e'⟩ := fin_pos y h0 h1
  by_cases h : rng x = 9218868437227405312
  · unfold Format.div
    rw [read_inf x h, e']
    exact ⟨_, rfl, (winf_rng _).2⟩
  · obtain ⟨m, a, e, _⟩ := read_fin x (by omega)
    unfold Format.div
    rw [e, e']
    simp only [Datum.quotient]
    rw [if_neg (by omega)]
    exact ⟨_, rfl, (nearest_rng _ _ _).2⟩

theorem counts : ((List.range 4001).all fun c => c == 0 || (decide (0 < rng (floatOfInt .f64 (c : Int))) && decide (rng (floatOfInt .f64 (c : Int)) < 9218868437227405312))) = true := by decide +kernel
theorem count_pos (c : Nat) (h0 : 0 < c) (h1 : c ≤ 4000) : 0 < rng (floatOfInt .f64 (c : Int)) ∧ rng (floatOfInt .f64 (c : Int)) < 9218868437227405312 := by
  have := List.all_eq_true.1 counts c (List.mem_range.2 (by omega))
  simp at this
  omega
end Go.Proofs.Ytfjkchkcgnjkaaa.Flt
