/- How far the nearest float64 lies off: a part in 2^53 at most. -/
import Derived.Test.YtilgifehilomgaaDoorFltY
namespace Go.Proofs.YtilgifehilomgaaDoor.Flt
open Ieee

theorem rhe_off (n g : Nat) (hg : 0 < g) : 2 * (rhe n g * g) ≤ 2 * n + g ∧ 2 * n ≤ 2 * (rhe n g * g) + g := by
  have e := Nat.div_add_mod n g
  have l := Nat.mod_lt n hg
  unfold rhe
  rw [Nat.add_mul, Nat.mul_comm (n / g) g]
  generalize g * (n / g) = q at *
  generalize n % g = d at *
  split
  · rename_i h
    rw [Nat.one_mul]
    omega
  · rename_i h
    rw [Nat.zero_mul]
    have : ¬ g < 2 * d := fun x => h (.inl x)
    omega

theorem val_at (e M : Nat) (h1 : 4503599627370496 ≤ M) (h2 : M ≤ 9007199254740992) : val (e * 4503599627370496 + M) = M * 2 ^ e := by
  unfold val
  rw [if_neg (by omega)]
  by_cases c : M = 9007199254740992
  · subst c
    have a : (e * 4503599627370496 + 9007199254740992) % 4503599627370496 = 0 := by omega
    have b : (e * 4503599627370496 + 9007199254740992) / 4503599627370496 - 1 = e + 1 := by omega
    rw [a, b, Nat.pow_succ]
    omega
  · have a : (e * 4503599627370496 + M) % 4503599627370496 = M - 4503599627370496 := by omega
    have b : (e * 4503599627370496 + M) / 4503599627370496 - 1 = e := by omega
    have c2 : 4503599627370496 + (M - 4503599627370496) = M := by omega
    rw [a, b, c2]

/-- The nearest float64 to m 2^a (in the lowest unit), where it has all its digits: off by a part in 2^53 at most. -/
theorem near_off (s : Bool) (m a : Nat) (hm : m ≠ 0) (h : 52 ≤ a + m.log2) (hf : a + m.log2 < 2000) :
    ∃ r, double.nearest s m (-1074 + (a : Int)) = double.word s r ∧ r < 9218868437227405312 ∧ 9007199254740992 * val r ≤ 9007199254740993 * (m * 2 ^ a) ∧ 9007199254740991 * (m * 2 ^ a) ≤ 9007199254740992 * val r := by
  rw [near_high s m a hm h]
  obtain ⟨b1, b2⟩ := log_bounds m a hm
  obtain ⟨e, he⟩ : ∃ e, a + m.log2 - 52 = e := ⟨_, rfl⟩
  have e1 : a + m.log2 = e + 52 := by omega
  rw [he]
  rw [e1] at b1 b2
  generalize m * 2 ^ a = n at *
  have g0 : 0 < 2 ^ e := Nat.two_pow_pos e
  have p1 : 2 ^ (e + 52) = 4503599627370496 * 2 ^ e := by rw [Nat.pow_add, Nat.mul_comm]
  have p2 : 2 ^ (e + 52 + 1) = 9007199254740992 * 2 ^ e := by rw [Nat.add_assoc, Nat.pow_add, Nat.mul_comm]
  rw [p1] at b1
  rw [p2] at b2
  obtain ⟨o1, o2⟩ := rhe_off n (2 ^ e) g0
  have m1 : 4503599627370496 ≤ rhe n (2 ^ e) := by
    have : 4503599627370496 ≤ n / 2 ^ e := (Nat.le_div_iff_mul_le g0).2 b1
    unfold rhe
    omega
  have m2 : rhe n (2 ^ e) ≤ 9007199254740992 := by
    have : n / 2 ^ e < 9007199254740992 := (Nat.div_lt_iff_lt_mul g0).2 b2
    unfold rhe
    split <;> omega
  have hv := val_at e _ m1 m2
  generalize rhe n (2 ^ e) = M at *
  have hlt : e * 4503599627370496 + M < 9218868437227405312 := by omega
  refine ⟨e * 4503599627370496 + M, by rw [Nat.min_eq_left (by omega)], hlt, ?_, ?_⟩
  · rw [hv]; omega
  · rw [hv]; omega
end Go.Proofs.YtilgifehilomgaaDoor.Flt
