/- The conjugate of a product, plainly. -/
import Derived.Test.YthdhjinmjneenaaPd
import Derived.Test.YthdhjinmjneenaaNg
namespace Go.Proofs.Ythdhjinmjneenaa.Flt
open Go.ChangeShapes Go.WideShapes Go.ChangeAt Go.RowKit
open Go.Proofs.Ythdhjinmjneenaa.Wa

theorem kn_iff (x : Nat) : kn x = true ↔ rng x < 9218868437227405312 := by unfold kn; simp
theorem kn_cn {x : Nat} (h : kn x = true) : cn x = x := cn_num (by unfold nan; rw [kn_iff] at h; simpa using Nat.le_of_lt h)
theorem num_of {x : Nat} (h : rng x < 9218868437227405312) : nan x = false := by unfold nan; simp; omega
/-- A number known by its plain form is that number. -/
theorem is_of {x v : Nat} (h : cn x = v) (hv : rng v < 9218868437227405312) : x = v := by
  cases hx : nan x
  · rw [cn_num hx] at h; exact h
  · rw [cn_nan hx] at h
    exact absurd (h ▸ hv) rng_qn
theorem eq_ord {x y : Nat} (hx : rng x ≤ 9218868437227405312) (hy : rng y ≤ 9218868437227405312) (h : key x = key y) : (ord x y == some .eq) = true := by
  show (Ieee.double.order x y == some .eq) = true
  rw [order_key x y hx hy, c_eq h]; rfl
theorem mre_comm (a b c d : Nat) : mre a b c d = mre c d a b := by unfold mre; rw [mul_comm a c, mul_comm b d]
theorem mim_comm (a b c d : Nat) : mim a b c d = mim c d a b := by unfold mim; rw [add_comm, mul_comm a d, mul_comm b c]
/-- conj of the product against the product of the conjs -/
theorem conj_mul (a b c d : Nat) (ha : rng a < 9218868437227405312) (hb : rng b < 9218868437227405312) (hc : rng c < 9218868437227405312) (hd : rng d < 9218868437227405312) (h1 : rng (mre a b c d) < 9218868437227405312) (h2 : rng (mim a b c d) < 9218868437227405312) :
    rng (mre a (opF .sub 0 b) c (opF .sub 0 d)) < 9218868437227405312 ∧ rng (mim a (opF .sub 0 b) c (opF .sub 0 d)) < 9218868437227405312 ∧ key (mre a (opF .sub 0 b) c (opF .sub 0 d)) = key (mre a b c d) ∧ key (mim a (opF .sub 0 b) c (opF .sub 0 d)) = key (opF .sub 0 (mim a b c d)) := by
  have nb := neg_key b hb
  have nd := neg_key d hd
  have hb' : rng (opF .sub 0 b) < 9218868437227405312 := by rw [nb.2.1]; exact hb
  have hd' : rng (opF .sub 0 d) < 9218868437227405312 := by rw [nd.2.1]; exact hd
  unfold mre at *
  unfold mim at *
  have f1 := sub_fin _ _ h1
  have f2 := add_fin _ _ h2
  -- b d
  have q1 := mul_neg1 b d (opF .sub 0 d) hb hd nd.1 nd.2.1
  have q2 : key (opF .mul (opF .sub 0 b) (opF .sub 0 d)) = - key (opF .mul b (opF .sub 0 d)) ∧ rng (opF .mul (opF .sub 0 b) (opF .sub 0 d)) = rng (opF .mul b (opF .sub 0 d)) := by
    have := mul_neg1 (opF .sub 0 d) b (opF .sub 0 b) hd' hb nb.1 nb.2.1
    rw [mul_comm (opF .sub 0 b) (opF .sub 0 d), mul_comm b (opF .sub 0 d)]
    exact this
  have kv : key (opF .mul (opF .sub 0 b) (opF .sub 0 d)) = key (opF .mul b d) := by rw [q2.1, q1.1]; omega
  have rv : rng (opF .mul (opF .sub 0 b) (opF .sub 0 d)) = rng (opF .mul b d) := by rw [q2.2, q1.2]
  -- a d, b c
  have q3 := mul_neg1 a d (opF .sub 0 d) ha hd nd.1 nd.2.1
  have q4 : key (opF .mul (opF .sub 0 b) c) = - key (opF .mul b c) ∧ rng (opF .mul (opF .sub 0 b) c) = rng (opF .mul b c) := by
    have := mul_neg1 c b (opF .sub 0 b) hc hb nb.1 nb.2.1
    rw [mul_comm (opF .sub 0 b) c, mul_comm b c]
    exact this
  have s1 := sub_key (opF .mul a c) (opF .mul b d) f1.1 f1.2
  have s2 := sub_key (opF .mul a c) (opF .mul (opF .sub 0 b) (opF .sub 0 d)) f1.1 (by rw [rv]; exact f1.2)
  rw [num_key kv] at s2
  have a1 := add_key (opF .mul a d) (opF .mul b c) f2.1 f2.2
  have a2 := add_key (opF .mul a (opF .sub 0 d)) (opF .mul (opF .sub 0 b) c) (by rw [q3.2]; exact f2.1) (by rw [q4.2]; exact f2.2)
  have en : num (opF .mul a (opF .sub 0 d)) + num (opF .mul (opF .sub 0 b) c) = -(num (opF .mul a d) + num (opF .mul b c)) := by
    rw [num_neg q3.1, num_neg q4.1]; omega
  rw [en, Am_neg] at a2
  have kr : key (opF .sub (opF .mul a c) (opF .mul (opF .sub 0 b) (opF .sub 0 d))) = key (opF .sub (opF .mul a c) (opF .mul b d)) := by rw [s1.1, s2.1]
  have ki : key (opF .add (opF .mul a (opF .sub 0 d)) (opF .mul (opF .sub 0 b) c)) = - key (opF .add (opF .mul a d) (opF .mul b c)) := by rw [a1.1, a2.1]
  have rk : ∀ x y, key x = key y → rng x = rng y := fun x y h => by
    unfold key at h
    cases hx : sgn x <;> cases hy : sgn y <;> rw [hx, hy] at h <;> simp [sg] at h <;> omega
  have rkn : ∀ x y, key x = - key y → rng x = rng y := fun x y h => by
    unfold key at h
    cases hx : sgn x <;> cases hy : sgn y <;> rw [hx, hy] at h <;> simp [sg] at h <;> omega
  refine ⟨by rw [rk _ _ kr]; exact h1, by rw [rkn _ _ ki]; exact h2, kr, ?_⟩
  rw [ki, (neg_key _ h2).1]
end Go.Proofs.Ythdhjinmjneenaa.Flt
