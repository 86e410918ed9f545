/- Whole numbers come back; sums stay known numbers; a real row's sums from both ends. -/
import Derived.Test.YtgnnmepjdmcecaaWm
namespace Go.Proofs.Ytgnnmepjdmcecaa.Flt
open Ieee
open Go.Proofs.Ytgnnmepjdmcecaa.Wv

theorem bits_of {x y : Nat} (hx : x < 18446744073709551616) (hy : y < 18446744073709551616) (h : Flt.key x = Flt.key y) (h0 : Flt.key x ≠ 0) : x = y := by
  unfold Flt.key Flt.sg sgn rng at h h0
  by_cases a : x / 9223372036854775808 % 2 = 1 <;> by_cases b : y / 9223372036854775808 % 2 = 1 <;> simp [a, b] at h h0 <;> omega
theorem zero_bits {x : Nat} (hx : x < 18446744073709551616) (h : Flt.key x = 0) : x = 0 ∨ x = 9223372036854775808 := by
  unfold Flt.key Flt.sg sgn rng at h
  by_cases a : x / 9223372036854775808 % 2 = 1 <;> simp [a] at h <;> omega
def QuoOk (n : Nat) (a : Int) : Bool := decide (Flt.key (opF .quo (floatOfInt .f64 ((n : Int) * a)) (floatOfInt .f64 (n : Int))) = Flt.key (floatOfInt .f64 a))
theorem quo1 : ∀ a : Fin 1999, QuoOk 1 ((a.val : Int) - 999) = true := by decide +kernel
theorem quo2 : ∀ a : Fin 1999, QuoOk 2 ((a.val : Int) - 999) = true := by decide +kernel
theorem quo4 : ∀ a : Fin 1999, QuoOk 4 ((a.val : Int) - 999) = true := by decide +kernel
theorem quoz : ∀ n : Fin 5, 1 ≤ n.val → Flt.key (opF .quo 9223372036854775808 (floatOfInt .f64 (n.val : Int))) = 0 ∧ Flt.key (opF .quo 0 (floatOfInt .f64 (n.val : Int))) = 0 := by decide +kernel
theorem quo_any (n : Nat) (hn : n = 1 ∨ n = 2 ∨ n = 4) (a : Int) (ha : a.natAbs < 1000) : Flt.key (opF .quo (floatOfInt .f64 ((n : Int) * a)) (floatOfInt .f64 (n : Int))) = Flt.key (floatOfInt .f64 a) := by
  have e : (((a + 999).toNat : Nat) : Int) - 999 = a := by rw [Int.toNat_of_nonneg (by omega)]; omega
  rcases hn with rfl | rfl | rfl
  · have := quo1 ⟨(a + 999).toNat, by omega⟩
    simp only [e] at this
    unfold QuoOk at this
    exact of_decide_eq_true this
  · have := quo2 ⟨(a + 999).toNat, by omega⟩
    simp only [e] at this
    unfold QuoOk at this
    exact of_decide_eq_true this
  · have := quo4 ⟨(a + 999).toNat, by omega⟩
    simp only [e] at this
    unfold QuoOk at this
    exact of_decide_eq_true this
theorem Wn.quo {x : Nat} {a : Int} (n : Nat) (hn : n = 1 ∨ n = 2 ∨ n = 4) (ha : a.natAbs < 1000) (h : Wn x ((n : Int) * a)) (hx : x < 18446744073709551616) : Flt.key (opF .quo x (Flt.cn (floatOfInt .f64 (n : Int)))) = Flt.key (floatOfInt .f64 a) ∧ rng (opF .quo x (Flt.cn (floatOfInt .f64 (n : Int)))) < 9218868437227405312 := by
  have fn := Wn.fl (n : Int) (by omega)
  rw [fn.cn]
  have fa := Wn.fl a (by omega)
  have key : Flt.key (opF .quo x (floatOfInt .f64 (n : Int))) = Flt.key (floatOfInt .f64 a) := by
    by_cases h0 : a = 0
    · subst h0
      have z := quoz ⟨n, by omega⟩ (by show 1 ≤ n; omega)
      have k0 : Flt.key x = 0 := key_zero_of (by simpa using h)
      have e0 : Flt.key (floatOfInt .f64 (0 : Int)) = 0 := key_zero_of fa
      rw [e0]
      rcases zero_bits hx k0 with rfl | rfl
      · exact z.2
      · exact z.1
    · have hb : ((n : Int) * a).natAbs < 9007199254740992 := by rcases hn with rfl | rfl | rfl <;> omega
      have f := Wn.fl ((n : Int) * a) hb
      have e : Flt.key x = Flt.key (floatOfInt .f64 ((n : Int) * a)) := by rw [h.key, f.key]
      have ne : Flt.key x ≠ 0 := fun z => by
        have h1 := h.2
        have h2 : num x = num 0 := num_key (by rw [z]; rfl)
        rw [h1] at h2
        have h3 : num 0 = 0 := rfl
        rw [h3] at h2
        have hU : (U : Int) ≠ 0 := by have := U_pos; omega
        rcases Int.mul_eq_zero.1 h2 with h4 | h4
        · rcases Int.mul_eq_zero.1 h4 with h5 | h5 <;> omega
        · exact hU h4
      rw [bits_of hx (fl_num _ hb).2.2 e ne]
      exact quo_any n hn a ha
  exact ⟨key, rng_of key fa.1⟩

/-- what comes back, in whole numbers -/
theorem back1 (A B : Nat → Int) : (zs (fun i => (zs A B (-4) i 1).1) (fun i => (zs A B (-4) i 1).2) 4 0 1) = (A 0, B 0) := by
  simp [zs, qs]
theorem back2 (A B : Nat → Int) (k : Nat) (hk : k < 2) : (zs (fun i => (zs A B (-2) i 2).1) (fun i => (zs A B (-2) i 2).2) 2 k 2) = (2 * A k, 2 * B k) := by
  have : k = 0 ∨ k = 1 := by omega
  rcases this with rfl | rfl <;> simp [zs, qs] <;> constructor <;> omega
theorem back4 (A B : Nat → Int) (k : Nat) (hk : k < 4) : (zs (fun i => (zs A B (-1) i 4).1) (fun i => (zs A B (-1) i 4).2) 1 k 4) = (4 * A k, 4 * B k) := by
  have : k = 0 ∨ k = 1 ∨ k = 2 ∨ k = 3 := by omega
  rcases this with rfl | rfl | rfl | rfl <;> simp [zs, qs] <;> constructor <;> omega
end Go.Proofs.Ytgnnmepjdmcecaa.Flt
