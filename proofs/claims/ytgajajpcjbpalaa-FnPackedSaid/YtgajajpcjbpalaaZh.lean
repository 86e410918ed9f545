/- What is packed is unpacked, and packed again, plain. -/
import Derived.Test.YtgajajpcjbpalaaZv
import Derived.Test.YtgajajpcjbpalaaXoZ
import Derived.Test.YtgajajpcjbpalaaYq
namespace Go.Proofs.Ytgajajpcjbpalaa.Pkd
open Go.ChangeShapes Go.WideShapes Go.ChangeAt Go.RowKit
open Go.Proofs.Ytgajajpcjbpalaa.Lists Go.Proofs.Ytgajajpcjbpalaa.Flt Go.Proofs.Ytgajajpcjbpalaa.Fls


theorem xor_self (a b : Bool) : ((a ^^ b) ^^ b) = a := by cases a <;> cases b <;> rfl
theorem near_word (s : Bool) (n r : Nat) (hr : r < 9218868437227405312) (hv : val r = n * U) : near (Ieee.double.word s r) = sg s n := by
  obtain ⟨s1, s2, _⟩ := sgn_word s r (by omega)
  unfold near
  rw [s1, s2, hv, rhe_mul _ _ U_pos]
theorem fin_nan (x : Nat) (h : rng x < 9218868437227405312) : nan x = false := decide_eq_false (by omega)

/-- A whole number that was scaled back has that whole number nearest to it again. -/
theorem back_nn (dec z : Int) (h1 : -3 ≤ dec) (h2 : dec ≤ 6) (hz : z.natAbs ≤ 6000000000000) : nan (vl dec z) = false ∧ kb dec (vl dec z) = true ∧ nn dec (vl dec z) = z := by
  by_cases c : dec < 0
  · obtain ⟨p, rfl⟩ : ∃ p : Nat, dec = -(p : Int) := ⟨(-dec).toNat, by omega⟩
    have hp : p ≤ 3 := by omega
    obtain ⟨t, t1, t2, vt, st, rt⟩ : ∃ t, 1 ≤ t ∧ t ≤ 1000 ∧ val (rng (tenF p)) = t * U ∧ sgn (tenF p) = false ∧ rng (tenF p) < 9218868437227405312 := by
      obtain ⟨a, b, d⟩ := Fq.ten_val p (by omega)
      refine ⟨10 ^ p, ?_, ?_, a, b, d⟩
      · rcases (by omega : p = 0 ∨ p = 1 ∨ p = 2 ∨ p = 3) with rfl | rfl | rfl | rfl <;> decide
      · rcases (by omega : p = 0 ∨ p = 1 ∨ p = 2 ∨ p = 3) with rfl | rfl | rfl | rfl <;> decide
    have ev : vl (-(p : Int)) z = opF .mul (fi z) (tenF p) := by unfold vl; rw [if_pos c, Int.neg_neg, Int.toNat_natCast]
    have es : ∀ x, sc (-(p : Int)) x = opF .quo x (tenF p) := fun x => by unfold sc; rw [if_pos c, Int.neg_neg, Int.toNat_natCast]
    obtain ⟨s, r, e0, e1, e2, e3, e4⟩ := fi_form z (by omega)
    by_cases h0 : z = 0
    · subst h0
      have key : ∀ q : Fin 4, nan (opF .mul (fi 0) (tenF q.val)) = false ∧ rng (opF .quo (opF .mul (fi 0) (tenF q.val)) (tenF q.val)) ≤ 4831355200913801216 ∧ near (opF .quo (opF .mul (fi 0) (tenF q.val)) (tenF q.val)) = 0 := by
        have f0 : fi 0 = 0 := by decide +kernel
        rw [f0]
        intro q
        rcases (by omega : q.val = 0 ∨ q.val = 1 ∨ q.val = 2 ∨ q.val = 3) with h | h | h | h <;> rw [h] <;> decide +kernel
      obtain ⟨k1, k2, k3⟩ := key ⟨p, by omega⟩
      simp only at k1 k2 k3
      unfold nn kb
      rw [es, ev]
      exact ⟨k1, decide_eq_true k2, by rw [if_pos (decide_eq_true k2)]; exact k3⟩
    · have n1 : 1 ≤ z.natAbs := by omega
      have nt : z.natAbs * t ≤ 9007199254740991 := Nat.le_trans (Nat.mul_le_mul hz t2) (by decide)
      obtain ⟨r1, m1, m2, m3⟩ := Fq.mul_ex (fi z) (tenF p) z.natAbs t (by rw [e2]; exact e3) vt n1 t1 nt
      have em : opF .mul (fi z) (tenF p) = Ieee.double.word (sgn (fi z) ^^ sgn (tenF p)) r1 := by
        show (Ieee.double.mul (fi z) (tenF p)).getD qn = _
        rw [m1]; rfl
      obtain ⟨q1, q2, q3⟩ := sgn_word (sgn (fi z) ^^ sgn (tenF p)) r1 (by omega)
      obtain ⟨r2, d1, d2, d3⟩ := Fq.div_ex (Ieee.double.word (sgn (fi z) ^^ sgn (tenF p)) r1) (tenF p) z.natAbs t (by rw [q2]; exact m2) vt n1 t1 nt
      have ed : opF .quo (opF .mul (fi z) (tenF p)) (tenF p) = Ieee.double.word s r2 := by
        rw [em]
        show (Ieee.double.div _ (tenF p)).getD qn = _
        rw [d1, q1, xor_self, e1]; rfl
      have hb : rng (Ieee.double.word s r2) ≤ 4831355200913801216 := by
        obtain ⟨_, g, _⟩ := sgn_word s r2 (by omega)
        rw [g]
        exact (Fq.rng_of r2 z.natAbs d2 n1 (by omega)).2
      have hs : sg s z.natAbs = z := by
        have e : s = decide (z < 0) := by
          have := e1
          rw [← this]
          obtain ⟨ra, w1, _, w3⟩ := whole (decide (z < 0)) z.natAbs (by omega)
          have : fi z = Ieee.double.word (decide (z < 0)) ra := w1
          rw [this]
          exact (sgn_word _ ra (by omega)).1
        rw [e]
        unfold sg
        by_cases hz0 : z < 0
        · rw [if_pos (decide_eq_true hz0)]; omega
        · rw [if_neg (by simpa using hz0)]; omega
      unfold nn kb
      rw [es, ev, ed]
      refine ⟨by rw [em]; exact fin_nan _ (by rw [q2]; omega), decide_eq_true hb, ?_⟩
      rw [if_pos (decide_eq_true hb), near_word s z.natAbs r2 (by omega) d2, hs]
  · obtain ⟨p, rfl⟩ : ∃ p : Nat, dec = (p : Int) := ⟨dec.toNat, by omega⟩
    have ev : vl (p : Int) z = opF .quo (fi z) (tenF p) := by unfold vl; rw [if_neg c, Int.toNat_natCast]
    have es : ∀ x, sc (p : Int) x = opF .mul x (tenF p) := fun x => by unfold sc; rw [if_neg c, Int.toNat_natCast]
    obtain ⟨q, m, b1, b2, b3, b4, b5⟩ := Fq.back z p (by omega) (by omega)
    have eq : opF .quo (fi z) (tenF p) = q := by
      show (Ieee.double.div (floatOfInt .f64 z) (tenF p)).getD qn = _
      rw [b1]; rfl
    have em : opF .mul q (tenF p) = m := by
      show (Ieee.double.mul q (tenF p)).getD qn = _
      rw [b2]; rfl
    unfold nn kb
    rw [es, ev, eq, em]
    exact ⟨fin_nan _ b3, decide_eq_true b4, by rw [if_pos (decide_eq_true b4)]; exact b5⟩

/-- What a code stands for is at most half of its place away from what it was made of. -/
theorem cod_off (a : Int) (e : Nat) (he : e ≤ 42) : 2 * (a - cod a e * 2 ^ e).natAbs ≤ 2 ^ e := by
  obtain ⟨p0, p1⟩ := pow42 e he
  unfold cod
  have k1 := Int.emod_add_mul_ediv (a + 2 ^ e / 2) (2 ^ e)
  have k2 := Int.emod_nonneg (a + 2 ^ e / 2) (show (2 : Int) ^ e ≠ 0 by omega)
  have k3 := Int.emod_lt_of_pos (a + 2 ^ e / 2) (show (0 : Int) < 2 ^ e by omega)
  have hn : (2 : Nat) ^ e = ((2 : Int) ^ e).toNat := by
    have : ((2 ^ e : Nat) : Int) = (2 : Int) ^ e := by push_cast; rfl
    omega
  rw [hn]
  generalize (2 : Int) ^ e = P at *
  rw [Int.mul_comm P] at k1
  generalize (a + P / 2) / P * P = Q at *
  generalize (a + P / 2) % P = R at *
  omega
theorem cod_of (c : Int) (e d : Nat) (hd : d ≤ e) (_hc : 0 ≤ c) : cod (c * 2 ^ e) d = c * 2 ^ (e - d) := by
  unfold cod
  have p0 : (0 : Int) < 2 ^ d := Int.pow_pos (by decide)
  have e1 : (2 : Int) ^ e = 2 ^ (e - d) * 2 ^ d := by rw [← Int.pow_add]; congr 1; omega
  rw [e1, ← Int.mul_assoc, Int.add_comm, Int.add_mul_ediv_right _ _ (by omega)]
  have : (2 : Int) ^ d / 2 / 2 ^ d = 0 := Int.ediv_eq_zero_of_lt (by omega) (by omega)
  rw [this, Int.zero_add]
theorem cod_mono (a b : Int) (e : Nat) (h : a ≤ b) : cod a e ≤ cod b e := by
  unfold cod
  have p0 : (0 : Int) < 2 ^ e := Int.pow_pos (by decide)
  exact Int.ediv_le_ediv p0 (by omega)
theorem cod_zero (e : Nat) : cod 0 e = 0 := by
  unfold cod
  have p0 : (0 : Int) < 2 ^ e := Int.pow_pos (by decide)
  rw [Int.zero_add]
  exact Int.ediv_eq_zero_of_lt (by omega) (by omega)

/-- What is packed of what a Packed stands for is the Packed. -/
theorem pk_again (W cd : List Int) (b r : Int) (e : Nat) (b1 : 1 ≤ b) (h : IsPk W b r e cd) : IsPk (cd.map (wh r e)) b r e cd := by
  rcases h with ⟨h0, h1, h2, h3⟩ | ⟨M, h1, h2, h3, h4⟩
  · exact .inl ⟨by rw [h3]; rfl, h1, h2, h3⟩
  · have p0 : (0 : Int) < 2 ^ e := Int.pow_pos (by decide)
    have hrM : r ≤ M := h1.2 M h2.1
    have c0 : 0 ≤ cod (M - r) e := by rw [← cod_zero e]; exact cod_mono _ _ e (by omega)
    have em : cd.map (wh r e) = W.map fun n => r + cod (n - r) e * 2 ^ e := by rw [h4, List.map_map]; rfl
    refine .inr ⟨r + cod (M - r) e * 2 ^ e, ⟨?_, ?_⟩, ⟨?_, ?_⟩, ?_, ?_⟩
    · rw [em]
      exact List.mem_map.2 ⟨r, h1.1, by rw [Int.sub_self, cod_zero]; omega⟩
    · rw [em]
      intro x hx
      obtain ⟨n, hn, rfl⟩ := List.mem_map.1 hx
      have : 0 ≤ cod (n - r) e := by rw [← cod_zero e]; exact cod_mono _ _ e (by have := h1.2 n hn; omega)
      have := Int.mul_nonneg this (Int.le_of_lt p0)
      omega
    · rw [em]
      exact List.mem_map.2 ⟨M, h2.1, rfl⟩
    · rw [em]
      intro x hx
      obtain ⟨n, hn, rfl⟩ := List.mem_map.1 hx
      have := Int.mul_le_mul_of_nonneg_right (cod_mono (n - r) (M - r) e (by have := h2.2 n hn; omega)) (Int.le_of_lt p0)
      omega
    · have ex : r + cod (M - r) e * 2 ^ e - r = cod (M - r) e * 2 ^ e := by omega
      rw [ex]
      refine ⟨by rw [cod_of _ e e (Nat.le_refl _) c0, Nat.sub_self, Int.pow_zero, Int.mul_one]; exact h3.1, fun d hd => ?_⟩
      rw [cod_of _ e d (by omega) c0]
      have hq := h3.2 (e - 1) (by omega)
      obtain ⟨f, rfl⟩ : ∃ f, e = f + 1 := ⟨e - 1, by omega⟩
      rw [Nat.add_sub_cancel] at hq
      have hb : (2 : Int) ^ b.toNat ≤ 2 * cod (M - r) (f + 1) := by
        obtain ⟨g, hg⟩ : ∃ g, b.toNat = g + 1 := ⟨b.toNat - 1, by omega⟩
        rw [hg] at hq ⊢
        unfold cod at *
        have pf : (0 : Int) < 2 ^ f := Int.pow_pos (by decide)
        have pe : (2 : Int) ^ (f + 1) = 2 * 2 ^ f := by rw [Int.pow_succ]; omega
        have pg : (2 : Int) ^ (g + 1) = 2 * 2 ^ g := by rw [Int.pow_succ]; omega
        rw [pg] at hq ⊢
        rw [pe]
        have hq2 : 2 * (2 : Int) ^ g * 2 ^ f ≤ M - r + 2 ^ f / 2 := Int.mul_le_of_le_ediv pf hq
        have : (2 : Int) ^ g ≤ (M - r + 2 * 2 ^ f / 2) / (2 * 2 ^ f) := by
          refine Int.le_ediv_of_mul_le (by omega) ?_
          have e3 : (2 : Int) ^ g * (2 * 2 ^ f) = 2 * 2 ^ g * 2 ^ f := by rw [← Int.mul_assoc, Int.mul_comm (2 ^ g) 2]
          rw [e3]
          omega
        omega
      have hp : (2 : Int) ≤ 2 ^ (f + 1 - d) := by
        obtain ⟨g, hg⟩ : ∃ g, f + 1 - d = g + 1 := ⟨f - d, by omega⟩
        rw [hg, Int.pow_succ]
        have : (0 : Int) < 2 ^ g := Int.pow_pos (by decide)
        omega
      have := Int.mul_le_mul_of_nonneg_left hp c0
      omega
    · rw [em, List.map_map, h4]
      refine List.map_congr_left fun n hn => ?_
      show cod (n - r) e = cod (r + cod (n - r) e * 2 ^ e - r) e
      have c1 : 0 ≤ cod (n - r) e := by rw [← cod_zero e]; exact cod_mono _ _ e (by have := h1.2 n hn; omega)
      have ex : r + cod (n - r) e * 2 ^ e - r = cod (n - r) e * 2 ^ e := by omega
      rw [ex, cod_of _ e e (Nat.le_refl _) c1, Nat.sub_self, Int.pow_zero, Int.mul_one]

end Go.Proofs.Ytgajajpcjbpalaa.Pkd
