/- Tenths, whole numbers and steps, plain. -/
import Derived.Test.YtngchoonfheckaaObX
import Derived.Test.YtngchoonfheckaaCn
import Derived.Test.YtngchoonfheckaaSameC
namespace Go.Proofs.Ytngchoonfheckaa.Flt
open Go.ChangeShapes Go.WideShapes Go.ChangeAt Go.RowKit

def inB (n l h : Int) : Bool := decide (l ≤ n) && decide (n ≤ h)
def nr (b : Nat) : Int × Bool := if rng b ≤ 4831355200913801216 then (near b, true) else (0, false)
theorem nr_abs (b : Nat) : (nr b).1.natAbs ≤ 1000000000000000 := by
  unfold nr
  by_cases h : rng b ≤ 4831355200913801216
  · rw [if_pos h]; have := near_in b h; dsimp only; omega
  · rw [if_neg h]; decide
theorem nr_nan {b : Nat} (h : nan b = true) : nr b = (0, false) := by
  unfold nan at h
  have h : 9218868437227405312 < rng b := by simpa using h
  unfold nr; rw [if_neg (by omega)]
theorem nr_cn (b : Nat) : nr (cn b) = nr b := by
  cases h : nan b
  · rw [cn_num h]
  · rw [cn_nan h, nr_nan h]; exact nr_nan nan_qn
def ten : Nat := 4621819117588971520
theorem ten_fi : ten = fi ((10 : Nat) : Int) := by decide +kernel
/-- The nearest whole number to ten times x. -/
def tt (x : Nat) : Int × Bool := nr (opF .mul (cn x) ten)
def dv (n : Int) : Nat := opF .quo (fi n) ten
theorem dv_run (n : Int) (h : n.natAbs ≤ 1000000000000000) : floatBits .quo .f64 (fi n) ten = some (dv n) := by
  obtain ⟨h1, _⟩ := fl_num n (by omega)
  have h1 : rng (fi n) < 9218868437227405312 := h1
  obtain ⟨r, e, _⟩ := div_some (fi n) ten (by omega) (by decide +kernel) (by decide +kernel)
  have e : floatBits .quo .f64 (fi n) ten = some r := e
  have : dv n = r := by unfold dv opF; rw [e]; rfl
  rw [this]; exact e
theorem dv_num (n : Int) (h : n.natAbs ≤ 1000000000000000) : nan (dv n) = false := (bits_num _ (dv_run n h)).1
theorem fi_nan (n : Int) (h : n.natAbs ≤ 1000000000000000) : nan (fi n) = false := by
  obtain ⟨h1, _⟩ := fl_num n (by omega)
  have h1 : rng (fi n) < 9218868437227405312 := h1
  exact decide_eq_false (by omega)
theorem same_comm (a b : Nat) : sameB a b = sameB b a := by
  unfold sameB
  cases nan a <;> cases nan b <;> simp <;> exact eq_comm
theorem same_eq {a b : Nat} (ha : nan b = false) (h : sameB a b = true) : a = b := by
  unfold sameB at h
  rw [ha] at h
  cases nan a <;> simp_all
theorem same_self (a : Nat) : sameB a a = true := by
  unfold sameB
  cases nan a <;> simp

def tn (x : Nat) (lo hi : Int) : Bool := (tt x).2 && (inB (tt x).1 lo hi && sameB x (dv (tt x).1))
def iz (x : Nat) (lo hi : Int) : Bool := (nr x).2 && (inB (nr x).1 lo hi && sameB x (fi (nr x).1))
/-- The steps in x, and whether they are whole. -/
def stp (x : Nat) (size : Int) : Int × Bool := ((tt x).1.tdiv size, (tt x).2 && sameB (dv ((tt x).1.tdiv size * size)) x)
def sw (x : Nat) (size lo hi : Int) : Bool := (stp x size).2 && inB (stp x size).1 lo hi

theorem sw_one (x : Nat) (lo hi : Int) : sw x 1 lo hi = tn x lo hi := by
  unfold sw stp tn
  dsimp only
  rw [Int.tdiv_one, Int.mul_one, same_comm]
  cases (tt x).2 <;> cases inB (tt x).1 lo hi <;> cases sameB x (dv (tt x).1) <;> rfl

/-- Whole steps of t tens of tenths: what a number is that has so many of them. -/
theorem fi_zero : fi ((0 : Nat) : Int) = 0 := by decide +kernel
theorem dv_fi (s t : Nat) (h : s * t * 10 ≤ 1000000000000000) (t1 : 1 ≤ t) : dv ((s * (t * 10) : Nat) : Int) = fi ((s * t : Nat) : Int) := by
  unfold dv opF
  rw [ten_fi]
  by_cases z : s = 0
  · subst z
    rw [Nat.zero_mul, Nat.zero_mul, fi_zero]
    decide +kernel
  · have e := div_exact (s * t) 10 (Nat.mul_pos (by omega) t1) (by omega) h
    have e : floatBits .quo .f64 (fi ((s * t * 10 : Nat) : Int)) (fi ((10 : Nat) : Int)) = some (fi ((s * t : Nat) : Int)) := e
    rw [show s * (t * 10) = s * t * 10 by rw [Nat.mul_assoc], e]
    rfl
theorem tt_fi (s t : Nat) (h : s * t * 10 ≤ 1000000000000000) (t1 : 1 ≤ t) : tt (fi ((s * t : Nat) : Int)) = (((s * (t * 10) : Nat) : Int), true) := by
  unfold tt
  rw [cn_num (fi_nan _ (by omega)), ten_fi]
  by_cases z : s = 0
  · subst z
    rw [Nat.zero_mul, Nat.zero_mul, fi_zero]
    decide +kernel
  · have e := mul_exact (s * t) 10 (Nat.mul_pos (by omega) t1) (by omega) h
    have e : floatBits .mul .f64 (fi ((s * t : Nat) : Int)) (fi ((10 : Nat) : Int)) = some (fi ((s * t * 10 : Nat) : Int)) := e
    have e2 : opF .mul (fi ((s * t : Nat) : Int)) (fi ((10 : Nat) : Int)) = fi ((s * t * 10 : Nat) : Int) := by unfold opF; rw [e]; rfl
    rw [e2, show s * (t * 10) = s * t * 10 by rw [Nat.mul_assoc]]
    obtain ⟨r, _, e3, _, _, _, g2⟩ := fi_rng (s * t * 10) (Nat.mul_pos (Nat.mul_pos (by omega) t1) (by omega)) h
    unfold nr
    rw [if_pos (by rw [e3]; exact g2), near_fi _ (by omega)]
theorem nr_fi (n : Nat) (h : n ≤ 1000000000000000) : nr (fi (n : Int)) = ((n : Int), true) := by
  by_cases z : n = 0
  · subst z; rw [fi_zero]; decide +kernel
  · obtain ⟨r, _, e3, _, _, _, g2⟩ := fi_rng n (by omega) h
    unfold nr
    rw [if_pos (by rw [e3]; exact g2), near_fi _ (by omega)]

/-- A number has whole steps just when it is one of so many of them. -/
theorem sw_is (x t hi : Nat) (t1 : 1 ≤ t) (h : hi * t * 10 ≤ 1000000000000) : sw x ((t * 10 : Nat) : Int) 0 (hi : Int) = true ↔ ∃ s : Nat, s ≤ hi ∧ x = fi ((s * t : Nat) : Int) := by
  constructor
  · intro e
    unfold sw stp at e
    simp only [Bool.and_eq_true] at e
    obtain ⟨⟨_, e1⟩, e2⟩ := e
    unfold inB at e2
    simp at e2
    obtain ⟨s, hs⟩ : ∃ s : Nat, (tt x).1.tdiv ((t * 10 : Nat) : Int) = (s : Int) := ⟨((tt x).1.tdiv ((t * 10 : Nat) : Int)).toNat, by simp; omega⟩
    have hs2 : s ≤ hi := by have := hs; simp at this; omega
    rw [hs] at e1
    have e3 : (s : Int) * ((t * 10 : Nat) : Int) = ((s * (t * 10) : Nat) : Int) := by simp
    have hb : s * t * 10 ≤ 1000000000000 := Nat.le_trans (Nat.mul_le_mul_right 10 (Nat.mul_le_mul_right t hs2)) h
    rw [e3, dv_fi s t (by omega) t1] at e1
    rw [same_comm] at e1
    exact ⟨s, hs2, same_eq (fi_nan _ (by omega)) e1⟩
  · rintro ⟨s, hs, rfl⟩
    have hb : s * t * 10 ≤ 1000000000000 := Nat.le_trans (Nat.mul_le_mul_right 10 (Nat.mul_le_mul_right t hs)) h
    unfold sw stp
    rw [tt_fi s t (by omega) t1]
    have hq : ((s * (t * 10) : Nat) : Int).tdiv ((t * 10 : Nat) : Int) = (s : Int) := by
      rw [show ((s * (t * 10) : Nat) : Int) = (s : Int) * ((t * 10 : Nat) : Int) by simp]
      exact Int.mul_tdiv_cancel _ (by omega)
    dsimp only
    rw [hq, show (s : Int) * ((t * 10 : Nat) : Int) = ((s * (t * 10) : Nat) : Int) by simp, dv_fi s t (by omega) t1, same_self]
    unfold inB
    simp
    omega
theorem iz_is (x hi : Nat) (h : hi ≤ 1000000000000) : iz x 0 (hi : Int) = true ↔ ∃ n : Nat, n ≤ hi ∧ x = fi (n : Int) := by
  constructor
  · intro e
    unfold iz at e
    simp only [Bool.and_eq_true] at e
    obtain ⟨_, e1, e2⟩ := e
    unfold inB at e1
    simp at e1
    obtain ⟨n, hn⟩ : ∃ n : Nat, (nr x).1 = (n : Int) := ⟨(nr x).1.toNat, by omega⟩
    rw [hn] at e1 e2
    exact ⟨n, by omega, same_eq (fi_nan _ (by omega)) e2⟩
  · rintro ⟨n, hn, rfl⟩
    unfold iz
    rw [nr_fi n (by omega)]
    dsimp only
    rw [same_self]
    unfold inB
    simp
    omega
end Go.Proofs.Ytngchoonfheckaa.Flt
