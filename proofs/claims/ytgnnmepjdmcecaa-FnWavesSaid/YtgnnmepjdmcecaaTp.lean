/- Heights nine hours later: told of turned parts they are as they are told then, plainly. -/
import Derived.Test.YtgnnmepjdmcecaaFin
import Derived.Test.YtgnnmepjdmcecaaSin
namespace Go.Proofs.Ytgnnmepjdmcecaa.Flt
open Ieee
/-- what a magnitude's key counts -/
def NV (k : Int) : Int := if k < 0 then -(val k.natAbs : Int) else val k.natAbs
theorem NV_key (x : Nat) : num x = NV (key x) := by
  unfold num NV key
  cases sgn x
  · have : ¬ (sg false (rng x) < 0) := by simp [sg]
    rw [if_neg this]; simp [sg]
  · by_cases h : rng x = 0
    · rw [h]; simp [sg, val_zero]
    · have : sg true (rng x) < 0 := by simp [sg]; omega
      rw [if_pos this]; simp [sg]
theorem NV_zero : NV 0 = 0 := by unfold NV; simp [val_zero]
theorem NV_neg (k : Int) : NV (-k) = - NV k := by
  unfold NV
  rw [Int.natAbs_neg]
  by_cases h : k < 0
  · rw [if_pos h, if_neg (by omega)]; simp
  · by_cases h0 : k = 0
    · subst h0; simp [val_zero]
    · rw [if_neg h, if_pos (by omega)]
/-- a product by its keys -/
def MK (a b : Int) : Int := if (decide (a < 0) ^^ decide (b < 0)) = true then -(Hm a.natAbs b.natAbs : Int) else Hm a.natAbs b.natAbs
theorem MK_zero (a : Int) : MK a 0 = 0 := by unfold MK; rw [show (0 : Int).natAbs = 0 from rfl, Hm_zero _ _ (Or.inr rfl)]; simp
theorem zero_MK (a : Int) : MK 0 a = 0 := by unfold MK; rw [show (0 : Int).natAbs = 0 from rfl, Hm_zero _ _ (Or.inl rfl)]; simp
theorem MK_neg (a b : Int) : MK a (-b) = - MK a b := by
  by_cases h : b = 0
  · subst h; simp [MK_zero]
  · unfold MK
    rw [Int.natAbs_neg]
    have e : decide (-b < 0) = !decide (b < 0) := by by_cases x : b < 0 <;> simp [x] <;> omega
    rw [e]
    cases decide (a < 0) <;> cases decide (b < 0) <;> simp
theorem neg_MK (a b : Int) : MK (-a) b = - MK a b := by
  by_cases h : a = 0
  · subst h; simp [zero_MK]
  · unfold MK
    rw [Int.natAbs_neg]
    have e : decide (-a < 0) = !decide (a < 0) := by by_cases x : a < 0 <;> simp [x] <;> omega
    rw [e]
    cases decide (a < 0) <;> cases decide (b < 0) <;> simp
theorem key_abs (x : Nat) : (key x).natAbs = rng x := sg_abs _ _
theorem mulK (x y : Nat) (hx : rng x < 9218868437227405312) (hy : rng y < 9218868437227405312) : key (opF .mul x y) = MK (key x) (key y) := by
  rw [(mul_key x y hx hy).1]
  unfold MK
  rw [key_abs, key_abs]
  by_cases h : rng x = 0
  · rw [Hm_zero _ _ (Or.inl h)]; cases (sgn x ^^ sgn y) <;> simp [sg]
  by_cases h2 : rng y = 0
  · rw [Hm_zero _ _ (Or.inr h2)]; cases (sgn x ^^ sgn y) <;> simp [sg]
  have e1 : decide (key x < 0) = sgn x := by unfold key; cases sgn x <;> simp [sg] <;> omega
  have e2 : decide (key y < 0) = sgn y := by unfold key; cases sgn y <;> simp [sg] <;> omega
  rw [e1, e2]
  cases (sgn x ^^ sgn y) <;> simp [sg]
/-- the key of 1 -/
def U1 : Int := 4607182418800017408
theorem Hm_one (r : Nat) (h : r < 9218868437227405312) : Hm r 4607182418800017408 = r := by
  unfold Hm
  have e1 : mg 4607182418800017408 = 2 ^ 52 := by decide
  have e2 : pl 4607182418800017408 = -52 := by decide
  rw [e1, e2, near_scale]
  have e3 : pl r + -52 + ((52 : Nat) : Int) = pl r := by omega
  rw [e3]
  have hv : ∃ a : Nat, pl r = -1074 + (a : Int) ∧ mg r * 2 ^ a = val r := by
    unfold pl mg val
    by_cases c : r < 4503599627370496
    · exact ⟨0, by rw [if_pos c]; simp, by rw [if_pos c, if_pos c]; simp⟩
    · exact ⟨r / 4503599627370496 - 1, by rw [if_neg c], by rw [if_neg c, if_neg c]⟩
  obtain ⟨a, ha, hb⟩ := hv
  rw [ha, near_G, hb, G_val r h]
  exact (sgn_word false r (by omega)).2.1
theorem MK_one (k : Int) (h : k.natAbs < 9218868437227405312) : MK k U1 = k := by
  unfold MK U1
  rw [show (4607182418800017408 : Int).natAbs = 4607182418800017408 from rfl, Hm_one _ h]
  by_cases c : k < 0
  · simp [c]; omega
  · simp [c]; omega
def TR (A B C S : Int) : Int := Am (NV (MK A C) - NV (MK B S))
def TI (A B C S : Int) : Int := Am (NV (MK A S) + NV (MK B C))
theorem Am_NV {x : Nat} (h : rng x < 9218868437227405312) : Am (NV (key x)) = key x := by rw [← NV_key]; exact Am_num x h
/-- the four quarters -/
structure Q4 (q : Int) (C9 S9 : Int) : Prop where
  is : (q = 0 ∧ C9 = U1 ∧ S9 = 0) ∨ (q = 1 ∧ C9 = 0 ∧ S9 = U1) ∨ (q = 2 ∧ C9 = -U1 ∧ S9 = 0) ∨ (q = 3 ∧ C9 = 0 ∧ S9 = -U1)
def ks (k : Int) : Int := key (sine (k % 36))
theorem quarter (q : Int) (h0 : 0 ≤ q) (h1 : q < 4) : Q4 q (ks (9 * q + 9)) (ks (9 * q)) := by
  have : q = 0 ∨ q = 1 ∨ q = 2 ∨ q = 3 := by omega
  rcases this with rfl | rfl | rfl | rfl
  · exact ⟨Or.inl (by decide +kernel)⟩
  · exact ⟨Or.inr (Or.inl (by decide +kernel))⟩
  · exact ⟨Or.inr (Or.inr (Or.inl (by decide +kernel)))⟩
  · exact ⟨Or.inr (Or.inr (Or.inr (by decide +kernel)))⟩
theorem half (k : Int) (h0 : 0 ≤ k) (h1 : k < 36) : ks (k + 18) = - ks k := by
  have : ∀ k : Fin 36, ks ((k.val : Int) + 18) = - ks (k.val : Int) := by decide +kernel
  have q := this ⟨k.toNat, by omega⟩
  simpa [Int.toNat_of_nonneg h0] using q
theorem ks_eq {a b : Int} (h : a = b) : ks a = ks b := by rw [h]
theorem ks_mod (k : Int) : ks (k % 36) = ks k := by unfold ks; rw [Int.emod_emod_of_dvd _ (by decide)]
theorem ks_add (k j : Int) : ks (k % 36 + j) = ks (k + j) := by
  unfold ks
  congr 2
  omega
theorem half_all (k : Int) : ks (k + 18) = - ks k := by
  have := half (k % 36) (by omega) (by omega)
  rw [ks_add, ks_mod] at this
  exact this
theorem ks_36 (k j : Int) : ks (k + 36 * j) = ks k := by unfold ks; congr 2; omega
/-- turned by nine hours, then told: as it is told nine hours later -/
theorem turned9 (A B : Int) (hA : A.natAbs < 9218868437227405312) (hB : B.natAbs < 9218868437227405312) (aA : Am (NV A) = A) (aB : Am (NV B) = B) (c k : Int) :
    TR (TR A B (ks (9 * c + 9)) (ks (9 * c))) (TI A B (ks (9 * c + 9)) (ks (9 * c))) (ks (k + 9)) (ks k) = TR A B (ks (k + 9 * c + 9)) (ks (k + 9 * c)) := by
  obtain ⟨q, j, hc, hq0, hq1⟩ : ∃ q j : Int, c = q + 4 * j ∧ 0 ≤ q ∧ q < 4 := ⟨c % 4, c / 4, by omega, by omega, by omega⟩
  have e1 : ks (9 * c + 9) = ks (9 * q + 9) := by rw [← ks_36 (9 * q + 9) j]; exact ks_eq (by omega)
  have e2 : ks (9 * c) = ks (9 * q) := by rw [← ks_36 (9 * q) j]; exact ks_eq (by omega)
  have e3 : ks (k + 9 * c + 9) = ks (k + 9 * q + 9) := by rw [← ks_36 (k + 9 * q + 9) j]; exact ks_eq (by omega)
  have e4 : ks (k + 9 * c) = ks (k + 9 * q) := by rw [← ks_36 (k + 9 * q) j]; exact ks_eq (by omega)
  rw [e1, e2, e3, e4]
  have nA : Am (-NV A) = -A := by rw [Am_neg, aA]
  have nB : Am (-NV B) = -B := by rw [Am_neg, aB]
  have h18 := half_all k
  have h27 : ks (k + 27) = - ks (k + 9) := by have := half_all (k + 9); rw [← this]; exact ks_eq (by omega)
  have h36 : ks (k + 36) = ks k := by have := ks_36 k 1; rw [← this]; exact ks_eq (by omega)
  rcases (quarter q hq0 hq1).is with ⟨rfl, x, y⟩ | ⟨rfl, x, y⟩ | ⟨rfl, x, y⟩ | ⟨rfl, x, y⟩
  · rw [x, y]
    have a1 : TR A B U1 0 = A := by unfold TR; rw [MK_one _ hA, MK_zero, NV_zero, Int.sub_zero, aA]
    have a2 : TI A B U1 0 = B := by unfold TI; rw [MK_one _ hB, MK_zero, NV_zero, Int.zero_add, aB]
    rw [a1, a2]
    simp
  · rw [x, y]
    have a1 : TR A B 0 U1 = -B := by unfold TR; rw [MK_one _ hB, MK_zero, NV_zero, Int.zero_sub, nB]
    have a2 : TI A B 0 U1 = A := by unfold TI; rw [MK_one _ hA, MK_zero, NV_zero, Int.add_zero, aA]
    have b1 : ks (k + 9 * 1 + 9) = - ks k := by rw [← h18]; exact ks_eq (by omega)
    have b2 : ks (k + 9 * 1) = ks (k + 9) := ks_eq (by omega)
    rw [a1, a2, b1, b2]
    unfold TR
    rw [neg_MK, MK_neg, NV_neg, NV_neg]
    exact congrArg Am (by omega)
  · rw [x, y]
    have a1 : TR A B (-U1) 0 = -A := by unfold TR; rw [MK_neg, MK_one _ hA, MK_zero, NV_zero, Int.sub_zero, NV_neg, nA]
    have a2 : TI A B (-U1) 0 = -B := by unfold TI; rw [MK_neg, MK_one _ hB, MK_zero, NV_zero, Int.zero_add, NV_neg, nB]
    have b1 : ks (k + 9 * 2 + 9) = - ks (k + 9) := by rw [← h27]; exact ks_eq (by omega)
    have b2 : ks (k + 9 * 2) = - ks k := by rw [← h18]; exact ks_eq (by omega)
    rw [a1, a2, b1, b2]
    unfold TR
    rw [neg_MK, neg_MK, MK_neg, MK_neg]
  · rw [x, y]
    have a1 : TR A B 0 (-U1) = B := by unfold TR; rw [MK_neg, MK_one _ hB, MK_zero, NV_zero, Int.zero_sub, NV_neg, Int.neg_neg, aB]
    have a2 : TI A B 0 (-U1) = -A := by unfold TI; rw [MK_neg, MK_one _ hA, MK_zero, NV_zero, Int.add_zero, NV_neg, nA]
    have b1 : ks (k + 9 * 3 + 9) = ks k := by rw [← h36]; exact ks_eq (by omega)
    have b2 : ks (k + 9 * 3) = - ks (k + 9) := by rw [← h27]; exact ks_eq (by omega)
    rw [a1, a2, b1, b2]
    unfold TR
    rw [neg_MK, MK_neg, NV_neg, NV_neg]
    exact congrArg Am (by omega)
/-- bounds -/
theorem ex_op1 {y : Nat} {a : Int} (h : Ex y a) (hy : rng y < 9218868437227405312) : Ex (op1 y) a := by
  obtain ⟨s, m, p, e, b⟩ := h
  refine ⟨!s, m, p, ?_, b⟩
  rw [(op1_is y hy).2.2, e]
  rfl
theorem ex_sub {x y : Nat} {a : Int} (hx : Ex x a) (hy : Ex y a) (ry : rng y < 9218868437227405312) (h0 : -1000 ≤ a) (h1 : a ≤ 900) : Ex (opF .sub x y) (a + 3) ∧ rng (opF .sub x y) < 9218868437227405312 := by
  rw [sub_op x y ry]
  exact add_ex hx (ex_op1 hy ry) h0 h1
end Go.Proofs.Ytgnnmepjdmcecaa.Flt
