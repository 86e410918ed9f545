/- Sums of whole numbers, plain: small whole numbers come back exactly at one, two and four; a row of real numbers tells the same from both ends. -/
import Derived.Test.YtgnnmepjdmcecaaTw
import Derived.Test.YtgnnmepjdmcecaaWu
namespace Go.Proofs.Ytgnnmepjdmcecaa.Flt
open Ieee

/-- a float that is this whole number -/
def Wn (x : Nat) (n : Int) : Prop := rng x < 9218868437227405312 ∧ num x = n * (U : Int)
theorem Wn.cn {x : Nat} {n : Int} (h : Wn x n) : cn x = x := cn_num (by unfold nan; have := h.1; simp; omega)
theorem Wn.fl (n : Int) (h : n.natAbs < 9007199254740992) : Wn (floatOfInt .f64 n) n := ⟨(fl_num n h).1, (fl_num n h).2.1⟩
theorem Wn.key {x : Nat} {n : Int} (h : Wn x n) : Flt.key x = Am (n * (U : Int)) := by rw [← h.2, Am_num x h.1]
theorem rng_of {x y : Nat} (h : Flt.key x = Flt.key y) (hy : rng y < 9218868437227405312) : rng x < 9218868437227405312 := by
  have := congrArg Int.natAbs h
  rw [key_abs, key_abs] at this
  omega
theorem Wn.of {x : Nat} {n : Int} (hn : n.natAbs < 9007199254740992) (h : Flt.key x = Am (n * (U : Int))) : Wn x n := by
  have f := Wn.fl n hn
  have e : Flt.key x = Flt.key (floatOfInt .f64 n) := by rw [h, f.key]
  exact ⟨rng_of e f.1, by rw [num_key e, f.2]⟩
theorem Wn.add {x y : Nat} {a b : Int} (h : Wn x a) (k : Wn y b) (hn : (a + b).natAbs < 9007199254740992) : Wn (opF .add x y) (a + b) := by
  have s := add_key x y h.1 k.1
  refine Wn.of hn ?_
  rw [s.1, h.2, k.2, Int.add_mul]
theorem Wn.sub {x y : Nat} {a b : Int} (h : Wn x a) (k : Wn y b) (hn : (a - b).natAbs < 9007199254740992) : Wn (opF .sub x y) (a - b) := by
  have s := sub_key x y h.1 k.1
  refine Wn.of hn ?_
  rw [s.1, h.2, k.2, Int.sub_mul]
theorem opF_lt (op : BinOp) (x y : Nat) : opF op x y < 18446744073709551616 := by
  unfold opF
  cases h : floatBits op .f64 x y with
  | none => decide
  | some r => exact (bits_num op h).2
theorem key_zero_of {x : Nat} (h : Wn x 0) : Flt.key x = 0 := by rw [h.key, Int.zero_mul]; unfold Am; rw [if_neg (by omega)]; simp [G_zero]
theorem key_one_of {x : Nat} (h : Wn x 1) : Flt.key x = U1 := by rw [h.key, ← (Wn.fl 1 (by decide)).key]; decide +kernel
theorem key_neg_of {x : Nat} (h : Wn x (-1)) : Flt.key x = -U1 := by rw [h.key, ← (Wn.fl (-1) (by decide)).key]; decide +kernel
theorem Wn.mul {x y : Nat} {a b : Int} (h : Wn x a) (k : Wn y b) (hb : b = 0 ∨ b = 1 ∨ b = -1) (hn : a.natAbs < 9007199254740992) : Wn (opF .mul x y) (a * b) := by
  have s := mulK x y h.1 k.1
  have ab : (Flt.key x).natAbs < 9218868437227405312 := by rw [key_abs]; exact h.1
  rcases hb with rfl | rfl | rfl
  · refine Wn.of (by simp) ?_
    rw [s, key_zero_of k, MK_zero]
    simp [Am, G_zero]
  · refine Wn.of (by simpa using hn) ?_
    rw [s, key_one_of k, MK_one _ ab, h.key]
    simp
  · refine Wn.of (by simpa using hn) ?_
    rw [s, key_neg_of k, MK_neg, MK_one _ ab, h.key, ← Am_neg]
    congr 1
    rw [Int.mul_neg, Int.mul_one, Int.neg_mul]

theorem Wn_zero : Wn 0 0 := ⟨by decide, by rw [Int.zero_mul]; rfl⟩
/-- the sine of quarters -/
def qs (m : Int) : Int := if m % 4 = 1 then 1 else if m % 4 = 3 then -1 else 0
theorem qs_in (m : Int) : qs m = 0 ∨ qs m = 1 ∨ qs m = -1 := by
  unfold qs
  split
  · exact .inr (.inl rfl)
  · split
    · exact .inr (.inr rfl)
    · exact .inl rfl
theorem Wn_sine (m : Int) : Wn (sine ((9 * m) % 36)) (qs m) := by
  have : ∀ q : Fin 4, Wn (sine (9 * (q.val : Int))) (qs (q.val : Int)) := by
    intro q
    have hq : q = 0 ∨ q = 1 ∨ q = 2 ∨ q = 3 := by revert q; decide
    rcases hq with rfl | rfl | rfl | rfl
    · exact ⟨by decide +kernel, by decide +kernel⟩
    · exact ⟨by decide +kernel, by decide +kernel⟩
    · exact ⟨by decide +kernel, by decide +kernel⟩
    · exact ⟨by decide +kernel, by decide +kernel⟩
  have q := this ⟨(m % 4).toNat, by omega⟩
  have e : (((m % 4).toNat : Nat) : Int) = m % 4 := Int.toNat_of_nonneg (by omega)
  simp only [e] at q
  have e1 : (9 * m) % 36 = 9 * (m % 4) := by omega
  have e2 : qs (m % 4) = qs m := by unfold qs; rw [Int.emod_emod_of_dvd _ (by decide)]
  rw [e1, ← e2]
  exact q
theorem mul_small {a b : Int} (hb : b = 0 ∨ b = 1 ∨ b = -1) : (a * b).natAbs ≤ a.natAbs := by rcases hb with rfl | rfl | rfl <;> simp
theorem Wn_re {a b : Nat} {A B : Int} (m : Int) (ha : Wn a A) (hb : Wn b B) (hA : A.natAbs < 1000000) (hB : B.natAbs < 1000000) : Wn (Wa.mre a b (sine ((9 * m + 9) % 36)) (sine ((9 * m) % 36))) (A * qs (m + 1) - B * qs m) := by
  have s0 := Wn_sine m
  have s1 := Wn_sine (m + 1)
  rw [show 9 * (m + 1) = 9 * m + 9 by omega] at s1
  have q0 := mul_small (a := B) (qs_in m)
  have q1 := mul_small (a := A) (qs_in (m + 1))
  exact Wn.sub (ha.mul s1 (qs_in _) (by omega)) (hb.mul s0 (qs_in _) (by omega)) (by omega)
theorem Wn_im {a b : Nat} {A B : Int} (m : Int) (ha : Wn a A) (hb : Wn b B) (hA : A.natAbs < 1000000) (hB : B.natAbs < 1000000) : Wn (Wa.mim a b (sine ((9 * m + 9) % 36)) (sine ((9 * m) % 36))) (A * qs m + B * qs (m + 1)) := by
  have s0 := Wn_sine m
  have s1 := Wn_sine (m + 1)
  rw [show 9 * (m + 1) = 9 * m + 9 by omega] at s1
  have q0 := mul_small (a := A) (qs_in m)
  have q1 := mul_small (a := B) (qs_in (m + 1))
  exact Wn.add (ha.mul s0 (qs_in _) (by omega)) (hb.mul s1 (qs_in _) (by omega)) (by omega)

/-- the sums in whole numbers -/
def zs (A B : Nat → Int) (d : Int) (k : Nat) : Nat → Int × Int
  | 0 => (0, 0)
  | i + 1 => ((zs A B d k i).1 + (A i * qs (d * i * k + 1) - B i * qs (d * i * k)), (zs A B d k i).2 + (A i * qs (d * i * k) + B i * qs (d * i * k + 1)))
theorem zs_in (A B : Nat → Int) (d : Int) (k M : Nat) (h : ∀ i, (A i).natAbs ≤ M ∧ (B i).natAbs ≤ M) : ∀ i, (zs A B d k i).1.natAbs ≤ 2 * M * i ∧ (zs A B d k i).2.natAbs ≤ 2 * M * i
  | 0 => by simp [zs]
  | i + 1 => by
    have ih := zs_in A B d k M h i
    have a1 := mul_small (a := A i) (qs_in (d * i * k + 1))
    have a2 := mul_small (a := A i) (qs_in (d * i * k))
    have a3 := mul_small (a := B i) (qs_in (d * i * k + 1))
    have a4 := mul_small (a := B i) (qs_in (d * i * k))
    have hi := h i
    have e : 2 * M * (i + 1) = 2 * M * i + 2 * M := by rw [Nat.mul_add, Nat.mul_one]
    rw [e]
    constructor
    · show ((zs A B d k i).1 + (A i * qs (d * i * k + 1) - B i * qs (d * i * k))).natAbs ≤ _
      omega
    · show ((zs A B d k i).2 + (A i * qs (d * i * k) + B i * qs (d * i * k + 1))).natAbs ≤ _
      omega
open Go.Proofs.Ytgnnmepjdmcecaa.Wv in
theorem ws_whole (L : Pr.Ls) (by_ d : Int) (n k : Nat) (A B : Nat → Int) (M : Nat) (hM : M < 100000) (hd : by_ * ((36 : Int) / (n : Int)) = 9 * d) (hL : ∀ i, i < n → Wn (Flt.cn (Pr.c0 L i)) (A i) ∧ Wn (Flt.cn (Pr.c1 L i)) (B i)) (hb : ∀ i, (A i).natAbs ≤ M ∧ (B i).natAbs ≤ M) :
    ∀ i, i ≤ n → i ≤ 36 → Wn (ws L by_ n k i).1 (zs A B d k i).1 ∧ Wn (ws L by_ n k i).2 (zs A B d k i).2
  | 0, _, _ => ⟨Wn_zero, Wn_zero⟩
  | i + 1, hi, h36 => by
    have ih := ws_whole L by_ d n k A B M hM hd hL hb i (by omega) (by omega)
    have zi := zs_in A B d k M hb i
    have zj := zs_in A B d k M hb (i + 1)
    have b1 : 2 * M * i ≤ 2 * M * 36 := Nat.mul_le_mul_left _ (by omega)
    have b2 : 2 * M * (i + 1) ≤ 2 * M * 36 := Nat.mul_le_mul_left _ (by omega)
    have hbi := hb i
    have l := hL i (by omega)
    have ea : ang by_ n i k = 9 * (d * i * k) := by unfold ang; rw [hd, Int.mul_assoc, Int.mul_assoc, Int.mul_assoc]
    have r := Wn_re (d * i * k) l.1 l.2 (by omega) (by omega)
    have m := Wn_im (d * i * k) l.1 l.2 (by omega) (by omega)
    rw [← ea] at r m
    exact ⟨ih.1.add r (by show (zs A B d k (i + 1)).1.natAbs < _; omega), ih.2.add m (by show (zs A B d k (i + 1)).2.natAbs < _; omega)⟩
open Go.Proofs.Ytgnnmepjdmcecaa.Wv in
theorem ws_lt (L : Pr.Ls) (by_ : Int) (n k : Nat) : ∀ i, (ws L by_ n k i).1 < 18446744073709551616 ∧ (ws L by_ n k i).2 < 18446744073709551616
  | 0 => ⟨by show 0 < 18446744073709551616; decide, by show 0 < 18446744073709551616; decide⟩
  | i + 1 => ⟨opF_lt _ _ _, opF_lt _ _ _⟩
end Go.Proofs.Ytgnnmepjdmcecaa.Flt
