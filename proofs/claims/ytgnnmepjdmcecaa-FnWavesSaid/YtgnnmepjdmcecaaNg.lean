/- Sums and products by signed rungs: what happens when numbers are turned to their opposites. -/
import Derived.Test.YtgnnmepjdmcecaaFltH
import Derived.Test.YtgnnmepjdmcecaaCn
namespace Go.Proofs.Ytgnnmepjdmcecaa.Flt
open Ieee

def INF : Nat := 9218868437227405312
theorem near_sign (t : Bool) (m : Nat) (p : Int) : double.nearest t m p = double.word t (rng (double.nearest false m p)) := by
  have h := nearest_rng false m p
  unfold Format.nearest at *
  by_cases hm : m = 0
  · rw [if_pos hm, if_pos hm] at *
    have : rng (double.word false 0) = 0 := (sgn_word false 0 (by omega)).2.1
    rw [this]
  · rw [if_neg hm, if_neg hm] at *
    dsimp only at *
    have e : ∀ n d, Toward.even.cut t n d = Toward.even.cut false n d := fun n d => rfl
    rw [e]
    generalize hq : (min _ double.infRung) = r at *
    have hi : double.infRung = 9218868437227405312 := by decide
    have hr : r ≤ 9218868437227405312 := by rw [← hq, ← hi]; exact Nat.min_le_right _ _
    have q : rng (double.word false r) = r := (sgn_word false r (by omega)).2.1
    rw [q]
/-- The rung of a magnitude, told in the least unit. -/
def G (v : Nat) : Nat := rng (double.nearest false v (-1074))
theorem G_zero : G 0 = 0 := by
  unfold G
  rw [near_zero]
  exact (sgn_word false 0 (by omega)).2.1
theorem G_le (v : Nat) : G v ≤ 9218868437227405312 := (nearest_rng false v (-1074)).1
theorem G_val (r : Nat) (h : r < 9218868437227405312) : G (val r) = r := by
  unfold G
  have := near_exact false (val r) 0 r (by simp) h
  simp at this
  rw [this]
  exact (sgn_word false r (by omega)).2.1
theorem near_G (t : Bool) (m a : Nat) : double.nearest t m (-1074 + (a : Int)) = double.word t (G (m * 2 ^ a)) := by
  rw [near_sign]
  unfold G
  rw [near_scale]
theorem key_word (t : Bool) (r : Nat) (h : r ≤ 9218868437227405312) : key (double.word t r) = sg t r ∧ rng (double.word t r) = r ∧ double.word t r < 18446744073709551616 := by
  have := sgn_word t r (by omega)
  unfold key
  rw [this.1, this.2.1]
  exact ⟨rfl, rfl, this.2.2⟩
def Am (T : Int) : Int := if T < 0 then -(G T.natAbs : Int) else G T.natAbs
theorem Am_neg (T : Int) : Am (-T) = - Am T := by
  unfold Am
  rw [Int.natAbs_neg]
  by_cases h : T < 0
  · rw [if_pos h, if_neg (by omega)]; omega
  · by_cases h0 : T = 0
    · subst h0; simp [G_zero]
    · rw [if_neg h, if_pos (by omega)]
theorem add_key (x y : Nat) (hx : rng x < 9218868437227405312) (hy : rng y < 9218868437227405312) : key (opF .add x y) = Am (num x + num y) ∧ rng (opF .add x y) ≤ 9218868437227405312 ∧ opF .add x y < 18446744073709551616 := by
  obtain ⟨t, m, a, h1, h2⟩ := add_form x y hx hy
  have e : opF .add x y = double.word t (G (m * 2 ^ a)) := by
    show (double.add x y).getD qn = _
    rw [h1, near_G]
    rfl
  have kw := key_word t (G (m * 2 ^ a)) (G_le _)
  rw [e]
  refine ⟨?_, by rw [kw.2.1]; exact G_le _, kw.2.2⟩
  rw [kw.1, ← h2]
  clear e kw h1 h2
  generalize m * 2 ^ a = v
  unfold Am
  cases t
  · rw [if_neg (by simp [sg])]
    simp [sg]
  · have : (sg true v).natAbs = v := by simp [sg]
    rw [this]
    by_cases z : v = 0
    · rw [z]; simp [sg, G_zero]
    · rw [if_pos (by simp [sg]; omega)]
      simp [sg]
theorem num_key {x y : Nat} (h : key x = key y) : num x = num y := by
  unfold key num at *
  cases hx : sgn x <;> cases hy : sgn y <;> rw [hx, hy] at h <;> simp [sg] at h ⊢
  · have : rng x = rng y := by omega
    rw [this]
  · have h1 : rng x = 0 := by omega
    have h2 : rng y = 0 := by omega
    rw [h1, h2]; simp [val_zero]
  · have h1 : rng x = 0 := by omega
    have h2 : rng y = 0 := by omega
    rw [h1, h2]; simp [val_zero]
  · have : rng x = rng y := by omega
    rw [this]
theorem num_neg {x y : Nat} (h : key x = - key y) : num x = - num y := by
  unfold key num at *
  cases hx : sgn x <;> cases hy : sgn y <;> rw [hx, hy] at h <;> simp [sg] at h ⊢
  · have h1 : rng x = 0 := by omega
    have h2 : rng y = 0 := by omega
    rw [h1, h2]; simp [val_zero]
  · have : rng x = rng y := by omega
    rw [this]
  · have : rng x = rng y := by omega
    rw [this]
  · have h1 : rng x = 0 := by omega
    have h2 : rng y = 0 := by omega
    rw [h1, h2]; simp [val_zero]
def op1 (y : Nat) : Nat := double.word (!sgn y) (rng y)
theorem op1_is (y : Nat) (h : rng y < 9218868437227405312) : sgn (op1 y) = !sgn y ∧ rng (op1 y) = rng y ∧ double.read (op1 y) = (double.read y).opposite := by
  have s := sgn_word (!sgn y) (rng y) (by omega)
  refine ⟨s.1, s.2.1, ?_⟩
  rw [read_eq, read_eq y]
  unfold op1
  rw [s.1, s.2.1]
  by_cases h1 : rng y < 4503599627370496
  · rw [if_pos h1, if_pos h1]; rfl
  · rw [if_neg h1, if_neg h1, if_pos h, if_pos h]; rfl
theorem sub_op (x y : Nat) (h : rng y < 9218868437227405312) : opF .sub x y = opF .add x (op1 y) := by
  show (double.sub x y).getD qn = (double.add x (op1 y)).getD qn
  unfold Format.sub Format.add
  rw [(op1_is y h).2.2]
theorem num_op1 (y : Nat) (h : rng y < 9218868437227405312) : num (op1 y) = - num y := by
  have := op1_is y h
  unfold num
  rw [this.1, this.2.1]
  cases sgn y <;> simp [sg]
theorem sub_key (x y : Nat) (hx : rng x < 9218868437227405312) (hy : rng y < 9218868437227405312) : key (opF .sub x y) = Am (num x - num y) ∧ rng (opF .sub x y) ≤ 9218868437227405312 ∧ opF .sub x y < 18446744073709551616 := by
  rw [sub_op x y hy]
  have := add_key x (op1 y) hx (by rw [(op1_is y hy).2.1]; exact hy)
  rw [num_op1 y hy] at this
  exact this
theorem Am_num (x : Nat) (h : rng x < 9218868437227405312) : Am (num x) = key x := by
  unfold Am num key
  cases sgn x
  · rw [if_neg (by simp [sg])]
    simp [sg, G_val _ h]
  · by_cases z : rng x = 0
    · rw [z]; simp [sg, val_zero, G_zero]
    · have : 0 < val (rng x) := by
        have := val_lt (r := 0) (q := rng x) (by omega)
        rw [val_zero] at this
        exact this
      rw [if_pos (by simp [sg]; omega)]
      simp [sg, G_val _ h]
/-- 0 - x is the opposite of x. -/
theorem neg_key (x : Nat) (h : rng x < 9218868437227405312) : key (opF .sub 0 x) = - key x ∧ rng (opF .sub 0 x) = rng x ∧ opF .sub 0 x < 18446744073709551616 := by
  have s := sub_key 0 x (by decide) h
  have n0 : num 0 = 0 := rfl
  rw [n0, Int.zero_sub, Am_neg, Am_num x h] at s
  refine ⟨s.1, ?_, s.2.2⟩
  have := s.1
  unfold key at this
  cases hx : sgn x <;> cases hy : sgn (opF .sub 0 x) <;> rw [hx, hy] at this <;> simp [sg] at this <;> omega
/-- Products by rungs and signs. -/
def mg (r : Nat) : Nat := if r < 4503599627370496 then r else 4503599627370496 + r % 4503599627370496
def pl (r : Nat) : Int := if r < 4503599627370496 then -1074 else -1074 + ((r / 4503599627370496 - 1 : Nat) : Int)
theorem read_mg (x : Nat) (h : rng x < 9218868437227405312) : double.read x = .number (sgn x) (mg (rng x)) (pl (rng x)) := by
  rw [read_eq]
  unfold mg pl
  by_cases h1 : rng x < 4503599627370496
  · rw [if_pos h1, if_pos h1, if_pos h1]
  · rw [if_neg h1, if_neg h1, if_neg h1, if_pos h]
def Hm (r q : Nat) : Nat := rng (double.nearest false (mg r * mg q) (pl r + pl q))
theorem Hm_le (r q : Nat) : Hm r q ≤ 9218868437227405312 := (nearest_rng false _ _).1
theorem Hm_zero (r q : Nat) (h : r = 0 ∨ q = 0) : Hm r q = 0 := by
  unfold Hm
  have : mg r * mg q = 0 := by
    rcases h with rfl | rfl
    · simp [mg]
    · simp [mg]
  rw [this, near_zero]
  exact (sgn_word false 0 (by omega)).2.1
theorem mul_is (x y : Nat) (hx : rng x < 9218868437227405312) (hy : rng y < 9218868437227405312) : opF .mul x y = double.word (sgn x ^^ sgn y) (Hm (rng x) (rng y)) := by
  show (double.mul x y).getD qn = _
  unfold Format.mul
  rw [read_mg x hx, read_mg y hy]
  show double.nearest _ _ _ = _
  rw [near_sign]
  rfl
theorem mul_key (x y : Nat) (hx : rng x < 9218868437227405312) (hy : rng y < 9218868437227405312) : key (opF .mul x y) = sg (sgn x ^^ sgn y) (Hm (rng x) (rng y)) ∧ rng (opF .mul x y) = Hm (rng x) (rng y) ∧ opF .mul x y < 18446744073709551616 := by
  rw [mul_is x y hx hy]
  exact key_word _ _ (Hm_le _ _)
theorem neg_sgn {x y : Nat} (h : key y = - key x) (hr : rng y = rng x) : rng x = 0 ∨ sgn y = !sgn x := by
  unfold key at h
  cases hx : sgn x <;> cases hy : sgn y <;> rw [hx, hy] at h <;> simp [sg] at h <;> simp <;> omega
/-- One factor turned. -/
theorem mul_neg1 (a d d' : Nat) (ha : rng a < 9218868437227405312) (hd : rng d < 9218868437227405312) (h : key d' = - key d) (hr : rng d' = rng d) : key (opF .mul a d') = - key (opF .mul a d) ∧ rng (opF .mul a d') = rng (opF .mul a d) := by
  have m1 := mul_key a d ha hd
  have m2 := mul_key a d' ha (by rw [hr]; exact hd)
  rw [hr] at m2
  rw [m1.1, m2.1, m1.2.1, m2.2.1]
  refine ⟨?_, rfl⟩
  rcases neg_sgn h hr with z | z
  · rw [Hm_zero _ _ (Or.inr z)]
    simp [sg]
  · rw [z]
    cases sgn a <;> cases sgn d <;> simp [sg]
theorem product_comm (a b : Datum) : a.product b = b.product a := by
  cases a <;> cases b <;> simp only [Datum.product]
  · rename_i s m i t n j
    rw [Bool.xor_comm, Nat.mul_comm, Int.add_comm]
  · rename_i s t
    rw [Bool.xor_comm]
theorem mul_comm (x y : Nat) : opF .mul x y = opF .mul y x := by
  show (double.mul x y).getD qn = (double.mul y x).getD qn
  unfold Format.mul
  rw [product_comm]
/-- Where a sum is a number, both parts are. -/
theorem rng_qn : ¬ rng qn < 9218868437227405312 := by decide +kernel
theorem write_inf (s : Bool) : ¬ rng (double.write (.infinity s)) < 9218868437227405312 := by
  cases s <;> decide +kernel
theorem read_nf (x : Nat) (h : ¬ rng x < 9218868437227405312) : (∃ s, double.read x = .infinity s) ∨ ∃ s p, double.read x = .nan s p := by
  by_cases e : rng x = 9218868437227405312
  · exact Or.inl ⟨_, read_inf x e⟩
  · exact Or.inr ⟨_, _, read_nan x (by omega)⟩
theorem sum_fin (a b : Datum) (h : rng (((a.sum b).map double.write).getD qn) < 9218868437227405312) : (∃ s m p, a = .number s m p) ∧ ∃ s m p, b = .number s m p := by
  cases a with
  | nan => exact absurd h (by simpa [Datum.sum] using rng_qn)
  | infinity s =>
    cases b with
    | nan => exact absurd h (by simpa [Datum.sum] using rng_qn)
    | infinity t =>
      by_cases e : s = t
      · exact absurd h (by simpa [Datum.sum, e] using write_inf t)
      · exact absurd h (by simpa [Datum.sum, e] using rng_qn)
    | number t n j => exact absurd h (by simpa [Datum.sum] using write_inf s)
  | number s m i =>
    cases b with
    | nan => exact absurd h (by simpa [Datum.sum] using rng_qn)
    | infinity t => exact absurd h (by simpa [Datum.sum] using write_inf t)
    | number t n j => exact ⟨⟨_, _, _, rfl⟩, _, _, _, rfl⟩
theorem fin_of {x : Nat} (h : ∃ s m p, double.read x = .number s m p) : rng x < 9218868437227405312 := by
  by_cases c : rng x < 9218868437227405312
  · exact c
  · obtain ⟨s, m, p, e⟩ := h
    rcases read_nf x c with ⟨t, q⟩ | ⟨t, r, q⟩ <;> rw [e] at q <;> cases q
theorem add_fin (x y : Nat) (h : rng (opF .add x y) < 9218868437227405312) : rng x < 9218868437227405312 ∧ rng y < 9218868437227405312 := by
  have := sum_fin (double.read x) (double.read y) h
  exact ⟨fin_of this.1, fin_of this.2⟩
theorem sub_fin (x y : Nat) (h : rng (opF .sub x y) < 9218868437227405312) : rng x < 9218868437227405312 ∧ rng y < 9218868437227405312 := by
  have := sum_fin (double.read x) (double.read y).opposite h
  refine ⟨fin_of this.1, fin_of ?_⟩
  obtain ⟨_, s, m, p, e⟩ := this
  cases hy : double.read y with
  | number s m p => exact ⟨_, _, _, rfl⟩
  | infinity s => rw [hy] at e; cases e
  | nan s q => rw [hy] at e; cases e
end Go.Proofs.Ytgnnmepjdmcecaa.Flt
