/- Vapour of a temperature within the bounds is a known number: magnitudes by the place of the first digit. -/
import Derived.Test.YtgnnmepjdmcecaaNg
namespace Go.Proofs.Ytgnnmepjdmcecaa.Flt
open Ieee

/-- The first digit stands at most at the place E. -/
def Ex (x : Nat) (E : Int) : Prop := ∃ s m p, double.read x = .number s m p ∧ (m = 0 ∨ p + (m.log2 : Int) ≤ E)

theorem sg_abs (s : Bool) (v : Nat) : (sg s v).natAbs = v := by cases s <;> simp [sg]

theorem cut_le (s : Bool) (n d : Nat) : Toward.even.cut s n d ≤ n / 2 ^ (min d (n.log2 + 2)) + 1 := by
  unfold Toward.cut
  simp only [Nat.one_shiftLeft]
  generalize (_ || _ : Bool) = b
  cases b <;> simp

theorem near_end (X K : Nat) (E : Int) (hl : X ≤ (E + 1022).toNat) (kb : K ≤ 9007199254740992) (h0 : -1000 ≤ E) : ((min (X * 4503599627370496 + K) 9218868437227405312 : Nat) : Int) ≤ (E + 1024) * 4503599627370496 := by
  omega

theorem near_ex (s : Bool) (m : Nat) (p E : Int) (h : m = 0 ∨ p + (m.log2 : Int) ≤ E) (h0 : -1000 ≤ E) (h1 : E ≤ 1000) :
    ((rng (double.nearest s m p) : Nat) : Int) ≤ (E + 1024) * 4503599627370496 := by
  have e1 : double.leastPlace = -1074 := rfl
  have e2 : double.fractionBits = 52 := rfl
  have e3 : double.binade = 4503599627370496 := rfl
  have e4 : double.infRung = 9218868437227405312 := rfl
  unfold Format.nearest
  by_cases hm : m = 0
  · rw [if_pos hm, (word_rng s 0 (by omega)).1]; omega
  · rw [if_neg hm]
    dsimp only
    rw [e1, e2, e3, e4]
    have hE : p + (m.log2 : Int) ≤ E := by rcases h with h | h; exact absurd h hm; exact h
    rw [(word_rng s _ (by omega)).1]
    obtain ⟨L, hL⟩ : ∃ L : Int, L = max (p + (m.log2 : Int) - ((52 : Nat) : Int)) (-1074) := ⟨_, rfl⟩
    rw [← hL]
    have hlq : (L - -1074).toNat ≤ (E + 1022).toNat := by omega
    have kb : Toward.even.cut s (m <<< (p - L).toNat) (L - p).toNat ≤ 9007199254740992 := by
      refine Nat.le_trans (cut_le _ _ _) ?_
      by_cases hp : L ≤ p
      · have z : (L - p).toNat = 0 := by omega
        rw [z]
        simp only [Nat.zero_min, Nat.pow_zero, Nat.div_one]
        have hlog : (p - L).toNat + m.log2 ≤ 52 := by omega
        have : m < 2 ^ (m.log2 + 1) := Nat.lt_log2_self
        rw [Nat.shiftLeft_eq]
        have h3 : m * 2 ^ (p - L).toNat < 2 ^ (m.log2 + 1) * 2 ^ (p - L).toNat := Nat.mul_lt_mul_of_pos_right this (Nat.two_pow_pos _)
        rw [← Nat.pow_add] at h3
        have h4 : 2 ^ (m.log2 + 1 + (p - L).toNat) ≤ 2 ^ 53 := Nat.pow_le_pow_right (by omega) (by omega)
        have h6 : (2 : Nat) ^ 53 = 9007199254740992 := by decide
        rw [h6] at h4
        exact Nat.succ_le_of_lt (Nat.lt_of_lt_of_le h3 h4)
      · have z : (p - L).toNat = 0 := by omega
        rw [z, Nat.shiftLeft_zero]
        have : m < 2 ^ (m.log2 + 1) := Nat.lt_log2_self
        by_cases hd : (L - p).toNat ≤ m.log2 + 2
        · rw [Nat.min_eq_left hd]
          have hlog : m.log2 ≤ 52 + (L - p).toNat := by omega
          have h4 : 2 ^ (m.log2 + 1) ≤ 2 ^ (53 + (L - p).toNat) := Nat.pow_le_pow_right (by omega) (by omega)
          rw [Nat.pow_add 2 53] at h4
          have h5 : m / 2 ^ (L - p).toNat < 2 ^ 53 := (Nat.div_lt_iff_lt_mul (Nat.two_pow_pos _)).2 (Nat.lt_of_lt_of_le this h4)
          have h6 : (2 : Nat) ^ 53 = 9007199254740992 := by decide
          rw [h6] at h5
          omega
        · rw [Nat.min_eq_right (by omega)]
          have h5 : m / 2 ^ (m.log2 + 2) = 0 := Nat.div_eq_of_lt (Nat.lt_of_lt_of_le this (Nat.pow_le_pow_right (by omega) (by omega)))
          omega
    clear hL
    generalize Toward.even.cut s (m <<< (p - L).toNat) (L - p).toNat = K at *
    have hl : (L - -1074).toNat ≤ (E + 1022).toNat := hlq
    exact near_end _ _ _ hl kb h0

theorem ex_of (x : Nat) (E : Int) (h0 : -1000 ≤ E) (h1 : E ≤ 1000) (h : ((rng x : Nat) : Int) ≤ (E + 1024) * 4503599627370496) : Ex x (E + 2) ∧ rng x < 9218868437227405312 := by
  refine ⟨?_, by omega⟩
  by_cases hr : rng x < 4503599627370496
  · refine ⟨sgn x, rng x, -1074, by rw [read_eq, if_pos hr], ?_⟩
    by_cases hz : rng x = 0
    · exact .inl hz
    · right
      have : 2 ^ (rng x).log2 ≤ rng x := Nat.log2_self_le hz
      have h2 : (rng x).log2 < 52 := (Nat.log2_lt hz).2 hr
      omega
  · refine ⟨sgn x, 4503599627370496 + rng x % 4503599627370496, -1074 + (rng x / 4503599627370496 - 1 : Nat), by rw [read_eq, if_neg hr, if_pos (by omega)], .inr ?_⟩
    have hl : (4503599627370496 + rng x % 4503599627370496).log2 < 53 := (Nat.log2_lt (by omega)).2 (by omega)
    omega

theorem log_mul (m n : Nat) (hm : m ≠ 0) (hn : n ≠ 0) : (m * n).log2 ≤ m.log2 + n.log2 + 1 := by
  have h1 : m < 2 ^ (m.log2 + 1) := Nat.lt_log2_self
  have h2 : n < 2 ^ (n.log2 + 1) := Nat.lt_log2_self
  have h3 : m * n < 2 ^ (m.log2 + 1) * 2 ^ (n.log2 + 1) := Nat.mul_lt_mul_of_lt_of_lt h1 h2
  rw [← Nat.pow_add] at h3
  have := (Nat.log2_lt (Nat.mul_ne_zero hm hn)).2 h3
  omega

theorem mul_ex {x y : Nat} {a b : Int} (hx : Ex x a) (hy : Ex y b) (h0 : -1000 ≤ a + b) (h1 : a + b ≤ 900) : Ex (opF .mul x y) (a + b + 3) ∧ rng (opF .mul x y) < 9218868437227405312 := by
  obtain ⟨s, m, i, e, hm⟩ := hx
  obtain ⟨t, n, j, e', hn⟩ := hy
  have ev : opF .mul x y = double.nearest (s ^^ t) (m * n) (i + j) := by
    show (double.mul x y).getD qn = _
    unfold Format.mul
    rw [e, e']
    rfl
  rw [ev]
  have hk : m * n = 0 ∨ i + j + ((m * n).log2 : Int) ≤ a + b + 1 := by
    by_cases m0 : m = 0
    · left; rw [m0]; simp
    · by_cases n0 : n = 0
      · left; rw [n0]; simp
      · right
        have := log_mul m n m0 n0
        rcases hm with hm | hm
        · exact absurd hm m0
        · rcases hn with hn | hn
          · exact absurd hn n0
          · omega
  have := ex_of _ (a + b + 1) (by omega) (by omega) (near_ex (s ^^ t) (m * n) (i + j) (a + b + 1) hk (by omega) (by omega))
  exact ⟨by rw [show a + b + 3 = a + b + 1 + 2 by omega]; exact this.1, this.2⟩

theorem shl_lt (m : Nat) (i base a : Int) (hb : base ≤ i) (h : m = 0 ∨ i + (m.log2 : Int) ≤ a) (hab : base ≤ a) : m * 2 ^ (i - base).toNat < 2 ^ ((a - base).toNat + 1) := by
  rcases h with h | h
  · rw [h, Nat.zero_mul]; exact Nat.two_pow_pos _
  · have h1 : m < 2 ^ (m.log2 + 1) := Nat.lt_log2_self
    have h3 : m * 2 ^ (i - base).toNat < 2 ^ (m.log2 + 1) * 2 ^ (i - base).toNat := Nat.mul_lt_mul_of_pos_right h1 (Nat.two_pow_pos _)
    rw [← Nat.pow_add] at h3
    exact Nat.lt_of_lt_of_le h3 (Nat.pow_le_pow_right (by omega) (by omega))

theorem add_ex {x y : Nat} {a : Int} (hx : Ex x a) (hy : Ex y a) (h0 : -1000 ≤ a) (h1 : a ≤ 900) : Ex (opF .add x y) (a + 3) ∧ rng (opF .add x y) < 9218868437227405312 := by
  obtain ⟨s, m, i, e, hm⟩ := hx
  obtain ⟨t, n, j, e', hn⟩ := hy
  obtain ⟨S, hS⟩ : ∃ S, S = signed s m (i - min i j).toNat + signed t n (j - min i j).toNat := ⟨_, rfl⟩
  have ev : opF .add x y = double.nearest (if S = 0 then s && t else decide (S < 0)) S.natAbs (min i j) := by
    show (double.add x y).getD qn = _
    unfold Format.add
    rw [e, e', hS]
    rfl
  rw [ev]
  have hk : S.natAbs = 0 ∨ min i j + (S.natAbs.log2 : Int) ≤ a + 1 := by
    by_cases z : S.natAbs = 0
    · exact .inl z
    · right
      by_cases hba : min i j ≤ a
      · have l1 := shl_lt m i (min i j) a (by omega) hm hba
        have l2 := shl_lt n j (min i j) a (by omega) hn hba
        have hb : S.natAbs < 2 ^ ((a - min i j).toNat + 1 + 1) := by
          rw [Nat.pow_succ]
          rw [signed_eq, signed_eq] at hS
          have k1 : (sg s (m * 2 ^ (i - min i j).toNat)).natAbs = m * 2 ^ (i - min i j).toNat := sg_abs _ _
          have k2 : (sg t (n * 2 ^ (j - min i j).toNat)).natAbs = n * 2 ^ (j - min i j).toNat := sg_abs _ _
          have := Int.natAbs_add_le (sg s (m * 2 ^ (i - min i j).toNat)) (sg t (n * 2 ^ (j - min i j).toNat))
          rw [← hS, k1, k2] at this
          omega
        have := (Nat.log2_lt z).2 hb
        omega
      · exfalso
        have m0 : m = 0 := by rcases hm with h | h; exact h; omega
        have n0 : n = 0 := by rcases hn with h | h; exact h; omega
        apply z
        rw [hS, m0, n0]
        cases s <;> cases t <;> simp [signed]
  have := ex_of _ (a + 1) (by omega) (by omega) (near_ex (if S = 0 then s && t else decide (S < 0)) S.natAbs (min i j) (a + 1) hk (by omega) (by omega))
  exact ⟨by rw [show a + 3 = a + 1 + 2 by omega]; exact this.1, this.2⟩
theorem Ex.mono {x : Nat} {a b : Int} (h : Ex x a) (hab : a ≤ b) : Ex x b := by
  obtain ⟨s, m, p, e, hm⟩ := h
  exact ⟨s, m, p, e, hm.imp id (fun h => by omega)⟩
end Go.Proofs.Ytgnnmepjdmcecaa.Flt
