/- Magnitudes by the place of the first digit; what lies between two levels is a known number. -/
import Derived.Test.YtjnjpbbpphklhaaSgA
namespace Go.Proofs.Ytjnjpbbpphklhaa.Flt
open Ieee

/-- The first digit stands at most at the place E. -/
def Ex (x : Nat) (E : Int) : Prop := ∃ s m p, double.read x = .number s m p ∧ (m = 0 ∨ p + (m.log2 : Int) ≤ E)

theorem sg_abs (s : Bool) (v : Nat) : (sg s v).natAbs = v := by cases s <;> simp [sg]

theorem cut_le (s : Bool) (n d : Nat) : Toward.even.cut s n d ≤ n / 2 ^ (min d (n.log2 + 2)) + 1 := by
  unfold Toward.cut
  simp only [Nat.one_shiftLeft]
  generalize (_ || _ : Bool) = b
  cases b <;> simp

theorem near_end (X K : Nat) (E : Int) (hl : X ≤ (E + 1022).toNat) (kb : K ≤ 9007199254740992) (h0 : -1000 ≤ E) : ((min (X * 4503599627370496 + K) 9218868437227405312 : Nat) : Int) ≤ (E + 1024) * 4503599627370496 := by
  omega

theorem near_ex (s : Bool) (m : Nat) (p E : Int) (h : m = 0 ∨ p + (m.log2 : Int) ≤ E) (h0 : -1000 ≤ E) (h1 : E ≤ 1000) :
    ((rng (double.nearest s m p) : Nat) : Int) ≤ (E + 1024) * 4503599627370496 := by
  have e1 : double.leastPlace = -1074 := rfl
  have e2 : double.fractionBits = 52 := rfl
  have e3 : double.binade = 4503599627370496 := rfl
  have e4 : double.infRung = 9218868437227405312 := rfl
  unfold Format.nearest
  by_cases hm : m = 0
  · rw [if_pos hm, (word_rng s 0 (by omega)).1]; omega
  · rw [if_neg hm]
    dsimp only
    rw [e1, e2, e3, e4]
    have hE : p + (m.log2 : Int) ≤ E := by rcases h with h | h; exact absurd h hm; exact h
    rw [(word_rng s _ (by omega)).1]
    obtain ⟨L, hL⟩ : ∃ L : Int, L = max (p + (m.log2 : Int) - ((52 : Nat) : Int)) (-1074) := ⟨_, rfl⟩
    rw [← hL]
    have hlq : (L - -1074).toNat ≤ (E + 1022).toNat := by omega
    have kb : Toward.even.cut s (m <<< (p - L).toNat) (L - p).toNat ≤ 9007199254740992 := by
      refine Nat.le_trans (cut_le _ _ _) ?_
      by_cases hp : L ≤ p
      · have z : (L - p).toNat = 0 := by omega
        rw [z]
        simp only [Nat.zero_min, Nat.pow_zero, Nat.div_one]
        have hlog : (p - L).toNat + m.log2 ≤ 52 := by omega
        have : m < 2 ^ (m.log2 + 1) := Nat.lt_log2_self
        rw [Nat.shiftLeft_eq]
        have h3 : m * 2 ^ (p - L).toNat < 2 ^ (m.log2 + 1) * 2 ^ (p - L).toNat := Nat.mul_lt_mul_of_pos_right this (Nat.two_pow_pos _)
        rw [← Nat.pow_add] at h3
        have h4 : 2 ^ (m.log2 + 1 + (p - L).toNat) ≤ 2 ^ 53 := Nat.pow_le_pow_right (by omega) (by omega)
        have h6 : (2 : Nat) ^ 53 = 9007199254740992 := by decide
        rw [h6] at h4
        exact Nat.succ_le_of_lt (Nat.lt_of_lt_of_le h3 h4)
      · have z : (p - L).toNat = 0 := by omega
        rw [z, Nat.shiftLeft_zero]
        have : m < 2 ^ (m.log2 + 1) := Nat.lt_log2_self
        by_cases hd : (L - p).toNat ≤ m.log2 + 2
        · rw [Nat.min_eq_left hd]
          have hlog : m.log2 ≤ 52 + (L - p).toNat := by omega
          have h4 : 2 ^ (m.log2 + 1) ≤ 2 ^ (53 + (L - p).toNat) := Nat.pow_le_pow_right (by omega) (by omega)
          rw [Nat.pow_add 2 53] at h4
          have h5 : m / 2 ^ (L - p).toNat < 2 ^ 53 := (Nat.div_lt_iff_lt_mul (Nat.two_pow_pos _)).2 (Nat.lt_of_lt_of_le this h4)
          have h6 : (2 : Nat) ^ 53 = 9007199254740992 := by decide
          rw [h6] at h5
          omega
        · rw [Nat.min_eq_right (by omega)]
          have h5 : m / 2 ^ (m.log2 + 2) = 0 := Nat.div_eq_of_lt (Nat.lt_of_lt_of_le this (Nat.pow_le_pow_right (by omega) (by omega)))
          omega
    clear hL
    generalize Toward.even.cut s (m <<< (p - L).toNat) (L - p).toNat = K at *
    have hl : (L - -1074).toNat ≤ (E + 1022).toNat := hlq
    exact near_end _ _ _ hl kb h0

theorem ex_of (x : Nat) (E : Int) (h0 : -1000 ≤ E) (h1 : E ≤ 1000) (h : ((rng x : Nat) : Int) ≤ (E + 1024) * 4503599627370496) : Ex x (E + 2) ∧ rng x < 9218868437227405312 := by
  refine ⟨?_, by omega⟩
  by_cases hr : rng x < 4503599627370496
  · refine ⟨sgn x, rng x, -1074, by rw [read_eq, if_pos hr], ?_⟩
    by_cases hz : rng x = 0
    · exact .inl hz
    · right
      have : 2 ^ (rng x).log2 ≤ rng x := Nat.log2_self_le hz
      have h2 : (rng x).log2 < 52 := (Nat.log2_lt hz).2 hr
      omega
  · refine ⟨sgn x, 4503599627370496 + rng x % 4503599627370496, -1074 + (rng x / 4503599627370496 - 1 : Nat), by rw [read_eq, if_neg hr, if_pos (by omega)], .inr ?_⟩
    have hl : (4503599627370496 + rng x % 4503599627370496).log2 < 53 := (Nat.log2_lt (by omega)).2 (by omega)
    omega

theorem log_mul (m n : Nat) (hm : m ≠ 0) (hn : n ≠ 0) : (m * n).log2 ≤ m.log2 + n.log2 + 1 := by
  have h1 : m < 2 ^ (m.log2 + 1) := Nat.lt_log2_self
  have h2 : n < 2 ^ (n.log2 + 1) := Nat.lt_log2_self
  have h3 : m * n < 2 ^ (m.log2 + 1) * 2 ^ (n.log2 + 1) := Nat.mul_lt_mul_of_lt_of_lt h1 h2
  rw [← Nat.pow_add] at h3
  have := (Nat.log2_lt (Nat.mul_ne_zero hm hn)).2 h3
  omega

theorem mul_ex {x y : Nat} {a b : Int} (hx : Ex x a) (hy : Ex y b) (h0 : -1000 ≤ a + b) (h1 : a + b ≤ 900) : Ex (opF .mul x y) (a + b + 3) ∧ rng (opF .mul x y) < 9218868437227405312 := by
  obtain ⟨s, m, i, e, hm⟩ := hx
  obtain ⟨t, n, j, e', hn⟩ := hy
  have ev : opF .mul x y = double.nearest (s ^^ t) (m * n) (i + j) := by
    show (double.mul x y).getD qn = _
    unfold Format.mul
    rw [e, e']
    rfl
  rw [ev]
  have hk : m * n = 0 ∨ i + j + ((m * n).log2 : Int) ≤ a + b + 1 := by
    by_cases m0 : m = 0
    · left; rw [m0]; simp
    · by_cases n0 : n = 0
      · left; rw [n0]; simp
      · right
        have := log_mul m n m0 n0
        rcases hm with hm | hm
        · exact absurd hm m0
        · rcases hn with hn | hn
          · exact absurd hn n0
          · omega
  have := ex_of _ (a + b + 1) (by omega) (by omega) (near_ex (s ^^ t) (m * n) (i + j) (a + b + 1) hk (by omega) (by omega))
  exact ⟨by rw [show a + b + 3 = a + b + 1 + 2 by omega]; exact this.1, this.2⟩

theorem shl_lt (m : Nat) (i base a : Int) (hb : base ≤ i) (h : m = 0 ∨ i + (m.log2 : Int) ≤ a) (hab : base ≤ a) : m * 2 ^ (i - base).toNat < 2 ^ ((a - base).toNat + 1) := by
  rcases h with h | h
  · rw [h, Nat.zero_mul]; exact Nat.two_pow_pos _
  · have h1 : m < 2 ^ (m.log2 + 1) := Nat.lt_log2_self
    have h3 : m * 2 ^ (i - base).toNat < 2 ^ (m.log2 + 1) * 2 ^ (i - base).toNat := Nat.mul_lt_mul_of_pos_right h1 (Nat.two_pow_pos _)
    rw [← Nat.pow_add] at h3
    exact Nat.lt_of_lt_of_le h3 (Nat.pow_le_pow_right (by omega) (by omega))

theorem add_ex {x y : Nat} {a : Int} (hx : Ex x a) (hy : Ex y a) (h0 : -1000 ≤ a) (h1 : a ≤ 900) : Ex (opF .add x y) (a + 3) ∧ rng (opF .add x y) < 9218868437227405312 := by
  obtain ⟨s, m, i, e, hm⟩ := hx
  obtain ⟨t, n, j, e', hn⟩ := hy
  obtain ⟨S, hS⟩ : ∃ S, S = signed s m (i - min i j).toNat + signed t n (j - min i j).toNat := ⟨_, rfl⟩
  have ev : opF .add x y = double.nearest (if S = 0 then s && t else decide (S < 0)) S.natAbs (min i j) := by
    show (double.add x y).getD qn = _
    unfold Format.add
    rw [e, e', hS]
    rfl
  rw [ev]
  have hk : S.natAbs = 0 ∨ min i j + (S.natAbs.log2 : Int) ≤ a + 1 := by
    by_cases z : S.natAbs = 0
    · exact .inl z
    · right
      by_cases hba : min i j ≤ a
      · have l1 := shl_lt m i (min i j) a (by omega) hm hba
        have l2 := shl_lt n j (min i j) a (by omega) hn hba
        have hb : S.natAbs < 2 ^ ((a - min i j).toNat + 1 + 1) := by
          rw [Nat.pow_succ]
          rw [signed_eq, signed_eq] at hS
          have k1 : (sg s (m * 2 ^ (i - min i j).toNat)).natAbs = m * 2 ^ (i - min i j).toNat := sg_abs _ _
          have k2 : (sg t (n * 2 ^ (j - min i j).toNat)).natAbs = n * 2 ^ (j - min i j).toNat := sg_abs _ _
          have := Int.natAbs_add_le (sg s (m * 2 ^ (i - min i j).toNat)) (sg t (n * 2 ^ (j - min i j).toNat))
          rw [← hS, k1, k2] at this
          omega
        have := (Nat.log2_lt z).2 hb
        omega
      · exfalso
        have m0 : m = 0 := by rcases hm with h | h; exact h; omega
        have n0 : n = 0 := by rcases hn with h | h; exact h; omega
        apply z
        rw [hS, m0, n0]
        cases s <;> cases t <;> simp [signed]
  have := ex_of _ (a + 1) (by omega) (by omega) (near_ex (if S = 0 then s && t else decide (S < 0)) S.natAbs (min i j) (a + 1) hk (by omega) (by omega))
  exact ⟨by rw [show a + 3 = a + 1 + 2 by omega]; exact this.1, this.2⟩
theorem Ex.mono {x : Nat} {a b : Int} (h : Ex x a) (hab : a ≤ b) : Ex x b := by
  obtain ⟨s, m, p, e, hm⟩ := h
  exact ⟨s, m, p, e, hm.imp id (fun h => by omega)⟩
theorem sub_ex {x y : Nat} {a : Int} (hx : Ex x a) (hy : Ex y a) (h0 : -1000 ≤ a) (h1 : a ≤ 900) : Ex (opF .sub x y) (a + 3) ∧ rng (opF .sub x y) < 9218868437227405312 := by
  obtain ⟨s, m, i, e, hm⟩ := hx
  obtain ⟨t, n, j, e', hn⟩ := hy
  obtain ⟨S, hS⟩ : ∃ S, S = signed s m (i - min i j).toNat + signed (!t) n (j - min i j).toNat := ⟨_, rfl⟩
  have ev : opF .sub x y = double.nearest (if S = 0 then s && !t else decide (S < 0)) S.natAbs (min i j) := by
    show (double.sub x y).getD qn = _
    unfold Format.sub
    rw [e, e', hS]
    rfl
  rw [ev]
  have hk : S.natAbs = 0 ∨ min i j + (S.natAbs.log2 : Int) ≤ a + 1 := by
    by_cases z : S.natAbs = 0
    · exact .inl z
    · right
      by_cases hba : min i j ≤ a
      · have l1 := shl_lt m i (min i j) a (by omega) hm hba
        have l2 := shl_lt n j (min i j) a (by omega) hn hba
        have hb : S.natAbs < 2 ^ ((a - min i j).toNat + 1 + 1) := by
          rw [Nat.pow_succ]
          rw [signed_eq, signed_eq] at hS
          have k1 : (sg s (m * 2 ^ (i - min i j).toNat)).natAbs = m * 2 ^ (i - min i j).toNat := sg_abs _ _
          have k2 : (sg (!t) (n * 2 ^ (j - min i j).toNat)).natAbs = n * 2 ^ (j - min i j).toNat := sg_abs _ _
          have := Int.natAbs_add_le (sg s (m * 2 ^ (i - min i j).toNat)) (sg (!t) (n * 2 ^ (j - min i j).toNat))
          rw [← hS, k1, k2] at this
          omega
        have := (Nat.log2_lt z).2 hb
        omega
      · exfalso
        have m0 : m = 0 := by rcases hm with h | h; exact h; omega
        have n0 : n = 0 := by rcases hn with h | h; exact h; omega
        apply z
        rw [hS, m0, n0]
        cases s <;> cases t <;> simp [signed]
  have := ex_of _ (a + 1) (by omega) (by omega) (near_ex (if S = 0 then s && !t else decide (S < 0)) S.natAbs (min i j) (a + 1) hk (by omega) (by omega))
  exact ⟨by rw [show a + 3 = a + 1 + 2 by omega]; exact this.1, this.2⟩

theorem tabk : ((List.range 12001).all fun c => c == 0 || (decide (4607182418800017408 ≤ floatOfInt .f64 (c : Int)) && decide (floatOfInt .f64 (c : Int) ≤ 4668012349850910720))) = true := by decide +kernel
theorem fi_full (a : Nat) (h1 : 1 ≤ a) (h2 : a ≤ 12000) : ∃ M k, double.read (fi (a : Int)) = .number false M (-1074 + ((k : Nat) : Int)) ∧ 4503599627370496 ≤ M ∧ M < 9007199254740992 ∧ 1022 ≤ k ∧ k ≤ 1035 := by
  have := List.all_eq_true.1 tabk a (List.mem_range.2 (by omega))
  simp at this
  obtain ⟨g1, g2⟩ : 4607182418800017408 ≤ fi (a : Int) ∧ fi (a : Int) ≤ 4668012349850910720 := by
    unfold fi; omega
  have hr : rng (fi (a : Int)) = fi (a : Int) := by unfold rng; omega
  have hs : sgn (fi (a : Int)) = false := by
    unfold sgn
    have : fi (a : Int) / 9223372036854775808 = 0 := Nat.div_eq_of_lt (by omega)
    rw [this]; rfl
  refine ⟨4503599627370496 + rng (fi (a : Int)) % 4503599627370496, rng (fi (a : Int)) / 4503599627370496 - 1, ?_, by omega, by omega, by omega, by omega⟩
  rw [read_eq, if_neg (by omega), if_pos (by omega), hs]
theorem log52 (M : Nat) (h1 : 4503599627370496 ≤ M) (h2 : M < 9007199254740992) : M.log2 = 52 := by
  have hm : M ≠ 0 := by omega
  have a : 52 ≤ M.log2 := (Nat.le_log2 hm).2 h1
  have b : M.log2 < 53 := (Nat.log2_lt hm).2 h2
  omega
theorem fi_nn (a : Nat) (h1 : 1 ≤ a) (h2 : a ≤ 12000) : nan (fi (a : Int)) = false := by
  obtain ⟨_, _, r1, _⟩ := fi_full a h1 h2
  cases q : nan (fi (a : Int))
  · rfl
  · obtain ⟨_, _, e⟩ := read_of_nan q
    rw [r1] at e
    cases e
theorem quo_fin (a b : Nat) (a1 : 1 ≤ a) (a2 : a ≤ 12000) (b1 : 1 ≤ b) (b2 : b ≤ 12000) : Ex (opF .quo (fi (a : Int)) (fi (b : Int))) 20 ∧ rng (opF .quo (fi (a : Int)) (fi (b : Int))) < 9218868437227405312 := by
  obtain ⟨M, k, e1, m1, m2, k1, k2⟩ := fi_full a a1 a2
  obtain ⟨N, j, e2, n1, n2, j1, j2⟩ := fi_full b b1 b2
  obtain ⟨D, hD⟩ : ∃ D, D = M * 18014398509481984 := ⟨_, rfl⟩
  obtain ⟨Q, hQ⟩ : ∃ Q, Q = 2 * (D / N) + (D % N != 0).toNat := ⟨_, rfl⟩
  have q2 : Q < 144115188075855872 := by
    have : D / N < 36028797018963968 := (Nat.div_lt_iff_lt_mul (by omega)).2 (by omega)
    have : (D % N != 0).toNat ≤ 1 := by cases (D % N != 0) <;> decide
    omega
  have hk : Q = 0 ∨ (-1074 + (k : Int)) - (-1074 + (j : Int)) - ((54 : Nat) : Int) - 1 + (Q.log2 : Int) ≤ 18 := by
    by_cases z : Q = 0
    · exact .inl z
    · right
      have : Q.log2 < 57 := (Nat.log2_lt z).2 q2
      omega
  have ed : double.div (fi (a : Int)) (fi (b : Int)) = some (double.nearest (false ^^ false) Q ((-1074 + (k : Int)) - (-1074 + (j : Int)) - ((54 : Nat) : Int) - 1)) := by
    generalize fi (a : Int) = fa at *
    generalize fi (b : Int) = fb at *
    show ((double.read fa).quotient (52 + 2) (double.read fb)).map double.write = _
    rw [e1, e2]
    have lm := log52 M m1 m2
    have ln := log52 N n1 n2
    have hD' : M <<< 54 = D := by rw [Nat.shiftLeft_eq, hD]
    simp only [Datum.quotient]
    rw [if_neg (by omega), lm, ln]
    show some (double.nearest (false ^^ false) (2 * ((M <<< 54) / N) + ((M <<< 54) % N != 0).toNat) ((-1074 + (k : Int)) - (-1074 + (j : Int)) - ((54 : Nat) : Int) - 1)) = _
    rw [hD', ← hQ]
  have ev : opF .quo (fi (a : Int)) (fi (b : Int)) = double.nearest (false ^^ false) Q ((-1074 + (k : Int)) - (-1074 + (j : Int)) - ((54 : Nat) : Int) - 1) := by
    generalize fi (a : Int) = fa at *
    generalize fi (b : Int) = fb at *
    have ed : floatBits .quo .f64 fa fb = some (double.nearest (false ^^ false) Q ((-1074 + (k : Int)) - (-1074 + (j : Int)) - ((54 : Nat) : Int) - 1)) := ed
    unfold opF
    rw [ed]
    rfl
  rw [ev]
  have := ex_of _ 18 (by omega) (by omega) (near_ex (false ^^ false) Q _ 18 hk (by omega) (by omega))
  exact this

theorem okF_ex {t : Nat} (h : okF t = true) : Ex t 9 ∧ rng t < 9218868437227405312 := by
  cases hk : kn t
  · rw [okF_unknown hk] at h; cases h
  · have hr := kn_lt hk
    have b : rng t ≤ 4641240890982006784 := by
      unfold okF at h
      rw [ord_key t lo (by omega) (by decide +kernel), ord_key t hi (by omega) (by decide +kernel), key_lo, key_hi] at h
      by_cases c : rng t ≤ 4641240890982006784
      · exact c
      · exfalso
        have kc : key t = (rng t : Int) ∨ key t = -(rng t : Int) := by
          unfold key sg
          cases sgn t
          · exact Or.inl rfl
          · exact Or.inr rfl
        rcases kc with e | e
        · rw [c_gt (by omega : (4641240890982006784 : Int) < key t)] at h; simp at h
        · rw [c_lt (by omega : key t < -4641240890982006784)] at h; simp at h
    exact ex_of t 7 (by omega) (by omega) (by omega)
theorem okAt_ex {L : Lv} {i : Nat} (h : okAt L i = true) : Ex (tOf L i) 9 ∧ rng (tOf L i) < 9218868437227405312 := by
  unfold okAt at h
  simp at h
  exact okF_ex h.2
theorem fin_nan {x : Nat} (h : rng x < 9218868437227405312) : nan x = false := decide_eq_false (by omega)
theorem bet_ex {a b p : Int} {s t : Nat} (hs : Ex s 9 ∧ rng s < 9218868437227405312) (ht : Ex t 9 ∧ rng t < 9218868437227405312) (h1 : b ≤ p) (h2 : p ≤ a) (hb : 1 ≤ b) (ha : a ≤ 12000) : Ex (bet a s b t p) 60 ∧ rng (bet a s b t p) < 9218868437227405312 := by
  have cs := cn_num (fin_nan hs.2)
  have ct := cn_num (fin_nan ht.2)
  unfold bet
  rw [cs, ct]
  by_cases e1 : p = a
  · rw [if_pos e1]; exact ⟨hs.1.mono (by omega), hs.2⟩
  · rw [if_neg e1]
    by_cases e2 : p = b
    · rw [if_pos e2]; exact ⟨ht.1.mono (by omega), ht.2⟩
    · rw [if_neg e2]
      have hl : lies a b p = true := by
        unfold lies inB ap
        simp
        by_cases c : a ≤ b
        · omega
        · simp [c]; omega
      rw [if_pos hl]
      obtain ⟨x, hx⟩ : ∃ x : Nat, (x : Int) = a - p := ⟨(a - p).toNat, by omega⟩
      obtain ⟨y, hy⟩ : ∃ y : Nat, (y : Int) = a - b := ⟨(a - b).toNat, by omega⟩
      rw [← hx, ← hy]
      have c1 : cn (fi (x : Int)) = fi (x : Int) := cn_num (fi_nn x (by omega) (by omega))
      have c2 : cn (fi (y : Int)) = fi (y : Int) := cn_num (fi_nn y (by omega) (by omega))
      rw [c1, c2]
      have q := quo_fin x y (by omega) (by omega) (by omega) (by omega)
      have d := sub_ex ht.1 hs.1 (by omega) (by omega)
      have m := mul_ex d.1 q.1 (by omega) (by omega)
      have f := add_ex (hs.1.mono (by omega : (9 : Int) ≤ 9 + 3 + 20 + 3)) m.1 (by omega) (by omega)
      exact ⟨f.1.mono (by omega), f.2⟩
theorem df_ex {L : Lv} {i j k : Nat} (ok : ∀ q, q < L.length → okAt L q = true) (hik : i ≤ k) (hkj : k ≤ j) (hj : j < L.length) : nan (bet (pOf L i) (tOf L i) (pOf L j) (tOf L j) (pOf L k)) = false ∧ floatBits .sub .f64 (tOf L k) (bet (pOf L i) (tOf L i) (pOf L j) (tOf L j) (pOf L k)) = some (df L i j k) ∧ nan (df L i j k) = false := by
  have f := okP_fit ok
  have mono : ∀ a c, a + c < L.length → pOf L (a + c) ≤ pOf L a := by
    intro a c
    induction c with
    | zero => intro _; exact Int.le_refl _
    | succ c ih =>
      intro h
      have := ih (by omega)
      have o := ok (a + c + 1) h
      unfold okAt okP inB at o
      simp at o
      have e : a + (c + 1) = a + c + 1 := rfl
      rw [e]
      omega
  have m1 := mono i (k - i) (by omega)
  have m2 := mono k (j - k) (by omega)
  rw [show i + (k - i) = k by omega] at m1
  rw [show k + (j - k) = j by omega] at m2
  have e0 := okAt_ex (ok i (by omega))
  have e1 := okAt_ex (ok j hj)
  have e2 := okAt_ex (ok k (by omega))
  have g := bet_ex e0 e1 m2 m1 (f j hj).1 (f i (by omega)).2
  have hsome : ∃ r, floatBits .sub .f64 (tOf L k) (bet (pOf L i) (tOf L i) (pOf L j) (tOf L j) (pOf L k)) = some r := by
    obtain ⟨_, _, _, r1, _⟩ := e2.1
    obtain ⟨_, _, _, r2, _⟩ := g.1
    show ∃ r, double.sub _ _ = some r
    unfold Format.sub
    rw [r1, r2]
    exact ⟨_, rfl⟩
  obtain ⟨r, hr⟩ := hsome
  have e : df L i j k = r := by
    unfold df opF
    rw [cn_num (fin_nan e2.2), hr]; rfl
  exact ⟨fin_nan g.2, by rw [e]; exact hr, by rw [e]; exact (bits_num _ hr).1⟩
end Go.Proofs.Ytjnjpbbpphklhaa.Flt
