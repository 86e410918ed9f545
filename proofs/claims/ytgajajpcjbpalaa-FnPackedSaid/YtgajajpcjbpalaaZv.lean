/- Zf, Zg -/
import Derived.Test.YtgajajpcjbpalaaFltY
import Derived.Test.YtgajajpcjbpalaaTen
import Derived.Test.YtgajajpcjbpalaaYa
/- Wholes as float64: z by a power of ten and back. -/
namespace Go.Proofs.Ytgajajpcjbpalaa.Fq
open Go.ChangeShapes Go.WideShapes Go.ChangeAt Go.RowKit Ieee
open Go.Proofs.Ytgajajpcjbpalaa.Flt Go.Proofs.Ytgajajpcjbpalaa.Fls



theorem rhe_off (n g : Nat) (hg : 0 < g) : 2 * (rhe n g * g) ≤ 2 * n + g ∧ 2 * n ≤ 2 * (rhe n g * g) + g := by
  have e := Nat.div_add_mod n g
  have l := Nat.mod_lt n hg
  unfold rhe
  rw [Nat.add_mul, Nat.mul_comm (n / g) g]
  generalize g * (n / g) = q at *
  generalize n % g = d at *
  split
  · rename_i h
    rw [Nat.one_mul]
    omega
  · rename_i h
    rw [Nat.zero_mul]
    have : ¬ g < 2 * d := fun x => h (.inl x)
    omega

theorem val_at (e M : Nat) (h1 : 4503599627370496 ≤ M) (h2 : M ≤ 9007199254740992) : val (e * 4503599627370496 + M) = M * 2 ^ e := by
  unfold val
  rw [if_neg (by omega)]
  by_cases c : M = 9007199254740992
  · subst c
    have a : (e * 4503599627370496 + 9007199254740992) % 4503599627370496 = 0 := by omega
    have b : (e * 4503599627370496 + 9007199254740992) / 4503599627370496 - 1 = e + 1 := by omega
    rw [a, b, Nat.pow_succ]
    omega
  · have a : (e * 4503599627370496 + M) % 4503599627370496 = M - 4503599627370496 := by omega
    have b : (e * 4503599627370496 + M) / 4503599627370496 - 1 = e := by omega
    have c2 : 4503599627370496 + (M - 4503599627370496) = M := by omega
    rw [a, b, c2]

/-- The nearest float64 to m 2^a (in the lowest unit), where it has all its digits: off by a part in 2^53 at most. -/
theorem near_off (s : Bool) (m a : Nat) (hm : m ≠ 0) (h : 52 ≤ a + m.log2) (hf : a + m.log2 < 2000) :
    ∃ r, double.nearest s m (-1074 + (a : Int)) = double.word s r ∧ r < 9218868437227405312 ∧ 9007199254740992 * val r ≤ 9007199254740993 * (m * 2 ^ a) ∧ 9007199254740991 * (m * 2 ^ a) ≤ 9007199254740992 * val r := by
  rw [near_high s m a hm h]
  obtain ⟨b1, b2⟩ := log_bounds m a hm
  obtain ⟨e, he⟩ : ∃ e, a + m.log2 - 52 = e := ⟨_, rfl⟩
  have e1 : a + m.log2 = e + 52 := by omega
  rw [he]
  rw [e1] at b1 b2
  generalize m * 2 ^ a = n at *
  have g0 : 0 < 2 ^ e := Nat.two_pow_pos e
  have p1 : 2 ^ (e + 52) = 4503599627370496 * 2 ^ e := by rw [Nat.pow_add, Nat.mul_comm]
  have p2 : 2 ^ (e + 52 + 1) = 9007199254740992 * 2 ^ e := by rw [Nat.add_assoc, Nat.pow_add, Nat.mul_comm]
  rw [p1] at b1
  rw [p2] at b2
  obtain ⟨o1, o2⟩ := rhe_off n (2 ^ e) g0
  have m1 : 4503599627370496 ≤ rhe n (2 ^ e) := by
    have : 4503599627370496 ≤ n / 2 ^ e := (Nat.le_div_iff_mul_le g0).2 b1
    unfold rhe
    omega
  have m2 : rhe n (2 ^ e) ≤ 9007199254740992 := by
    have : n / 2 ^ e < 9007199254740992 := (Nat.div_lt_iff_lt_mul g0).2 b2
    unfold rhe
    split <;> omega
  have hv := val_at e _ m1 m2
  generalize rhe n (2 ^ e) = M at *
  have hlt : e * 4503599627370496 + M < 9218868437227405312 := by omega
  refine ⟨e * 4503599627370496 + M, by rw [Nat.min_eq_left (by omega)], hlt, ?_, ?_⟩
  · rw [hv]; omega
  · rw [hv]; omega



/-- A float64 with all its digits: its digits and its place. -/
theorem read_full (x : Nat) (h1 : 4503599627370496 ≤ rng x) (h2 : rng x < 9218868437227405312) : ∃ M k, double.read x = .number (sgn x) M (-1074 + ((k : Nat) : Int)) ∧ 4503599627370496 ≤ M ∧ M < 9007199254740992 ∧ k = rng x / 4503599627370496 - 1 ∧ val (rng x) = M * 2 ^ k := by
  refine ⟨4503599627370496 + rng x % 4503599627370496, rng x / 4503599627370496 - 1, ?_, by omega, by omega, rfl, ?_⟩
  · rw [read_eq, if_neg (by omega), if_pos h2]
  · unfold val; rw [if_neg (by omega)]

theorem log52 (M : Nat) (h1 : 4503599627370496 ≤ M) (h2 : M < 9007199254740992) : M.log2 = 52 := by
  have hm : M ≠ 0 := by omega
  refine pow_between (Nat.log2_self_le hm) Nat.lt_log2_self ?_ ?_
  · exact h1
  · exact h2

theorem log_ge (m e : Nat) (h : 2 ^ e ≤ m) : e ≤ m.log2 := by
  have h0 := Nat.two_pow_pos e
  exact (Nat.le_log2 (by omega)).2 h
theorem log_lt (m e : Nat) (hm : m ≠ 0) (h : m < 2 ^ e) : m.log2 < e := (Nat.log2_lt hm).2 h

theorem U_pow : ∃ c, c = 1074 ∧ U = 2 ^ c := ⟨1074, rfl, U_eq⟩

theorem mul_off (x y : Nat) (hx1 : 4503599627370496 ≤ rng x) (hx2 : rng x < 9218868437227405312) (hy1 : 4503599627370496 ≤ rng y) (hy2 : rng y < 9218868437227405312)
    (hk : 1076 ≤ rng x / 4503599627370496 + rng y / 4503599627370496) (hk2 : rng x / 4503599627370496 + rng y / 4503599627370496 < 2900) :
    ∃ r, double.mul x y = some (double.word (sgn x ^^ sgn y) r) ∧ r < 9218868437227405312 ∧ 9007199254740992 * (val r * U) ≤ 9007199254740993 * (val (rng x) * val (rng y)) ∧ 9007199254740991 * (val (rng x) * val (rng y)) ≤ 9007199254740992 * (val r * U) := by
  obtain ⟨M, k, e1, m1, m2, hk1, v1⟩ := read_full x hx1 hx2
  obtain ⟨N, j, e2, n1, n2, hj1, v2⟩ := read_full y hy1 hy2
  obtain ⟨a, ha⟩ : ∃ a, k + j = a + 1074 := ⟨k + j - 1074, by omega⟩
  have hMN : 4503599627370496 * 4503599627370496 ≤ M * N := Nat.mul_le_mul m1 n1
  have hMN2 : M * N < 9007199254740992 * 9007199254740992 := Nat.mul_lt_mul_of_lt_of_lt m2 n2
  have l1 : 104 ≤ (M * N).log2 := log_ge _ _ hMN
  have l2 : (M * N).log2 < 106 := log_lt _ _ (by omega) hMN2
  obtain ⟨r, er, hr, o1, o2⟩ := near_off (sgn x ^^ sgn y) (M * N) a (by omega) (by omega) (by omega)
  have ep : (-1074 + (k : Int)) + (-1074 + (j : Int)) = -1074 + (a : Int) := by omega
  have ev : M * N * 2 ^ a * U = val (rng x) * val (rng y) := by
    obtain ⟨c, hc, hU⟩ := U_pow
    have ha' : a + c = k + j := by omega
    rw [v1, v2, hU, Nat.mul_assoc (M * N), ← Nat.pow_add, ha', Nat.pow_add]
    simp only [Nat.mul_assoc, Nat.mul_left_comm]
  refine ⟨r, ?_, hr, ?_, ?_⟩
  · show ((double.read x).product (double.read y)).map double.write = _
    rw [e1, e2]
    show some (double.nearest (sgn x ^^ sgn y) (M * N) ((-1074 + (k : Int)) + (-1074 + (j : Int)))) = _
    rw [ep, er]
  · rw [← ev]
    have := Nat.mul_le_mul_right U o1
    rw [Nat.mul_assoc, Nat.mul_assoc 9007199254740993] at this
    exact this
  · rw [← ev]
    have := Nat.mul_le_mul_right U o2
    rw [Nat.mul_assoc, Nat.mul_assoc 9007199254740992] at this
    exact this

theorem quo_close (D N : Nat) (hN : 0 < N) : (2 * (D / N) + (D % N != 0).toNat) * N ≤ 2 * D + N ∧ 2 * D ≤ (2 * (D / N) + (D % N != 0).toNat) * N + N := by
  have e := Nat.div_add_mod D N
  have l := Nat.mod_lt D hN
  have e2 : 2 * (D / N) * N = 2 * (N * (D / N)) := by rw [Nat.mul_assoc, Nat.mul_comm (D / N)]
  rw [Nat.add_mul, e2]
  generalize N * (D / N) = q at *
  by_cases h : D % N = 0
  · rw [h] at e ⊢
    simp
    omega
  · have : (D % N != 0) = true := by simpa using h
    rw [this]
    show 2 * q + 1 * N ≤ _ ∧ _
    rw [Nat.one_mul]
    generalize D % N = d at *
    constructor
    · omega
    · show 2 * D ≤ 2 * q + 1 * N + N
      omega

theorem div_off (x y : Nat) (hx1 : 4503599627370496 ≤ rng x) (hx2 : rng x < 9218868437227405312) (hy1 : 4503599627370496 ≤ rng y) (hy2 : rng y < 9218868437227405312)
    (hk : rng y / 4503599627370496 ≤ rng x / 4503599627370496 + 1000) (hk2 : rng x / 4503599627370496 < 800 + rng y / 4503599627370496) :
    ∃ r, double.div x y = some (double.word (sgn x ^^ sgn y) r) ∧ r < 9218868437227405312 ∧
      162259276829213363391578010288128 * (val r * val (rng y)) ≤ 9007199254740993 * 18014398509481985 * (val (rng x) * U) ∧ 9007199254740991 * 18014398509481983 * (val (rng x) * U) ≤ 162259276829213363391578010288128 * (val r * val (rng y)) := by
  obtain ⟨M, k, e1, m1, m2, hk1, v1⟩ := read_full x hx1 hx2
  obtain ⟨N, j, e2, n1, n2, hj1, v2⟩ := read_full y hy1 hy2
  obtain ⟨a, ha⟩ : ∃ a, a + j = 1019 + k := ⟨1019 + k - j, by omega⟩
  obtain ⟨D, hD⟩ : ∃ D, D = M * 18014398509481984 := ⟨_, rfl⟩
  obtain ⟨Q, hQ⟩ : ∃ Q, Q = 2 * (D / N) + (D % N != 0).toNat := ⟨_, rfl⟩
  obtain ⟨c1, c2⟩ := quo_close D N (by omega)
  rw [← hQ] at c1 c2
  have q1 : 18014398509481984 ≤ Q := by
    have : 9007199254740992 ≤ D / N := (Nat.le_div_iff_mul_le (by omega)).2 (by omega)
    omega
  have q2 : Q < 144115188075855872 := by
    have : D / N < 36028797018963968 := (Nat.div_lt_iff_lt_mul (by omega)).2 (by omega)
    have : (D % N != 0).toNat ≤ 1 := by cases (D % N != 0) <;> decide
    omega
  have l1 : 54 ≤ Q.log2 := log_ge _ _ q1
  have l2 : Q.log2 < 57 := log_lt _ _ (by omega) q2
  obtain ⟨r, er, hr, o1, o2⟩ := near_off (sgn x ^^ sgn y) Q a (by omega) (by omega) (by omega)
  have ep : (-1074 + (k : Int)) - (-1074 + (j : Int)) - ((54 : Nat) : Int) - 1 = -1074 + (a : Int) := by omega
  obtain ⟨W, hW⟩ : ∃ W, W = 2 ^ (a + j) := ⟨_, rfl⟩
  have f1 : Q * 2 ^ a * val (rng y) = Q * N * W := by
    rw [v2, hW, Nat.pow_add]
    simp only [Nat.mul_assoc, Nat.mul_left_comm]
  have f2 : 2 * D * W = val (rng x) * U := by
    obtain ⟨c, hc, hU⟩ := U_pow
    have h55 : 2 * D = M * 2 ^ 55 := by rw [hD]; omega
    have hs : 55 + (a + j) = k + c := by omega
    rw [h55, hW, v1, hU, Nat.mul_assoc, ← Nat.pow_add, hs, Nat.pow_add, Nat.mul_assoc]
  have f3 : 18014398509481984 * (N * W) ≤ 2 * D * W := by
    rw [← Nat.mul_assoc]
    exact Nat.mul_le_mul_right _ (by omega)
  have g1 := Nat.mul_le_mul_right W c1
  have g2 := Nat.mul_le_mul_right W c2
  rw [Nat.add_mul] at g1 g2
  have h1 := Nat.mul_le_mul_right (val (rng y)) o1
  have h2 := Nat.mul_le_mul_right (val (rng y)) o2
  rw [Nat.mul_assoc, Nat.mul_assoc 9007199254740993, f1] at h1
  rw [Nat.mul_assoc, Nat.mul_assoc 9007199254740992, f1] at h2
  rw [f2] at g1 g2 f3
  refine ⟨r, ?_, hr, ?_, ?_⟩
  · show ((double.read x).quotient (52 + 2) (double.read y)).map double.write = _
    rw [e1, e2]
    have lm := log52 M m1 m2
    have ln := log52 N n1 n2
    have hD' : M <<< 54 = D := by rw [Nat.shiftLeft_eq, hD]
    simp only [Datum.quotient]
    rw [if_neg (by omega), lm, ln]
    show some (double.nearest (sgn x ^^ sgn y) (2 * ((M <<< 54) / N) + ((M <<< 54) % N != 0).toNat) ((-1074 + (k : Int)) - (-1074 + (j : Int)) - ((54 : Nat) : Int) - 1)) = _
    rw [hD', ← hQ, ep, er]
  · generalize val r * val (rng y) = A at *
    generalize Q * N * W = B at *
    generalize N * W = C at *
    generalize val (rng x) * U = E at *
    omega
  · generalize val r * val (rng y) = A at *
    generalize Q * N * W = B at *
    generalize N * W = C at *
    generalize val (rng x) * U = E at *
    omega



theorem below_one : val 4607182418800017407 < U := by decide +kernel
theorem above_top : 1000000000000000 * U < val 4831355200913801217 := by decide +kernel
theorem at_low : 2097152 * val 4512606826625236992 = U := by decide +kernel
theorem at_high : val 4953959590107545600 = 151115727451828646838272 * U := by decide +kernel

theorem rng_of (r n : Nat) (h : val r = n * U) (h1 : 1 ≤ n) (h2 : n ≤ 1000000000000000) : 4607182418800017408 ≤ r ∧ r ≤ 4831355200913801216 := by
  have hU := U_pos
  have b1 := below_one
  have b2 := above_top
  have n1 : 1 * U ≤ n * U := Nat.mul_le_mul_right _ h1
  have n2 : n * U ≤ 1000000000000000 * U := Nat.mul_le_mul_right _ h2
  constructor
  · by_cases c : r ≤ 4607182418800017407
    · have := val_mono c
      omega
    · omega
  · by_cases c : 4831355200913801217 ≤ r
    · have := val_mono c
      omega
    · omega

theorem rhe_is (v n : Nat) (h1 : 2 * v < (2 * n + 1) * U) (h2 : 2 * n * U < 2 * v + U) : rhe v U = n := by
  have hU := U_pos
  obtain ⟨o1, o2⟩ := rhe_off v U hU
  generalize rhe v U = q at *
  have a : q < n + 1 := by
    have : q * U < (n + 1) * U := by
      rw [Nat.add_mul] at h1 ⊢
      rw [Nat.mul_assoc] at h1
      omega
    exact Nat.lt_of_mul_lt_mul_right this
  have b : n < q + 1 := by
    have : n * U < (q + 1) * U := by
      rw [Nat.add_mul]
      rw [Nat.mul_assoc] at h2
      omega
    exact Nat.lt_of_mul_lt_mul_right this
  omega

/-- x = s n, y = t: (x / y) * y lies within a half of n. -/
theorem back_pos (x y n t : Nat) (hx : rng x < 9218868437227405312) (hy : rng y < 9218868437227405312) (vx : val (rng x) = n * U) (vy : val (rng y) = t * U) (n1 : 1 ≤ n) (n2 : n ≤ 1000000000000000) (t1 : 1 ≤ t) (t2 : t ≤ 1000000) :
    ∃ q r, double.div x y = some q ∧ rng q < 9218868437227405312 ∧ double.mul q y = some (double.word ((sgn x ^^ sgn y) ^^ sgn y) r) ∧ r < 9218868437227405312 ∧ 2 * val r < (2 * n + 1) * U ∧ 2 * n * U < 2 * val r + U := by
  have hU := U_pos
  obtain ⟨x1, x2⟩ := rng_of _ n vx n1 n2
  obtain ⟨y1, y2⟩ := rng_of _ t vy t1 (by omega)
  obtain ⟨r1, e1, l1, a1, a2⟩ := div_off x y (by omega) hx (by omega) hy (by omega) (by omega)
  rw [vx, vy] at a1 a2
  have c1 : 162259276829213363391578010288128 * (val r1 * t) ≤ 9007199254740993 * 18014398509481985 * (n * U) := by
    refine Nat.le_of_mul_le_mul_right (c := U) ?_ hU
    rw [Nat.mul_assoc, Nat.mul_assoc (val r1), Nat.mul_assoc (9007199254740993 * 18014398509481985)]
    exact a1
  have c2 : 9007199254740991 * 18014398509481983 * (n * U) ≤ 162259276829213363391578010288128 * (val r1 * t) := by
    refine Nat.le_of_mul_le_mul_right (c := U) ?_ hU
    rw [Nat.mul_assoc 162259276829213363391578010288128, Nat.mul_assoc (val r1), Nat.mul_assoc (9007199254740991 * 18014398509481983)]
    exact a2
  have nu1 : 1 * U ≤ n * U := Nat.mul_le_mul_right _ n1
  have nu2 : n * U ≤ 1000000000000000 * U := Nat.mul_le_mul_right _ n2
  have vt1 : val r1 * 1 ≤ val r1 * t := Nat.mul_le_mul_left _ t1
  have vt2 : val r1 * t ≤ val r1 * 1000000 := Nat.mul_le_mul_left _ t2
  have lo := at_low
  have hi := at_high
  have rl : 4512606826625236992 ≤ r1 := by
    by_cases c : r1 ≤ 4512606826625236992
    · have := val_mono c
      omega
    · omega
  have rh : r1 ≤ 4953959590107545600 := by
    by_cases c : 4953959590107545600 ≤ r1
    · have := val_mono c
      omega
    · omega
  obtain ⟨s1, s2, s3⟩ := sgn_word (sgn x ^^ sgn y) r1 (by omega)
  obtain ⟨r2, e2, l2, b1, b2⟩ := mul_off (double.word (sgn x ^^ sgn y) r1) y (by omega) (by omega) (by omega) hy (by omega) (by omega)
  rw [s1] at e2
  rw [s2, vy] at b1 b2
  have d1 : 9007199254740992 * val r2 ≤ 9007199254740993 * (val r1 * t) := by
    refine Nat.le_of_mul_le_mul_right (c := U) ?_ hU
    rw [Nat.mul_assoc, Nat.mul_assoc 9007199254740993, Nat.mul_assoc (val r1)]
    exact b1
  have d2 : 9007199254740991 * (val r1 * t) ≤ 9007199254740992 * val r2 := by
    refine Nat.le_of_mul_le_mul_right (c := U) ?_ hU
    rw [Nat.mul_assoc, Nat.mul_assoc 9007199254740992, Nat.mul_assoc (val r1)]
    exact b2
  refine ⟨_, r2, e1, by rw [s2]; exact l1, e2, l2, ?_, ?_⟩
  · rw [Nat.add_mul, Nat.mul_assoc]
    clear e1 e2 a1 a2 b1 b2 lo hi s1 s2 s3
    generalize val r1 * t = A at *
    generalize n * U = E at *
    omega
  · rw [Nat.mul_assoc]
    clear e1 e2 a1 a2 b1 b2 lo hi s1 s2 s3
    generalize val r1 * t = A at *
    generalize n * U = E at *
    omega



def trip (z : Int) (p : Nat) : Option (Bool × Bool × Int) :=
  (double.div (floatOfInt .f64 z) (tenF p)).bind fun q => (double.mul q (tenF p)).map fun m => (decide (rng q < 9218868437227405312), decide (rng m ≤ 4831355200913801216), near m)

theorem of_trip (z : Int) (p : Nat) (h : trip z p = some (true, true, z)) : ∃ q m, double.div (floatOfInt .f64 z) (tenF p) = some q ∧ double.mul q (tenF p) = some m ∧ rng q < 9218868437227405312 ∧ rng m ≤ 4831355200913801216 ∧ near m = z := by
  unfold trip at h
  cases h1 : double.div (floatOfInt .f64 z) (tenF p) with
  | none => rw [h1] at h; cases h
  | some q =>
    rw [h1] at h
    cases h2 : double.mul q (tenF p) with
    | none =>
      have h' : (double.mul q (tenF p)).map (fun m => (decide (rng q < 9218868437227405312), decide (rng m ≤ 4831355200913801216), near m)) = some (true, true, z) := h
      rw [h2] at h'; cases h'
    | some m =>
      have h' : (double.mul q (tenF p)).map (fun m => (decide (rng q < 9218868437227405312), decide (rng m ≤ 4831355200913801216), near m)) = some (true, true, z) := h
      rw [h2] at h'
      have h3 := Option.some.inj h'
      have a := congrArg (fun t => t.1) h3
      have b := congrArg (fun t => t.2.1) h3
      have c := congrArg (fun t => t.2.2) h3
      exact ⟨q, m, rfl, h2, of_decide_eq_true a, of_decide_eq_true b, c⟩

theorem trip_edge (z : Int) (p : Nat) (hp : p ≤ 6) (hz : z = 0 ∨ z = 1000000000000000 ∨ z = -1000000000000000) : trip z p = some (true, true, z) := by
  rcases (by omega : p = 0 ∨ p = 1 ∨ p = 2 ∨ p = 3 ∨ p = 4 ∨ p = 5 ∨ p = 6) with rfl | rfl | rfl | rfl | rfl | rfl | rfl <;> rcases hz with rfl | rfl | rfl <;> decide +kernel

theorem ten_val (p : Nat) (hp : p ≤ 6) : val (rng (tenF p)) = 10 ^ p * U ∧ sgn (tenF p) = false ∧ rng (tenF p) < 9218868437227405312 := by
  rcases (by omega : p = 0 ∨ p = 1 ∨ p = 2 ∨ p = 3 ∨ p = 4 ∨ p = 5 ∨ p = 6) with rfl | rfl | rfl | rfl | rfl | rfl | rfl <;> decide +kernel
theorem ten_le (p : Nat) (hp : p ≤ 6) : 1 ≤ 10 ^ p ∧ 10 ^ p ≤ 1000000 := by
  rcases (by omega : p = 0 ∨ p = 1 ∨ p = 2 ∨ p = 3 ∨ p = 4 ∨ p = 5 ∨ p = 6) with rfl | rfl | rfl | rfl | rfl | rfl | rfl <;> decide

theorem back (z : Int) (p : Nat) (hz : z.natAbs ≤ 1000000000000000) (hp : p ≤ 6) : ∃ q m, double.div (floatOfInt .f64 z) (tenF p) = some q ∧ double.mul q (tenF p) = some m ∧ rng q < 9218868437227405312 ∧ rng m ≤ 4831355200913801216 ∧ near m = z := by
  by_cases he : z = 0 ∨ z = 1000000000000000 ∨ z = -1000000000000000
  · exact of_trip z p (trip_edge z p hp he)
  · have hU := U_pos
    obtain ⟨f1, f2, f3⟩ := fl_num z (by omega)
    obtain ⟨t1, t2, t3⟩ := ten_val p hp
    obtain ⟨p1, p2⟩ := ten_le p hp
    have key : val (rng (floatOfInt .f64 z)) = z.natAbs * U ∧ sgn (floatOfInt .f64 z) = decide (z < 0) := by
      rcases num_cases (floatOfInt .f64 z) with ⟨a, b⟩ | ⟨a, b⟩
      · rw [f2] at b
        have z0 : 0 ≤ z := by
          by_cases c : z < 0
          · have : z * (U : Int) < 0 := Int.mul_neg_of_neg_of_pos c (by omega)
            omega
          · omega
        obtain ⟨n, rfl⟩ : ∃ n : Nat, z = n := ⟨z.toNat, by omega⟩
        refine ⟨?_, by rw [a, decide_eq_false (by omega)]⟩
        have : ((n * U : Nat) : Int) = ((val (rng (floatOfInt .f64 n)) : Nat) : Int) := by rw [Int.natCast_mul]; exact b
        have := Int.ofNat.inj this
        simp only [Int.natAbs_natCast]
        exact this.symm
      · rw [f2] at b
        have z0 : z < 0 := by
          by_cases c : 0 < z
          · have : 0 < z * (U : Int) := Int.mul_pos c (by omega)
            omega
          · omega
        obtain ⟨n, rfl⟩ : ∃ n : Nat, z = -(n : Int) := ⟨z.natAbs, by omega⟩
        refine ⟨?_, by rw [a, decide_eq_true z0]⟩
        have b' : (n : Int) * (U : Int) = (val (rng (floatOfInt .f64 (-(n : Int)))) : Int) := by
          rw [Int.neg_mul] at b
          omega
        have : ((n * U : Nat) : Int) = ((val (rng (floatOfInt .f64 (-(n : Int)))) : Nat) : Int) := by rw [Int.natCast_mul]; exact b'
        have := Int.ofNat.inj this
        simp only [Int.natAbs_neg, Int.natAbs_natCast]
        exact this.symm
    obtain ⟨q, r, e1, lq, e2, l, c1, c2⟩ := back_pos (floatOfInt .f64 z) (tenF p) z.natAbs (10 ^ p) f1 t3 key.1 t1 (by omega) hz p1 p2
    rw [t2] at e2
    have es : ((sgn (floatOfInt .f64 z) ^^ false) ^^ false) = decide (z < 0) := by rw [key.2]; simp
    rw [es] at e2
    obtain ⟨s1, s2, _⟩ := sgn_word (decide (z < 0)) r (by omega)
    refine ⟨q, _, e1, e2, lq, ?_, ?_⟩
    · rw [s2]
      by_cases c : 4831355200913801216 ≤ r
      · have v := val_mono c
        rw [val_top] at v
        have : (2 * z.natAbs + 1) * U ≤ 1999999999999999 * U := Nat.mul_le_mul_right _ (by omega)
        omega
      · omega
    · unfold near
      rw [s1, s2, rhe_is _ _ c1 c2]
      unfold sg
      by_cases c : z < 0
      · rw [decide_eq_true c]; simp; omega
      · rw [decide_eq_false c]; simp; omega

theorem above_topX : 9007199254740991 * U < val 4845873199050653697 := by decide +kernel
theorem rng_ofX (r n : Nat) (h : val r = n * U) (h1 : 1 ≤ n) (h2 : n ≤ 9007199254740991) : 4607182418800017408 ≤ r ∧ r ≤ 4845873199050653696 := by
  have hU := U_pos
  have b1 := below_one
  have b2 := above_topX
  have n1 : 1 * U ≤ n * U := Nat.mul_le_mul_right _ h1
  have n2 : n * U ≤ 9007199254740991 * U := Nat.mul_le_mul_right _ h2
  constructor
  · by_cases c : r ≤ 4607182418800017407
    · have := val_mono c
      omega
    · omega
  · by_cases c : 4845873199050653697 ≤ r
    · have := val_mono c
      omega
    · omega

theorem fi_word (n : Nat) (h : n < 9007199254740992) : ∃ r, fi (n : Int) = double.word false r ∧ val r = n * U ∧ r < 9218868437227405312 := by
  obtain ⟨r, h1, h2, h3⟩ := whole false n h
  refine ⟨r, ?_, h2, h3⟩
  rw [← h1]
  rfl
theorem fi_rng (n : Nat) (h1 : 1 ≤ n) (h2 : n ≤ 9007199254740991) : ∃ r, fi (n : Int) = double.word false r ∧ rng (fi (n : Int)) = r ∧ sgn (fi (n : Int)) = false ∧ val r = n * U ∧ 4607182418800017408 ≤ r ∧ r ≤ 4845873199050653696 := by
  obtain ⟨r, e1, e2, e3⟩ := fi_word n (by omega)
  obtain ⟨s1, s2, s3⟩ := sgn_word false r (by omega)
  obtain ⟨g1, g2⟩ := rng_ofX r n e2 h1 h2
  exact ⟨r, e1, by rw [e1]; exact s2, by rw [e1]; exact s1, e2, g1, g2⟩

theorem mul_exact (n t : Nat) (n1 : 1 ≤ n) (t1 : 1 ≤ t) (nt : n * t ≤ 9007199254740991) : double.mul (fi (n : Int)) (fi (t : Int)) = some (fi ((n * t : Nat) : Int)) := by
  have n2 : n ≤ 9007199254740991 := Nat.le_trans (Nat.le_mul_of_pos_right n t1) nt
  have t2 : t ≤ 9007199254740991 := Nat.le_trans (Nat.le_mul_of_pos_left t n1) nt
  obtain ⟨rx, ex, rx1, sx, vx, gx1, gx2⟩ := fi_rng n n1 n2
  obtain ⟨ry, ey, ry1, sy, vy, gy1, gy2⟩ := fi_rng t t1 t2
  obtain ⟨rz, ez, vz, gz⟩ := fi_word (n * t) (by omega)
  obtain ⟨M, k, e1, m1, m2, hk1, v1⟩ := read_full (fi (n : Int)) (by omega) (by omega)
  obtain ⟨N, j, e2, n1', n2', hj1, v2⟩ := read_full (fi (t : Int)) (by omega) (by omega)
  obtain ⟨a, ha⟩ : ∃ a, k + j = a + 1074 := ⟨k + j - 1074, by omega⟩
  have ep : (-1074 + (k : Int)) + (-1074 + (j : Int)) = -1074 + (a : Int) := by omega
  have ev : M * N * 2 ^ a = val rz := by
    obtain ⟨c, hc, hU⟩ := U_pow
    have ha' : a + c = k + j := by omega
    have hUp : 0 < U := U_pos
    refine Nat.eq_of_mul_eq_mul_right hUp ?_
    have l : M * N * 2 ^ a * U = val (rng (fi (n : Int))) * val (rng (fi (t : Int))) := by
      rw [v1, v2, hU, Nat.mul_assoc (M * N), ← Nat.pow_add, ha', Nat.pow_add]
      simp only [Nat.mul_assoc, Nat.mul_left_comm]
    rw [l, rx1, ry1, vx, vy, vz]
    simp only [Nat.mul_assoc, Nat.mul_left_comm]
  show ((double.read (fi (n : Int))).product (double.read (fi (t : Int)))).map double.write = _
  rw [e1, e2, sx, sy]
  show some (double.nearest (false ^^ false) (M * N) ((-1074 + (k : Int)) + (-1074 + (j : Int)))) = _
  rw [ep, ez, near_exact _ _ _ _ ev gz]
  rfl

theorem div_exact (n t : Nat) (n1 : 1 ≤ n) (t1 : 1 ≤ t) (nt : n * t ≤ 9007199254740991) : double.div (fi ((n * t : Nat) : Int)) (fi (t : Int)) = some (fi (n : Int)) := by
  have n2 : n ≤ 9007199254740991 := Nat.le_trans (Nat.le_mul_of_pos_right n t1) nt
  have t2 : t ≤ 9007199254740991 := Nat.le_trans (Nat.le_mul_of_pos_left t n1) nt
  obtain ⟨rx, ex, rx1, sx, vx, gx1, gx2⟩ := fi_rng (n * t) (Nat.mul_pos n1 t1) nt
  obtain ⟨ry, ey, ry1, sy, vy, gy1, gy2⟩ := fi_rng t t1 t2
  obtain ⟨rz, ez, vz, gz⟩ := fi_word n (by omega)
  obtain ⟨M, k, e1, m1, m2, hk1, v1⟩ := read_full (fi ((n * t : Nat) : Int)) (by omega) (by omega)
  obtain ⟨N, j, e2, n1', n2', hj1, v2⟩ := read_full (fi (t : Int)) (by omega) (by omega)
  have hUp : 0 < U := U_pos
  have hMN : M * 2 ^ k = n * (N * 2 ^ j) := by
    rw [← v1, ← v2, rx1, ry1, vx, vy, Nat.mul_assoc]
  have hjk : j ≤ k := by
    have h1 : val (rng (fi (t : Int))) ≤ val (rng (fi ((n * t : Nat) : Int))) := by
      rw [rx1, ry1, vx, vy]
      exact Nat.mul_le_mul_right _ (Nat.le_mul_of_pos_left t n1)
    have h2 : rng (fi (t : Int)) ≤ rng (fi ((n * t : Nat) : Int)) := by
      by_cases c : rng (fi (t : Int)) ≤ rng (fi ((n * t : Nat) : Int))
      · exact c
      · have := val_lt (by omega : rng (fi ((n * t : Nat) : Int)) < rng (fi (t : Int)))
        omega
    omega
  obtain ⟨d, hd⟩ : ∃ d, k = j + d := ⟨k - j, by omega⟩
  have hn : M * 2 ^ d = n * N := by
    have p : 0 < 2 ^ j := Nat.two_pow_pos j
    refine Nat.eq_of_mul_eq_mul_right p ?_
    rw [hd, Nat.pow_add] at hMN
    have e : M * 2 ^ d * 2 ^ j = M * (2 ^ j * 2 ^ d) := by rw [Nat.mul_assoc, Nat.mul_comm (2 ^ d)]
    rw [e, hMN]
    simp only [Nat.mul_assoc]
  have d54 : d ≤ 54 := by
    by_cases c : d ≤ 54
    · exact c
    · have h1 : 2 ^ 55 ≤ 2 ^ d := Nat.pow_le_pow_right (by decide) (by omega)
      have h2 : 4503599627370496 * 2 ^ 55 ≤ M * 2 ^ d := Nat.mul_le_mul m1 h1
      have h3 : n * N ≤ 9007199254740991 * 9007199254740992 := Nat.mul_le_mul n2 (by omega)
      omega
  obtain ⟨c54, hc⟩ : ∃ c, d + c = 54 := ⟨54 - d, by omega⟩
  have hD : M <<< 54 = n * 2 ^ c54 * N := by
    rw [Nat.shiftLeft_eq, ← hc, Nat.pow_add, ← Nat.mul_assoc, hn, Nat.mul_assoc, Nat.mul_comm N, ← Nat.mul_assoc]
  have hdiv : (M <<< 54) / N = n * 2 ^ c54 := by rw [hD]; exact Nat.mul_div_cancel _ (by omega)
  have hmod : (M <<< 54) % N = 0 := by rw [hD]; exact Nat.mul_mod_left _ _
  obtain ⟨a, ha⟩ : ∃ a, a + j = 1019 + k := ⟨1019 + k - j, by omega⟩
  have ep : (-1074 + (k : Int)) - (-1074 + (j : Int)) - ((54 : Nat) : Int) - 1 = -1074 + (a : Int) := by omega
  have ev : (2 * (n * 2 ^ c54)) * 2 ^ a = val rz := by
    obtain ⟨c, hcc, hU⟩ := U_pow
    have hs : 1 + c54 + a = c := by omega
    rw [vz, hU, ← hs, Nat.pow_add, Nat.pow_add]
    simp only [Nat.pow_one, Nat.mul_assoc, Nat.mul_left_comm]
  show ((double.read (fi ((n * t : Nat) : Int))).quotient (52 + 2) (double.read (fi (t : Int)))).map double.write = _
  rw [e1, e2, sx, sy]
  have lm := log52 M m1 m2
  have ln := log52 N n1' n2'
  simp only [Datum.quotient]
  rw [if_neg (by omega), lm, ln]
  show some (double.nearest (false ^^ false) (2 * ((M <<< 54) / N) + ((M <<< 54) % N != 0).toNat) ((-1074 + (k : Int)) - (-1074 + (j : Int)) - ((54 : Nat) : Int) - 1)) = _
  rw [hdiv, hmod, ep, ez]
  show some (double.nearest (false ^^ false) (2 * (n * 2 ^ c54)) (-1074 + (a : Int))) = _
  rw [near_exact _ _ _ _ ev gz]
  rfl


end Go.Proofs.Ytgajajpcjbpalaa.Fq

/- Products and quotients of wholes that are whole are exact, whatever the signs. -/
namespace Go.Proofs.Ytgajajpcjbpalaa.Fq
open Go.ChangeShapes Go.WideShapes Go.ChangeAt Go.RowKit Ieee
open Go.Proofs.Ytgajajpcjbpalaa.Flt Go.Proofs.Ytgajajpcjbpalaa.Fls

theorem mul_ex (x y n t : Nat) (vx : val (rng x) = n * U) (vy : val (rng y) = t * U) (n1 : 1 ≤ n) (t1 : 1 ≤ t) (nt : n * t ≤ 9007199254740991) : ∃ r, double.mul x y = some (double.word (sgn x ^^ sgn y) r) ∧ val r = n * t * U ∧ r < 9218868437227405312 := by
  have n2 : n ≤ 9007199254740991 := Nat.le_trans (Nat.le_mul_of_pos_right n t1) nt
  have t2 : t ≤ 9007199254740991 := Nat.le_trans (Nat.le_mul_of_pos_left t n1) nt
  obtain ⟨gx1, gx2⟩ := rng_ofX (rng x) n vx n1 n2
  obtain ⟨gy1, gy2⟩ := rng_ofX (rng y) t vy t1 t2
  obtain ⟨rz, ez, vz, gz⟩ := fi_word (n * t) (by omega)
  obtain ⟨M, k, e1, m1, m2, hk1, v1⟩ := read_full (x) (by omega) (by omega)
  obtain ⟨N, j, e2, n1', n2', hj1, v2⟩ := read_full (y) (by omega) (by omega)
  obtain ⟨a, ha⟩ : ∃ a, k + j = a + 1074 := ⟨k + j - 1074, by omega⟩
  have ep : (-1074 + (k : Int)) + (-1074 + (j : Int)) = -1074 + (a : Int) := by omega
  have ev : M * N * 2 ^ a = val rz := by
    obtain ⟨c, hc, hU⟩ := U_pow
    have ha' : a + c = k + j := by omega
    have hUp : 0 < U := U_pos
    refine Nat.eq_of_mul_eq_mul_right hUp ?_
    have l : M * N * 2 ^ a * U = val (rng (x)) * val (rng (y)) := by
      rw [v1, v2, hU, Nat.mul_assoc (M * N), ← Nat.pow_add, ha', Nat.pow_add]
      simp only [Nat.mul_assoc, Nat.mul_left_comm]
    rw [l, vx, vy, vz]
    simp only [Nat.mul_assoc, Nat.mul_left_comm]
  refine ⟨rz, ?_, vz, gz⟩
  show ((double.read (x)).product (double.read (y))).map double.write = _
  rw [e1, e2]
  show some (double.nearest (sgn x ^^ sgn y) (M * N) ((-1074 + (k : Int)) + (-1074 + (j : Int)))) = _
  rw [ep, near_exact _ _ _ _ ev gz]

theorem div_ex (x y n t : Nat) (vx : val (rng x) = n * t * U) (vy : val (rng y) = t * U) (n1 : 1 ≤ n) (t1 : 1 ≤ t) (nt : n * t ≤ 9007199254740991) : ∃ r, double.div x y = some (double.word (sgn x ^^ sgn y) r) ∧ val r = n * U ∧ r < 9218868437227405312 := by
  have n2 : n ≤ 9007199254740991 := Nat.le_trans (Nat.le_mul_of_pos_right n t1) nt
  have t2 : t ≤ 9007199254740991 := Nat.le_trans (Nat.le_mul_of_pos_left t n1) nt
  obtain ⟨gx1, gx2⟩ := rng_ofX (rng x) (n * t) vx (Nat.mul_pos n1 t1) nt
  obtain ⟨gy1, gy2⟩ := rng_ofX (rng y) t vy t1 t2
  obtain ⟨rz, ez, vz, gz⟩ := fi_word n (by omega)
  obtain ⟨M, k, e1, m1, m2, hk1, v1⟩ := read_full (x) (by omega) (by omega)
  obtain ⟨N, j, e2, n1', n2', hj1, v2⟩ := read_full (y) (by omega) (by omega)
  have hUp : 0 < U := U_pos
  have hMN : M * 2 ^ k = n * (N * 2 ^ j) := by
    rw [← v1, ← v2, vx, vy, Nat.mul_assoc]
  have hjk : j ≤ k := by
    have h1 : val (rng (y)) ≤ val (rng (x)) := by
      rw [vx, vy]
      exact Nat.mul_le_mul_right _ (Nat.le_mul_of_pos_left t n1)
    have h2 : rng (y) ≤ rng (x) := by
      by_cases c : rng (y) ≤ rng (x)
      · exact c
      · have := val_lt (by omega : rng (x) < rng (y))
        omega
    omega
  obtain ⟨d, hd⟩ : ∃ d, k = j + d := ⟨k - j, by omega⟩
  have hn : M * 2 ^ d = n * N := by
    have p : 0 < 2 ^ j := Nat.two_pow_pos j
    refine Nat.eq_of_mul_eq_mul_right p ?_
    rw [hd, Nat.pow_add] at hMN
    have e : M * 2 ^ d * 2 ^ j = M * (2 ^ j * 2 ^ d) := by rw [Nat.mul_assoc, Nat.mul_comm (2 ^ d)]
    rw [e, hMN]
    simp only [Nat.mul_assoc]
  have d54 : d ≤ 54 := by
    by_cases c : d ≤ 54
    · exact c
    · have h1 : 2 ^ 55 ≤ 2 ^ d := Nat.pow_le_pow_right (by decide) (by omega)
      have h2 : 4503599627370496 * 2 ^ 55 ≤ M * 2 ^ d := Nat.mul_le_mul m1 h1
      have h3 : n * N ≤ 9007199254740991 * 9007199254740992 := Nat.mul_le_mul n2 (by omega)
      omega
  obtain ⟨c54, hc⟩ : ∃ c, d + c = 54 := ⟨54 - d, by omega⟩
  have hD : M <<< 54 = n * 2 ^ c54 * N := by
    rw [Nat.shiftLeft_eq, ← hc, Nat.pow_add, ← Nat.mul_assoc, hn, Nat.mul_assoc, Nat.mul_comm N, ← Nat.mul_assoc]
  have hdiv : (M <<< 54) / N = n * 2 ^ c54 := by rw [hD]; exact Nat.mul_div_cancel _ (by omega)
  have hmod : (M <<< 54) % N = 0 := by rw [hD]; exact Nat.mul_mod_left _ _
  obtain ⟨a, ha⟩ : ∃ a, a + j = 1019 + k := ⟨1019 + k - j, by omega⟩
  have ep : (-1074 + (k : Int)) - (-1074 + (j : Int)) - ((54 : Nat) : Int) - 1 = -1074 + (a : Int) := by omega
  have ev : (2 * (n * 2 ^ c54)) * 2 ^ a = val rz := by
    obtain ⟨c, hcc, hU⟩ := U_pow
    have hs : 1 + c54 + a = c := by omega
    rw [vz, hU, ← hs, Nat.pow_add, Nat.pow_add]
    simp only [Nat.pow_one, Nat.mul_assoc, Nat.mul_left_comm]
  refine ⟨rz, ?_, vz, gz⟩
  show ((double.read (x)).quotient (52 + 2) (double.read (y))).map double.write = _
  rw [e1, e2]
  have lm := log52 M m1 m2
  have ln := log52 N n1' n2'
  simp only [Datum.quotient]
  rw [if_neg (by omega), lm, ln]
  show some (double.nearest (sgn x ^^ sgn y) (2 * ((M <<< 54) / N) + ((M <<< 54) % N != 0).toNat) ((-1074 + (k : Int)) - (-1074 + (j : Int)) - ((54 : Nat) : Int) - 1)) = _
  rw [hdiv, hmod, ep]
  show some (double.nearest (sgn x ^^ sgn y) (2 * (n * 2 ^ c54)) (-1074 + (a : Int))) = _
  rw [near_exact _ _ _ _ ev gz]

end Go.Proofs.Ytgajajpcjbpalaa.Fq
