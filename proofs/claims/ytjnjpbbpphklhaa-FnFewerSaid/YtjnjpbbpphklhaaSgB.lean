/- How far a level departs, in the model; a number without its sign. -/
import Derived.Test.YtjnjpbbpphklhaaSgF
import Derived.Laws.BitsAllLaws
namespace Go.Proofs.Ytjnjpbbpphklhaa.Flt
open Go.ChangeShapes Go.WideShapes Go.ChangeAt Go.RowKit
attribute [local go_sem] run_store_float

theorem run_bits27 (x : Nat) (w : World) : (callFunc 30 #[.float .f64 x]).run Try.prog w = .ok (.value (.int .u64 x)) w := by kernel_rfl
theorem run_from27 (n : Nat) (w : World) : (callFunc 34 #[.int .u64 (n : Int)]).run Try.prog w = .ok (.value (.float .f64 n)) w := by kernel_rfl
theorem notSign (x : Nat) (hx : x < 18446744073709551616) : bits .andNot .u64 (x : Int) 9223372036854775808 = ((rng x : Nat) : Int) := by
  have := u64_andNot_nat x 9223372036854775808 hx (by omega)
  rw [show (18446744073709551615 - 9223372036854775808 : Nat) = 2 ^ 63 - 1 by rfl, Nat.and_two_pow_sub_one_eq_mod] at this
  exact this
set_option maxHeartbeats 1000000 in
theorem abs_any (x : Nat) (w : World) (hx : x < 18446744073709551616) : Calls Try.prog 31 #[.float .f64 x] w fun e w' => e = .returned (.float .f64 (rng x)) ∧ w' = w := by
  have h1 := run_bits27 x
  have h2 := run_from27 (rng x)
  have h3 := notSign x hx
  go_enter Try.func31, Try.ntmps31
  go_wp2
  go_ret
  exact ⟨rfl, rfl⟩
theorem neg_sign (x : Nat) (hx : x < 18446744073709551616) (h : sgn x = true) : Op.negFloat .f64 x = rng x := by
  have hb : 9223372036854775808 ≤ x := by
    unfold sgn at h
    simp at h
    omega
  obtain ⟨r, rfl⟩ : ∃ r, x = 2 ^ 63 + r := ⟨x - 2 ^ 63, by omega⟩
  have hr : r < 2 ^ 63 := by omega
  have e : rng (2 ^ 63 + r) = r := by unfold rng; omega
  rw [e]
  show (2 ^ 63 + r) ^^^ 2 ^ 63 = r
  apply Nat.eq_of_testBit_eq
  intro i
  rw [Nat.testBit_xor, Nat.testBit_two_pow]
  by_cases c : i < 63
  · rw [Nat.testBit_two_pow_add_gt c]
    have : ¬ 63 = i := by omega
    simp [this]
  · by_cases d : i = 63
    · subst d
      rw [Nat.testBit_two_pow_add_eq, Nat.testBit_lt_two_pow hr]
      simp
    · have h1 : 2 ^ 64 ≤ 2 ^ i := Nat.pow_le_pow_right (by decide) (by omega)
      rw [Nat.testBit_lt_two_pow (by omega), Nat.testBit_lt_two_pow (by omega)]
      have : ¬ 63 = i := by omega
      simp [this]

theorem bet_bits {x y : Nat} (h : cn x = y) (hy : nan y = false) : x = y := by
  have : nan x = false := by rw [← nan_cn, h]; exact hy
  rw [← h, cn_num this]
theorem sbetN (a : Int) (s : Nat) (b : Int) (t : Nat) (p : Int) (w : World) (h : nan (bet a s b t p) = false) : Calls Try.prog 39 #[lv a s, lv b t, .int .i64 p] w fun e w' => e = .returned (.float .f64 (bet a s b t p)) ∧ Below w.heap.size w w' :=
  (sbet a s b t p w).mono fun e w' ⟨x, he, hx, hb⟩ => ⟨by rw [he, bet_bits hx h], hb⟩
theorem ibetN (a : Int) (s : Nat) (b : Int) (t : Nat) (p : Int) (w : World) (h : nan (bet a s b t p) = false) : Calls Try.prog 25 #[lv a s, lv b t, .int .i64 p] w fun e w' => e = .returned (.float .f64 (bet a s b t p)) ∧ Below w.heap.size w w' :=
  (ibet a s b t p w).mono fun e w' ⟨x, he, hx, hb⟩ => ⟨by rw [he, bet_bits hx h], hb⟩

theorem al_off {E : Nat} (hn : nan E = false) (h : (ord E 0 == some .lt) = false) : Al E (rng E) := by
  refine ⟨(nan_rng E).symm, fun _ => ?_⟩
  rw [key_rng]
  have rb : rng E ≤ 9218868437227405312 := by unfold nan at hn; simpa using hn
  rw [ord_key E 0 rb (by decide +kernel)] at h
  have k0 : key 0 = 0 := by decide +kernel
  rw [k0] at h
  have hk : 0 ≤ key E := by
    by_cases c : key E < 0
    · rw [c_lt c] at h; simp at h
    · omega
  have kc : key E = (rng E : Int) ∨ key E = -(rng E : Int) := by
    unfold key sg
    cases sgn E
    · exact Or.inl rfl
    · exact Or.inr rfl
  omega
theorem lt_sgn {E : Nat} (hn : nan E = false) (h : (ord E 0 == some .lt) = true) : sgn E = true := by
  have rb : rng E ≤ 9218868437227405312 := by unfold nan at hn; simpa using hn
  rw [ord_key E 0 rb (by decide +kernel)] at h
  have k0 : key 0 = 0 := by decide +kernel
  rw [k0] at h
  cases hs : sgn E
  · have : key E = (rng E : Int) := by unfold key sg; rw [hs]; rfl
    by_cases c : key E = 0
    · rw [c_eq c] at h; simp at h
    · rw [c_gt (by omega)] at h; simp at h
  · rfl

set_option maxHeartbeats 1000000 in
theorem off_any (w : World) (v : Value) (L : Lv) (i j k : Nat) (h : Reads w v L) (ok : ∀ q, q < L.length → okAt L q = true) (hik : i ≤ k) (hkj : k ≤ j) (hj : j < L.length) (hn : L.length ≤ 400) :
    Calls Try.prog 33 #[v, .int .i64 i, .int .i64 j, .int .i64 k] w fun e w' => ∃ x, e = .returned (.float .f64 x) ∧ Al x (dp L i j k) ∧ Below w.heap.size w w' := by
  rcases h with ⟨rfl, _⟩ | ⟨b, o, c, rfl, x1, x2, x3, x4⟩
  · simp at hj
  obtain ⟨nE, hsub, nD⟩ := df_ex ok hik hkj hj
  have hS : ∀ w, (binOp .sub 25 (.float .f64 (tOf L k)) (.float .f64 (bet (pOf L i) (tOf L i) (pOf L j) (tOf L j) (pOf L k)))).run Try.prog w = .ok (.float .f64 (df L i j k)) w := fun w => run_float_arith w .sub 25 .f64 _ _ _ hsub
  have q1 := (x4 i (by omega)).1
  have q2 := (x4 i (by omega)).2
  have q3 := (x4 j hj).1
  have q4 := (x4 j hj).2
  have q5 := (x4 k (by omega)).1
  have q6 := (x4 k (by omega)).2
  have ED : dp L i j k = rng (df L i j k) := by unfold dp; rw [nD]; rfl
  rw [ED]
  have HB : Hid (df L i j k < 18446744073709551616 ∧ nan (df L i j k) = false) := ⟨(bits_num _ hsub).2, nD⟩
  have NE : Hid (nan (bet (pOf L i) (tOf L i) (pOf L j) (tOf L j) (pOf L k)) = false) := nE
  clear ED nD hsub nE
  generalize df L i j k = D at *
  generalize tOf L i = t0 at *
  generalize pOf L i = p0 at *
  generalize tOf L j = t1 at *
  generalize pOf L j = p1 at *
  generalize tOf L k = t2 at *
  generalize pOf L k = p2 at *
  have SB : Hid (∀ w, Calls Try.prog 39 #[lv p0 t0, lv p1 t1, .int .i64 p2] w fun e w' => e = .returned (.float .f64 (bet p0 t0 p1 t1 p2)) ∧ Below w.heap.size w w') := fun w => sbetN p0 t0 p1 t1 p2 w NE.out
  generalize bet p0 t0 p1 t1 p2 = g at *
  obtain ⟨n, hnn⟩ : ∃ n, n = L.length := ⟨_, rfl⟩
  rw [← hnn] at x1 hj hn ⊢
  clear x4 hnn ok
  unfold maxLen at x2
  have a0 : (0 : Int) ≤ (i : Int) := by omega
  have a1 : (i : Int) < (n : Int) := by omega
  have a2 : (0 : Int) ≤ (j : Int) := by omega
  have a3 : (j : Int) < (n : Int) := by omega
  have a4 : (0 : Int) ≤ (k : Int) := by omega
  have a5 : (k : Int) < (n : Int) := by omega
  have n1 : b < w.heap.size := x3
  cases c1 : (ord D 0 == some .lt)
  · have AL : Hid (Al D (rng D)) := al_off HB.out.2 c1
    go_enter Try.func33, Try.ntmps33
    go_wp2_with fail
    go_region_held3 (fun w' => w'.cell? ⟨b, o + i * 2, none⟩ = some (.int .i64 p0) ∧ w'.cell? ⟨b, o + i * 2 + 1, none⟩ = some (.float .f64 t0) ∧ w'.cell? ⟨b, o + j * 2, none⟩ = some (.int .i64 p1) ∧ w'.cell? ⟨b, o + j * 2 + 1, none⟩ = some (.float .f64 t1) ∧ w'.cell? ⟨b, o + k * 2, none⟩ = some (.int .i64 p2) ∧ w'.cell? ⟨b, o + k * 2 + 1, none⟩ = some (.float .f64 t2)) (go_keep)
      (first
      | (go_at_call 39; refine (SB.out _).mono ?_; rintro e w3 ⟨rfl, hb3⟩; have r1 := (hb3.cell (p := ⟨b, o + i * 2, none⟩) n1).trans q1; have r2 := (hb3.cell (p := ⟨b, o + i * 2 + 1, none⟩) n1).trans q2; have r3 := (hb3.cell (p := ⟨b, o + j * 2, none⟩) n1).trans q3; have r4 := (hb3.cell (p := ⟨b, o + j * 2 + 1, none⟩) n1).trans q4; have r5 := (hb3.cell (p := ⟨b, o + k * 2, none⟩) n1).trans q5; have r6 := (hb3.cell (p := ⟨b, o + k * 2 + 1, none⟩) n1).trans q6))
    have B3 : Hid (Below w.heap.size w w3) := (Below.refl _ _).drew.trans hb3
    clear hb3
    go_wp2_with fail
    go_ret
    exact ⟨_, rfl, AL.out, B3.out⟩
  · have hneg : Op.unary .neg (.float .f64 D) = pure (.float .f64 (rng D)) := (by rw [← neg_sign D HB.out.1 (lt_sgn HB.out.2 c1)]; rfl)
    go_enter Try.func33, Try.ntmps33
    go_wp2_with fail
    go_region_held3 (fun w' => w'.cell? ⟨b, o + i * 2, none⟩ = some (.int .i64 p0) ∧ w'.cell? ⟨b, o + i * 2 + 1, none⟩ = some (.float .f64 t0) ∧ w'.cell? ⟨b, o + j * 2, none⟩ = some (.int .i64 p1) ∧ w'.cell? ⟨b, o + j * 2 + 1, none⟩ = some (.float .f64 t1) ∧ w'.cell? ⟨b, o + k * 2, none⟩ = some (.int .i64 p2) ∧ w'.cell? ⟨b, o + k * 2 + 1, none⟩ = some (.float .f64 t2)) (go_keep)
      (first
      | (go_at_call 39; refine (SB.out _).mono ?_; rintro e w3 ⟨rfl, hb3⟩; have r1 := (hb3.cell (p := ⟨b, o + i * 2, none⟩) n1).trans q1; have r2 := (hb3.cell (p := ⟨b, o + i * 2 + 1, none⟩) n1).trans q2; have r3 := (hb3.cell (p := ⟨b, o + j * 2, none⟩) n1).trans q3; have r4 := (hb3.cell (p := ⟨b, o + j * 2 + 1, none⟩) n1).trans q4; have r5 := (hb3.cell (p := ⟨b, o + k * 2, none⟩) n1).trans q5; have r6 := (hb3.cell (p := ⟨b, o + k * 2 + 1, none⟩) n1).trans q6))
    have B3 : Hid (Below w.heap.size w w3) := (Below.refl _ _).drew.trans hb3
    clear hb3
    go_wp2_with fail
    go_ret
    exact ⟨_, rfl, Al.refl _, B3.out⟩
end Go.Proofs.Ytjnjpbbpphklhaa.Flt
