/- Humidity, in the program and in its model; the law FnExactHumidity walked. -/
import Derived.Test.YtlibkdamfhlceaaFin
namespace Go.Proofs.Ytlibkdamfhlceaa.Flt
open Go.ChangeShapes Go.WideShapes Go.ChangeAt Go.RowKit

theorem inR_key (t : Nat) (h : inR t = true) : rng t ≤ 4632233691727265792 := by
  by_cases hn : nan t = true
  · have e : ord t 13855605728582041600 = none := order_nan _ _ (.inl (by unfold nan at hn; simpa using hn))
    unfold inR at h
    rw [e] at h
    exact absurd h (by simp)
  · have hr : rng t ≤ 9218868437227405312 := by unfold nan at hn; simpa using hn
    have e1 : ord t 13855605728582041600 = some (compare (key t) (-4632233691727265792)) := order_key t 13855605728582041600 hr (by decide)
    have e2 : ord t 4632233691727265792 = some (compare (key t) 4632233691727265792) := order_key t 4632233691727265792 hr (by decide)
    unfold inR at h
    rw [e1, e2] at h
    have a1 : -4632233691727265792 ≤ key t := by
      by_cases c : key t < -4632233691727265792
      · rw [c_lt c] at h; exact absurd h (by simp)
      · omega
    have a2 : key t ≤ 4632233691727265792 := by
      by_cases c : 4632233691727265792 < key t
      · rw [c_gt c] at h; exact absurd h (by simp)
      · omega
    unfold key at a1 a2
    cases hs : sgn t <;> rw [hs] at a1 a2 <;> simp [sg] at a1 a2 <;> omega

theorem co_rng : ∀ k, rng (co k) ≤ 4618562789834491187
  | 0 => by decide +kernel
  | 1 => by decide +kernel
  | 2 => by decide +kernel
  | 3 => by decide +kernel
  | 4 => by decide +kernel
  | _ + 5 => by show rng 4618562789834491187 ≤ 4618562789834491187; decide +kernel
theorem ex_rng (x B : Nat) (E : Int) (h : rng x ≤ B) (h0 : -1000 ≤ E) (h1 : E ≤ 1000) (hB : (B : Int) ≤ (E + 1024) * 4503599627370496) : Ex x (E + 2) := (ex_of x E h0 h1 (by omega)).1

theorem vh_ex (t : Nat) (ht : Ex t 7) : ∀ k, k ≤ 6 → Ex (vh t k) (4 + 13 * k) ∧ (0 < k → rng (vh t k) < 9218868437227405312)
  | 0, _ => ⟨ex_rng _ 4618562789834491187 2 (by show rng 4454304567055758550 ≤ _; decide +kernel) (by omega) (by omega) (by omega), fun h => absurd h (by omega)⟩
  | k + 1, h => by
    have ih := (vh_ex t ht k (by omega)).1
    have m1 := (mul_ex ht ih (by omega) (by omega)).1
    have c1 : Ex (co k) (7 + (4 + 13 * (k : Int)) + 3) := (ex_rng (co k) 4618562789834491187 2 (co_rng k) (by omega) (by omega) (by omega)).mono (by omega)
    have a1 := add_ex m1 c1 (by omega) (by omega)
    refine ⟨?_, fun _ => a1.2⟩
    have := a1.1
    rw [show (4 : Int) + 13 * ((k + 1 : Nat) : Int) = 7 + (4 + 13 * (k : Int)) + 3 + 3 by omega]
    exact this

/-- Within the bounds what Vapour tells is known; elsewhere it is missing. -/
theorem vap_kn (t : Nat) : kn (vap t) = inR t := by
  cases h : inR t
  · rw [show vap t = qn by unfold vap; rw [h]; rfl]; decide +kernel
  · have e : vap t = vh t 6 := by unfold vap; rw [h]; rfl
    rw [e]
    have ht : Ex t 7 := ex_rng t 4632233691727265792 5 (inR_key t h) (by omega) (by omega) (by omega)
    exact decide_eq_true ((vh_ex t ht 6 (by omega)).2 (by omega))
theorem vap_out (t : Nat) (h : inR t = false) : vap t = qn := by unfold vap; rw [h]; rfl

def hum (t d : Nat) : Nat := if ord d t == some .gt then qn else opF .quo (opF .mul (vap d) 4636737291354636288) (vap t)
theorem opF_nan_l (op : BinOp) (y : Nat) : opF op qn y = qn := by unfold opF; rw [bits_nan op (.inl nan_qn)]; rfl
theorem opF_nan_r (op : BinOp) (x : Nat) : opF op x qn = qn := by unfold opF; rw [bits_nan op (.inr nan_qn)]; rfl
theorem hum_t (t d : Nat) (h : kn (vap t) = false) : hum t d = qn := by
  rw [vap_kn] at h
  unfold hum
  rw [vap_out t h, opF_nan_r]
  split <;> rfl
theorem hum_d (t d : Nat) (h : kn (vap d) = false) : hum t d = qn := by
  rw [vap_kn] at h
  unfold hum
  rw [vap_out d h, opF_nan_l, opF_nan_l]
  split <;> rfl

set_option maxHeartbeats 2000000 in
theorem shum_any (t d : Nat) (w : World) : Calls Try.prog 14 #[.float .f64 t, .float .f64 d] w fun e w' => ∃ b, e = .returned (.float .f64 b) ∧ cn b = hum (cn t) (cn d) ∧ b < 18446744073709551616 ∧ Below w.heap.size w w' := by
  have hm : ∀ x y w, (binOp .mul 22 (.float .f64 x) (.float .f64 y)).run Try.prog w = .ok (.float .f64 (opB .mul x y w)) (w.drewN (opD .mul x y)) := fun x y w => run_op Try.prog .mul arMul 22 x y w
  have hq : ∀ x y w, (binOp .quo 22 (.float .f64 x) (.float .f64 y)).run Try.prog w = .ok (.float .f64 (opB .quo x y w)) (w.drewN (opD .quo x y)) := fun x y w => run_op Try.prog .quo arQuo 22 x y w
  have HO : Hid (ord (cn d) (cn t) = ord d t) := ord_cn d t
  go_enter Try.func14, Try.ntmps14
  go_wp2_with fail
  refine (svap_any _ _).mono ?_
  rintro e w1 ⟨bt, rfl, ct, _, bel1⟩
  have CT : Hid (cn bt = vap (cn t)) := ct
  have B1 : Hid (Below w.heap.size w w1) := bel1
  have KT : Hid (kn (vap (cn t)) = kn bt) := (by show kn (vap (cn t)) = kn bt; rw [← ct, kn_cn])
  clear ct bel1
  go_wp2_with fail
  refine (svap_any _ _).mono ?_
  rintro e w2 ⟨bd, rfl, cd, _, bel2⟩
  have CD : Hid (cn bd = vap (cn d)) := cd
  have B2 : Hid (Below w.heap.size w w2) := B1.out.trans (bel2.mono B1.out.size)
  have KD : Hid (kn (vap (cn d)) = kn bd) := (by show kn (vap (cn d)) = kn bd; rw [← cd, kn_cn])
  clear cd bel2
  go_wp2_with fail
  refine (sknown_any _ _).mono ?_
  rintro e w3 ⟨rfl, m3, rfl⟩
  cases hk : kn bt
  · have E : Hid (hum (cn t) (cn d) = qn) := hum_t _ _ (KT.out.trans hk)
    go_wp2_with (go_at_call 25; refine (none_any _).mono ?_; rintro e w' ⟨b, rfl, hb, hl, rfl⟩; have HB : Hid (cn b = qn ∧ b < 18446744073709551616) := ⟨hb, hl⟩; clear hb hl)
    go_ret
    exact ⟨b, rfl, HB.out.1.trans E.out.symm, HB.out.2, below_drewN B2.out _⟩
  · go_wp2_with fail
    refine (sknown_any _ _).mono ?_
    rintro e w4 ⟨rfl, m4, rfl⟩
    cases hk2 : kn bd
    · have E : Hid (hum (cn t) (cn d) = qn) := hum_d _ _ (KD.out.trans hk2)
      go_wp2_with (go_at_call 25; refine (none_any _).mono ?_; rintro e w' ⟨b, rfl, hb, hl, rfl⟩; have HB : Hid (cn b = qn ∧ b < 18446744073709551616) := ⟨hb, hl⟩; clear hb hl)
      go_ret
      exact ⟨b, rfl, HB.out.1.trans E.out.symm, HB.out.2, below_drewN B2.out _⟩
    · cases hg : (ord d t == some .gt)
      · have E : Hid (hum (cn t) (cn d) = opF .quo (opF .mul (vap (cn d)) 4636737291354636288) (vap (cn t))) := (by show hum (cn t) (cn d) = _; unfold hum; rw [HO.out, hg]; rfl)
        go_wp2_with fail
        go_ret
        exact ⟨_, rfl, by rw [cn_op, cn_op, CD.out, CT.out, E.out]; rfl, op_lt _ _ _ _, below_drewN B2.out _⟩
      · have E : Hid (hum (cn t) (cn d) = qn) := (by show hum (cn t) (cn d) = _; unfold hum; rw [HO.out, hg]; rfl)
        go_wp2_with (go_at_call 25; refine (none_any _).mono ?_; rintro e w' ⟨b, rfl, hb, hl, rfl⟩; have HB : Hid (cn b = qn ∧ b < 18446744073709551616) := ⟨hb, hl⟩; clear hb hl)
        go_ret
        exact ⟨b, rfl, HB.out.1.trans E.out.symm, HB.out.2, below_drewN B2.out _⟩

set_option maxHeartbeats 2000000 in
theorem ihum_any (t d : Nat) (w : World) : Calls Try.prog 15 #[.float .f64 t, .float .f64 d] w fun e w' => ∃ b, e = .returned (.float .f64 b) ∧ cn b = hum (cn t) (cn d) ∧ b < 18446744073709551616 ∧ Below w.heap.size w w' := by
  have hm : ∀ x y w, (binOp .mul 22 (.float .f64 x) (.float .f64 y)).run Try.prog w = .ok (.float .f64 (opB .mul x y w)) (w.drewN (opD .mul x y)) := fun x y w => run_op Try.prog .mul arMul 22 x y w
  have hq : ∀ x y w, (binOp .quo 22 (.float .f64 x) (.float .f64 y)).run Try.prog w = .ok (.float .f64 (opB .quo x y w)) (w.drewN (opD .quo x y)) := fun x y w => run_op Try.prog .quo arQuo 22 x y w
  have HO : Hid (ord (cn d) (cn t) = ord d t) := ord_cn d t
  cases hg : (ord d t == some .gt)
  · have E : Hid (hum (cn t) (cn d) = opF .quo (opF .mul (vap (cn d)) 4636737291354636288) (vap (cn t))) := (by show hum (cn t) (cn d) = _; unfold hum; rw [HO.out, hg]; rfl)
    go_enter Try.func15, Try.ntmps15
    go_wp2_with fail
    refine (ivap_any _ _).mono ?_
    rintro e w1 ⟨bd, rfl, cd, _, bel1⟩
    have CD : Hid (cn bd = vap (cn d)) := cd
    have B1 : Hid (Below w.heap.size w w1) := bel1
    clear cd bel1
    go_wp2_with fail
    refine (ivap_any _ _).mono ?_
    rintro e w2 ⟨bt, rfl, ct, _, bel2⟩
    have CT : Hid (cn bt = vap (cn t)) := ct
    have B2 : Hid (Below w.heap.size w w2) := (below_drewN B1.out _).trans (bel2.mono (below_drewN B1.out _).size)
    clear ct bel2
    go_wp2_with fail
    go_ret
    exact ⟨_, rfl, by rw [cn_op, cn_op, CD.out, CT.out, E.out]; rfl, op_lt _ _ _ _, below_drewN B2.out _⟩
  · have E : Hid (hum (cn t) (cn d) = qn) := (by show hum (cn t) (cn d) = _; unfold hum; rw [HO.out, hg]; rfl)
    go_enter Try.func15, Try.ntmps15
    go_wp2_with (go_at_call 27; refine (nan_any _).mono ?_; rintro e w' ⟨rfl, hw'⟩; subst hw')
    go_ret
    exact ⟨qn, rfl, E.out.symm, by decide, Below.refl _ _⟩

set_option maxHeartbeats 1000000 in
theorem humLaw (t d : Nat) (w : World) (_ : t < 18446744073709551616) (_ : d < 18446744073709551616) : Calls Try.prog 5 #[.float .f64 t, .float .f64 d] w fun e w' => e = .returned (.bool true) ∧ Below w.heap.size w w' := by
  go_enter Try.func5, Try.ntmps5
  go_wp2_with fail
  refine (shum_any _ _ _).mono ?_
  rintro e w1 ⟨b1, rfl, c1, _, bel1⟩
  have C1 : Hid (cn b1 = hum (cn t) (cn d)) := c1
  have B1 : Hid (Below w.heap.size w w1) := bel1
  clear c1 bel1
  go_wp2_with fail
  refine (ihum_any _ _ _).mono ?_
  rintro e w2 ⟨b2, rfl, c2, _, bel2⟩
  have C2 : Hid (cn b2 = hum (cn t) (cn d)) := c2
  have B2 : Hid (Below w.heap.size w w2) := B1.out.trans (bel2.mono B1.out.size)
  clear c2 bel2
  go_wp2_with fail
  refine (sf_cn _ _ _ (C2.out.trans C1.out.symm)).mono ?_
  rintro e w3 ⟨rfl, rfl⟩
  go_wp2_with fail
  go_ret
  exact ⟨rfl, B2.out⟩
end Go.Proofs.Ytlibkdamfhlceaa.Flt
