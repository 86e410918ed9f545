/- DewOf, in the program and in its model; the law FnExactDewOf walked. -/
import Derived.Test.YtlibkdamfhlceaaVapL
namespace Go.Proofs.Ytlibkdamfhlceaa.Flt
open Go.ChangeShapes Go.WideShapes Go.ChangeAt Go.RowKit

theorem kn_cn (x : Nat) : kn (cn x) = kn x := by
  cases h : nan x
  · rw [cn_num h]
  · rw [cn_nan h]
    have : 9218868437227405312 < rng x := by unfold nan at h; simpa using h
    have e : kn x = false := decide_eq_false (by omega)
    rw [e]; decide +kernel
theorem sknown_any (x : Nat) (w : World) : Calls Try.prog 29 #[.float .f64 x] w fun e w' => e = .returned (.bool (kn x)) ∧ ∃ m, w' = w.drewN m := by
  by_cases h : rng x < 9218868437227405312
  · refine (known_yes x w h).mono ?_
    rintro e w' ⟨rfl, rfl⟩
    exact ⟨by rw [show kn x = true from decide_eq_true h], 0, rfl⟩
  · refine (known_no x w (by omega)).mono ?_
    rintro e w' ⟨rfl, rfl⟩
    exact ⟨by rw [show kn x = false from decide_eq_false h], 1, rfl⟩

def mid (p : Nat × Nat) : Nat := opF .quo (opF .add p.1 p.2) 4611686018427387904
def less (p : Nat × Nat) (W : Nat) : Bool := ord (opF .mul (vap (mid p)) 4636737291354636288) W == some .lt
def stp (W : Nat) (p : Nat × Nat) : Nat × Nat := if less p W then (mid p, p.2) else (p.1, mid p)
def its (W t : Nat) : Nat → Nat × Nat
  | 0 => (13855605728582041600, t)
  | k + 1 => stp W (its W t k)
def okD (t h : Nat) : Bool := kn (vap t) && ((ord h 0 == some .gt) && (ord h 4636737291354636288 == some .lt || ord h 4636737291354636288 == some .eq))
/-- What DewOf tells. -/
def dew (t h : Nat) : Nat := if okD t h then (its (opF .mul h (vap t)) t 60).2 else qn

theorem okD_cn (t h : Nat) : okD (cn t) (cn h) = (kn (vap (cn t)) && ((ord h 0 == some .gt) && (ord h 4636737291354636288 == some .lt || ord h 4636737291354636288 == some .eq))) := by
  have e1 : ord (cn h) 0 = ord h 0 := ord_cn h 0
  have e2 : ord (cn h) 4636737291354636288 = ord h 4636737291354636288 := ord_cn h 4636737291354636288
  unfold okD
  rw [e1, e2]

theorem mid_of (l h : Nat) (w1 w2 : World) : cn (opB .quo (opB .add l h w1) 4611686018427387904 w2) = mid (cn l, cn h) := by
  rw [cn_op, cn_op]; rfl
theorem cmp_of {l h bw b W : Nat} {w1 w2 : World} {c : Bool} (hb : cn b = vap (cn (opB .quo (opB .add l h w1) 4611686018427387904 w2))) (hw : cn bw = W) (hc : less (cn l, cn h) W = c) :
    ∀ wx, (ord (opB .mul b 4636737291354636288 wx) bw == some .lt) = c := by
  intro wx
  rw [← ord_cn, cn_op, hb, mid_of, hw, ← hc]
  rfl
theorem it_low {W t k l h : Nat} {w1 w2 : World} (hi : (cn l, cn h) = its W t k) (hc : less (cn l, cn h) W = true) : (cn (opB .quo (opB .add l h w1) 4611686018427387904 w2), cn h) = its W t (k + 1) := by
  rw [mid_of]
  show _ = stp W (its W t k)
  rw [← hi]
  unfold stp
  rw [if_pos hc]
theorem it_high {W t k l h : Nat} {w1 w2 : World} (hi : (cn l, cn h) = its W t k) (hc : less (cn l, cn h) W = false) : (cn l, cn (opB .quo (opB .add l h w1) 4611686018427387904 w2)) = its W t (k + 1) := by
  rw [mid_of]
  show _ = stp W (its W t k)
  rw [← hi]
  unfold stp
  rw [if_neg (by rw [hc]; simp)]

set_option maxHeartbeats 4000000 in
theorem sdew_any (t h : Nat) (w : World) (ht : t < 18446744073709551616) : Calls Try.prog 16 #[.float .f64 t, .float .f64 h] w fun e w' => ∃ b, e = .returned (.float .f64 b) ∧ cn b = dew (cn t) (cn h) ∧ b < 18446744073709551616 ∧ Below w.heap.size w w' := by
  have ha : ∀ x y w, (binOp .add 22 (.float .f64 x) (.float .f64 y)).run Try.prog w = .ok (.float .f64 (opB .add x y w)) (w.drewN (opD .add x y)) := fun x y w => run_op Try.prog .add arAdd 22 x y w
  have hm : ∀ x y w, (binOp .mul 22 (.float .f64 x) (.float .f64 y)).run Try.prog w = .ok (.float .f64 (opB .mul x y w)) (w.drewN (opD .mul x y)) := fun x y w => run_op Try.prog .mul arMul 22 x y w
  have hq : ∀ x y w, (binOp .quo 22 (.float .f64 x) (.float .f64 y)).run Try.prog w = .ok (.float .f64 (opB .quo x y w)) (w.drewN (opD .quo x y)) := fun x y w => run_op Try.prog .quo arQuo 22 x y w
  have HT : Hid (t < 18446744073709551616) := ht
  have HO : Hid (okD (cn t) (cn h) = (kn (vap (cn t)) && ((ord h 0 == some .gt) && (ord h 4636737291354636288 == some .lt || ord h 4636737291354636288 == some .eq)))) := okD_cn t h
  clear ht
  go_enter Try.func16, Try.ntmps16
  go_wp2_with fail
  refine (svap_any _ _).mono ?_
  rintro e w1 ⟨bv, rfl, cv, _, bel1⟩
  have CV : Hid (cn bv = vap (cn t)) := cv
  have B1 : Hid (Below w.heap.size w w1) := bel1
  have KV : Hid (kn (vap (cn t)) = kn bv) := (by show kn (vap (cn t)) = kn bv; rw [← cv, kn_cn])
  clear cv bel1
  go_wp2_with fail
  refine (sknown_any _ _).mono ?_
  rintro e w2 ⟨rfl, m2, rfl⟩
  cases hk : kn bv
  · have E : Hid (dew (cn t) (cn h) = qn) := (by show dew (cn t) (cn h) = qn; unfold dew; rw [HO.out, KV.out, hk]; rfl)
    go_wp2_with (go_at_call 25; refine (none_any _).mono ?_; rintro e w' ⟨b, rfl, hb, hl, rfl⟩; have HB : Hid (cn b = qn ∧ b < 18446744073709551616) := ⟨hb, hl⟩; clear hb hl)
    go_ret
    exact ⟨b, rfl, HB.out.1.trans E.out.symm, HB.out.2, below_drewN B1.out _⟩
  · cases h0 : (ord h 0 == some .gt)
    · have E : Hid (dew (cn t) (cn h) = qn) := (by show dew (cn t) (cn h) = qn; unfold dew; rw [HO.out, KV.out, hk, h0]; rfl)
      go_wp2_with (go_at_call 25; refine (none_any _).mono ?_; rintro e w' ⟨b, rfl, hb, hl, rfl⟩; have HB : Hid (cn b = qn ∧ b < 18446744073709551616) := ⟨hb, hl⟩; clear hb hl)
      go_ret
      exact ⟨b, rfl, HB.out.1.trans E.out.symm, HB.out.2, below_drewN B1.out _⟩
    · cases h1 : (ord h 4636737291354636288 == some .lt || ord h 4636737291354636288 == some .eq)
      · have E : Hid (dew (cn t) (cn h) = qn) := (by show dew (cn t) (cn h) = qn; unfold dew; rw [HO.out, KV.out, hk, h0, h1]; rfl)
        go_wp2_with (go_at_call 25; refine (none_any _).mono ?_; rintro e w' ⟨b, rfl, hb, hl, rfl⟩; have HB : Hid (cn b = qn ∧ b < 18446744073709551616) := ⟨hb, hl⟩; clear hb hl)
        go_ret
        exact ⟨b, rfl, HB.out.1.trans E.out.symm, HB.out.2, below_drewN B1.out _⟩
      · have E : Hid (dew (cn t) (cn h) = (its (opF .mul (cn h) (vap (cn t))) (cn t) 60).2) := (by show dew (cn t) (cn h) = _; unfold dew; rw [HO.out, KV.out, hk, h0, h1]; rfl)
        have EW : Hid (∀ wx, cn (opB .mul h bv wx) = opF .mul (cn h) (vap (cn t))) := fun wx => by rw [cn_op, CV.out]
        go_wp2_with fail
        have EB := EW.out (w1.drewN m2)
        generalize opB .mul h bv _ = bw at *
        have CW : Hid (cn bw = opF .mul (cn h) (vap (cn t))) := EB
        have BW : Hid (Below w.heap.size w w1) := B1.out
        clear EB EW HO KV CV
        generalize opF .mul (cn h) (vap (cn t)) = W at *
        go_loopw [6, 7, 9, 10] (fun lo hi i _ wr => ∃ k l u : Nat, k ≤ 60 ∧ i = .int .i64 k ∧ lo = .float .f64 l ∧ hi = .float .f64 u ∧ Hid ((cn l, cn u) = its W (cn t) k ∧ u < 18446744073709551616) ∧ Hid (Below w.heap.size w wr)) (fun _ _ i _ _ => 60 - (intOf i).toNat)
        case atStart => exact ⟨0, _, _, by omega, rfl, rfl, rfl, ⟨rfl, HT.out⟩, below_drewN B1.out _⟩
        case round =>
          obtain ⟨k, l, u, hk60, rfl, rfl, rfl, HI, HW⟩ := hrel
          by_cases hlt : k < 60
          · have i1 : (k : Int) < 60 := by omega
            cases hcc : less (cn l, cn u) W
            · have HC : Hid (less (cn l, cn u) W = false) := hcc
              clear hcc
              go_wp2_with (go_at_call 12; refine (svap_any _ _).mono ?_; rintro e wv ⟨bx, rfl, hbx, _, belv⟩; have cmp := cmp_of hbx CW.out HC.out; have HX : Hid (cn bx = cn bx) := rfl; have HV : Hid (Below w.heap.size w wv) := (below_drewN HW.out _).trans (belv.mono (below_drewN HW.out _).size); clear hbx belv)
              go_round
              case rel => exact ⟨k + 1, _, _, by omega, by go_num, rfl, rfl, ⟨it_high HI.out.1 HC.out, op_lt _ _ _ _⟩, below_drewN HV.out _⟩
              case measure => simp [intOf]; omega
            · have HC : Hid (less (cn l, cn u) W = true) := hcc
              clear hcc
              go_wp2_with (go_at_call 12; refine (svap_any _ _).mono ?_; rintro e wv ⟨bx, rfl, hbx, _, belv⟩; have cmp := cmp_of hbx CW.out HC.out; have HV : Hid (Below w.heap.size w wv) := (below_drewN HW.out _).trans (belv.mono (below_drewN HW.out _).size); clear hbx belv)
              go_round
              case rel => exact ⟨k + 1, _, _, by omega, by go_num, rfl, rfl, ⟨it_low HI.out.1 HC.out, HI.out.2⟩, below_drewN HV.out _⟩
              case measure => simp [intOf]; omega
          · obtain rfl : k = 60 := by omega
            go_wp2
            go_ret
            exact ⟨u, rfl, by rw [E.out, ← HI.out.1], HI.out.2, HW.out⟩

set_option maxHeartbeats 4000000 in
theorem idew_any (t h : Nat) (w : World) (ht : t < 18446744073709551616) : Calls Try.prog 17 #[.float .f64 t, .float .f64 h] w fun e w' => ∃ b, e = .returned (.float .f64 b) ∧ cn b = dew (cn t) (cn h) ∧ b < 18446744073709551616 ∧ Below w.heap.size w w' := by
  have ha : ∀ x y w, (binOp .add 22 (.float .f64 x) (.float .f64 y)).run Try.prog w = .ok (.float .f64 (opB .add x y w)) (w.drewN (opD .add x y)) := fun x y w => run_op Try.prog .add arAdd 22 x y w
  have hm : ∀ x y w, (binOp .mul 22 (.float .f64 x) (.float .f64 y)).run Try.prog w = .ok (.float .f64 (opB .mul x y w)) (w.drewN (opD .mul x y)) := fun x y w => run_op Try.prog .mul arMul 22 x y w
  have hq : ∀ x y w, (binOp .quo 22 (.float .f64 x) (.float .f64 y)).run Try.prog w = .ok (.float .f64 (opB .quo x y w)) (w.drewN (opD .quo x y)) := fun x y w => run_op Try.prog .quo arQuo 22 x y w
  have HT : Hid (t < 18446744073709551616) := ht
  have HO : Hid (okD (cn t) (cn h) = (kn (vap (cn t)) && ((ord h 0 == some .gt) && (ord h 4636737291354636288 == some .lt || ord h 4636737291354636288 == some .eq)))) := okD_cn t h
  clear ht
  go_enter Try.func17, Try.ntmps17
  go_wp2_with fail
  refine (ivap_any _ _).mono ?_
  rintro e w1 ⟨bv, rfl, cv, lv, bel1⟩
  have LV : Hid (bv < 18446744073709551616) := lv
  clear lv
  have CV : Hid (cn bv = vap (cn t)) := cv
  have B1 : Hid (Below w.heap.size w w1) := bel1
  have KV : Hid (kn (vap (cn t)) = kn bv) := (by show kn (vap (cn t)) = kn bv; rw [← cv, kn_cn])
  clear cv bel1
  go_wp2_with fail
  refine (iknown _ _ LV.out).mono ?_
  rintro e w2 ⟨rfl, hw2⟩
  subst hw2
  cases hk : kn bv
  · have E : Hid (dew (cn t) (cn h) = qn) := (by show dew (cn t) (cn h) = qn; unfold dew; rw [HO.out, KV.out, hk]; rfl)
    go_wp2_with (go_at_call 27; refine (nan_any _).mono ?_; rintro e w' ⟨rfl, hw'⟩; subst hw')
    go_ret
    exact ⟨qn, rfl, E.out.symm, by decide, B1.out⟩
  · cases h0 : (ord h 0 == some .gt)
    · have E : Hid (dew (cn t) (cn h) = qn) := (by show dew (cn t) (cn h) = qn; unfold dew; rw [HO.out, KV.out, hk, h0]; rfl)
      go_wp2_with (go_at_call 27; refine (nan_any _).mono ?_; rintro e w' ⟨rfl, hw'⟩; subst hw')
      go_ret
      exact ⟨qn, rfl, E.out.symm, by decide, B1.out⟩
    · cases h1 : (ord h 4636737291354636288 == some .lt || ord h 4636737291354636288 == some .eq)
      · have E : Hid (dew (cn t) (cn h) = qn) := (by show dew (cn t) (cn h) = qn; unfold dew; rw [HO.out, KV.out, hk, h0, h1]; rfl)
        go_wp2_with (go_at_call 27; refine (nan_any _).mono ?_; rintro e w' ⟨rfl, hw'⟩; subst hw')
        go_ret
        exact ⟨qn, rfl, E.out.symm, by decide, B1.out⟩
      · have E : Hid (dew (cn t) (cn h) = (its (opF .mul (cn h) (vap (cn t))) (cn t) 60).2) := (by show dew (cn t) (cn h) = _; unfold dew; rw [HO.out, KV.out, hk, h0, h1]; rfl)
        go_wp2_with fail
        refine (ivap_any _ _).mono ?_
        rintro e w3 ⟨bz, rfl, cz, _, bel3⟩
        have EW : Hid (∀ wx, cn (opB .mul h bz wx) = opF .mul (cn h) (vap (cn t))) := fun wx => by rw [cn_op, cz]
        have B3 : Hid (Below w.heap.size w w3) := B1.out.trans (bel3.mono B1.out.size)
        clear cz bel3
        go_wp2_with fail
        have EB := EW.out w3
        generalize opB .mul h bz _ = bw at *
        have CW : Hid (cn bw = opF .mul (cn h) (vap (cn t))) := EB
        clear EB EW HO KV CV
        generalize opF .mul (cn h) (vap (cn t)) = W at *
        go_loopw [6, 7, 8, 28] (fun lo hi _ i wr => ∃ k l u : Nat, k ≤ 60 ∧ i = .int .i64 k ∧ lo = .float .f64 l ∧ hi = .float .f64 u ∧ Hid ((cn l, cn u) = its W (cn t) k ∧ u < 18446744073709551616) ∧ Hid (Below w.heap.size w wr)) (fun _ _ _ i _ => 60 - (intOf i).toNat)
        case atStart => exact ⟨0, _, _, by omega, rfl, rfl, rfl, ⟨rfl, HT.out⟩, below_drewN B3.out _⟩
        case round =>
          obtain ⟨k, l, u, hk60, rfl, rfl, rfl, HI, HW⟩ := hrel
          by_cases hlt : k < 60
          · have i1 : (k : Int) < 60 := by omega
            cases hcc : less (cn l, cn u) W
            · have HC : Hid (less (cn l, cn u) W = false) := hcc
              clear hcc
              go_wp2_with (go_at_call 13; refine (ivap_any _ _).mono ?_; rintro e wv ⟨bx, rfl, hbx, _, belv⟩; have cmp := cmp_of hbx CW.out HC.out; have HX : Hid (cn bx = cn bx) := rfl; have HV : Hid (Below w.heap.size w wv) := (below_drewN HW.out _).trans (belv.mono (below_drewN HW.out _).size); clear hbx belv)
              go_round
              case rel => exact ⟨k + 1, _, _, by omega, by go_num, rfl, rfl, ⟨it_high HI.out.1 HC.out, op_lt _ _ _ _⟩, below_drewN HV.out _⟩
              case measure => simp [intOf]; omega
            · have HC : Hid (less (cn l, cn u) W = true) := hcc
              clear hcc
              go_wp2_with (go_at_call 13; refine (ivap_any _ _).mono ?_; rintro e wv ⟨bx, rfl, hbx, _, belv⟩; have cmp := cmp_of hbx CW.out HC.out; have HV : Hid (Below w.heap.size w wv) := (below_drewN HW.out _).trans (belv.mono (below_drewN HW.out _).size); clear hbx belv)
              go_round
              case rel => exact ⟨k + 1, _, _, by omega, by go_num, rfl, rfl, ⟨it_low HI.out.1 HC.out, HI.out.2⟩, below_drewN HV.out _⟩
              case measure => simp [intOf]; omega
          · obtain rfl : k = 60 := by omega
            go_wp2
            go_ret
            exact ⟨u, rfl, by rw [E.out, ← HI.out.1], HI.out.2, HW.out⟩

set_option maxHeartbeats 1000000 in
theorem dewLaw (t h : Nat) (w : World) (ht : t < 18446744073709551616) (_ : h < 18446744073709551616) : Calls Try.prog 6 #[.float .f64 t, .float .f64 h] w fun e w' => e = .returned (.bool true) ∧ Below w.heap.size w w' := by
  have HT : Hid (t < 18446744073709551616) := ht
  clear ht
  go_enter Try.func6, Try.ntmps6
  go_wp2_with fail
  refine (sdew_any _ _ _ HT.out).mono ?_
  rintro e w1 ⟨b1, rfl, c1, _, bel1⟩
  have C1 : Hid (cn b1 = dew (cn t) (cn h)) := c1
  have B1 : Hid (Below w.heap.size w w1) := bel1
  clear c1 bel1
  go_wp2_with fail
  refine (idew_any _ _ _ HT.out).mono ?_
  rintro e w2 ⟨b2, rfl, c2, _, bel2⟩
  have C2 : Hid (cn b2 = dew (cn t) (cn h)) := c2
  have B2 : Hid (Below w.heap.size w w2) := B1.out.trans (bel2.mono B1.out.size)
  clear c2 bel2
  go_wp2_with fail
  refine (sf_cn _ _ _ (C2.out.trans C1.out.symm)).mono ?_
  rintro e w3 ⟨rfl, rfl⟩
  go_wp2_with fail
  go_ret
  exact ⟨rfl, B2.out⟩
end Go.Proofs.Ytlibkdamfhlceaa.Flt
