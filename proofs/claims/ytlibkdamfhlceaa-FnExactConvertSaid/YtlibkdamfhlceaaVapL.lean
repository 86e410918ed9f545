/- Vapour for every number; the law FnExactVapour walked. -/
import Derived.Test.YtlibkdamfhlceaaVap
namespace Go.Proofs.Ytlibkdamfhlceaa.Flt
open Go.ChangeShapes Go.WideShapes Go.ChangeAt Go.RowKit

theorem inR_cn (t : Nat) : inR (cn t) = inR t := by
  have e1 : ord (cn t) 13855605728582041600 = ord t 13855605728582041600 := ord_cn t 13855605728582041600
  have e2 : ord (cn t) 4632233691727265792 = ord t 4632233691727265792 := ord_cn t 4632233691727265792
  unfold inR
  rw [e1, e2]


set_option maxHeartbeats 1000000 in
theorem svap_any (t : Nat) (w : World) : Calls Try.prog 12 #[.float .f64 t] w fun e w' => ∃ b, e = .returned (.float .f64 b) ∧ cn b = vap (cn t) ∧ b < 18446744073709551616 ∧ Below w.heap.size w w' := by
  have hR := inR_cn t
  cases h1 : (ord t 13855605728582041600 == some .gt || ord t 13855605728582041600 == some .eq)
  · have E : Hid (vap (cn t) = qn) := by show vap (cn t) = qn; unfold vap; rw [hR]; unfold inR; rw [h1]; rfl
    clear hR
    go_enter Try.func12, Try.ntmps12
    go_wp2_with (go_at_call 25; refine (none_any _).mono ?_; rintro e w' ⟨b, rfl, hb, hl, rfl⟩; have HB : Hid (cn b = qn ∧ b < 18446744073709551616) := ⟨hb, hl⟩; clear hb hl)
    go_ret
    exact ⟨b, rfl, HB.out.1.trans E.out.symm, HB.out.2, (Below.refl _ _).drew⟩
  · cases h2 : (ord t 4632233691727265792 == some .lt || ord t 4632233691727265792 == some .eq)
    · have E : Hid (vap (cn t) = qn) := by show vap (cn t) = qn; unfold vap; rw [hR]; unfold inR; rw [h1, h2]; rfl
      clear hR
      go_enter Try.func12, Try.ntmps12
      go_wp2_with (go_at_call 25; refine (none_any _).mono ?_; rintro e w' ⟨b, rfl, hb, hl, rfl⟩; have HB : Hid (cn b = qn ∧ b < 18446744073709551616) := ⟨hb, hl⟩; clear hb hl)
      go_ret
      exact ⟨b, rfl, HB.out.1.trans E.out.symm, HB.out.2, (Below.refl _ _).drew⟩
    · have E : vap (cn t) = vh (cn t) 6 := by unfold vap; rw [hR]; unfold inR; rw [h1, h2]; rfl
      rw [E]
      exact svap_in t w h1 h2
set_option maxHeartbeats 1000000 in
theorem ivap_any (t : Nat) (w : World) : Calls Try.prog 13 #[.float .f64 t] w fun e w' => ∃ b, e = .returned (.float .f64 b) ∧ cn b = vap (cn t) ∧ b < 18446744073709551616 ∧ Below w.heap.size w w' := by
  have hR := inR_cn t
  cases h1 : (ord t 13855605728582041600 == some .gt || ord t 13855605728582041600 == some .eq)
  · have E : Hid (vap (cn t) = qn) := by show vap (cn t) = qn; unfold vap; rw [hR]; unfold inR; rw [h1]; rfl
    clear hR
    go_enter Try.func13, Try.ntmps13
    go_wp2_with (go_at_call 27; refine (nan_any _).mono ?_; rintro e w' ⟨rfl, rfl⟩)
    go_ret
    exact ⟨qn, rfl, E.out.symm, by decide, Below.refl _ _⟩
  · cases h2 : (ord t 4632233691727265792 == some .lt || ord t 4632233691727265792 == some .eq)
    · have E : Hid (vap (cn t) = qn) := by show vap (cn t) = qn; unfold vap; rw [hR]; unfold inR; rw [h1, h2]; rfl
      clear hR
      go_enter Try.func13, Try.ntmps13
      go_wp2_with (go_at_call 27; refine (nan_any _).mono ?_; rintro e w' ⟨rfl, rfl⟩)
      go_ret
      exact ⟨qn, rfl, E.out.symm, by decide, Below.refl _ _⟩
    · have E : vap (cn t) = vh (cn t) 6 := by unfold vap; rw [hR]; unfold inR; rw [h1, h2]; rfl
      rw [E]
      exact ivap_in t w h1 h2

set_option maxHeartbeats 1000000 in
theorem vapLaw (t : Nat) (w : World) (_ : t < 18446744073709551616) : Calls Try.prog 4 #[.float .f64 t] w fun e w' => e = .returned (.bool true) ∧ Below w.heap.size w w' := by
  go_enter Try.func4, Try.ntmps4
  go_wp2_with fail
  refine (svap_any _ _).mono ?_
  rintro e w1 ⟨b1, rfl, c1, _, bel1⟩
  have C1 : Hid (cn b1 = vap (cn t)) := c1
  have B1 : Hid (Below w.heap.size w w1) := bel1
  clear c1 bel1
  go_wp2_with fail
  refine (ivap_any _ _).mono ?_
  rintro e w2 ⟨b2, rfl, c2, _, bel2⟩
  have C2 : Hid (cn b2 = vap (cn t)) := c2
  have B2 : Hid (Below w.heap.size w w2) := B1.out.trans (bel2.mono B1.out.size)
  clear c2 bel2
  go_wp2_with fail
  refine (sf_cn _ _ _ (C2.out.trans C1.out.symm)).mono ?_
  rintro e w3 ⟨rfl, rfl⟩
  go_wp2_with fail
  go_ret
  exact ⟨rfl, B2.out⟩
end Go.Proofs.Ytlibkdamfhlceaa.Flt
