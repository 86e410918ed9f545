/- The law of amounts that come to other edges. -/
import Derived.Test.YtlcbahlplablmaaRr
import Derived.BigQuiet
import Derived.Deep.QuietTactic
namespace Go.Proofs.Ytlcbahlplablmaa.Rm
open Go.ChangeShapes Go.WideShapes Go.ChangeAt Go.RowKit
open Go.Proofs.Ytlcbahlplablmaa.Lists Go.Proofs.Ytlcbahlplablmaa.Rd
theorem drewN_below (B : Nat) (w : World) (n : Nat) : Below B w (w.drewN n) := (Below.refl _ _).trans ⟨rfl, rfl, rfl, Nat.le_refl _, fun _ _ => rfl⟩

set_option maxRecDepth 20000 in
set_option maxHeartbeats 2000000 in
theorem remapLaw (a : Option Addr) (len cap : Nat) (w : World) (hc : Go.Proofs.Ytlcbahlplablmaa.Rd.Code w a len cap) (hn : len < 9223372036854775808) : Calls Try.prog 3 #[.slice a len cap] w fun e w' => e = .returned (.bool true) ∧ Below w.heap.size w w' := by
  by_cases hl : 1048576 < len
  · have C : Hid (Calls Try.prog 4 #[.slice a len cap] w fun e w' => e = .returned (.bool true) ∧ w' = w) := Rd.big_yes a len cap w hl hn
    clear hc
    go_enter Try.func3, Try.ntmps3
    go_wp2_with fail
    refine C.out.mono ?_
    rintro e w1 ⟨rfl, hw⟩
    subst hw
    go_wp2_with fail
    go_ret
    exact ⟨rfl, Below.refl _ _⟩
  have C : Hid (Calls Try.prog 4 #[.slice a len cap] w fun e w' => e = .returned (.bool false) ∧ w' = w) := Rd.big_no a len cap w (by omega)
  have D : Hid (Calls Try.prog 5 #[.slice a len cap] w fun e w' => ∃ ve va vt E A T, e = .returned (.tuple #[ve, va, vt]) ∧ Lists.Reads w' ve E ∧ Lists.Reads w' va A ∧ Lists.Reads w' vt T ∧ E.length ≤ 30 ∧ A.length ≤ 30 ∧ (1 ≤ T.length ∧ T.length ≤ 30) ∧ Below w.heap.size w w') := drawremap_any a len cap w hc (by omega)
  clear hc
  go_enter Try.func3, Try.ntmps3
  go_wp2_with fail
  refine C.out.mono ?_
  rintro e w1 ⟨rfl, hw⟩
  have hw' := hw.symm
  subst hw'
  clear hw
  go_wp2_with fail
  refine D.out.mono ?_
  rintro e w1 ⟨ve, va, vt, E, A, T, rfl, rE, rA, rT, lE, lA, lT, b1⟩
  have B1 : Hid (Below w.heap.size w w1) := b1
  have HE : Hid (∀ wx, Below w1.heap.size w1 wx → Lists.Reads wx ve E) := fun wx hb => rE.on hb
  have HA : Hid (∀ wx, Below w1.heap.size w1 wx → Lists.Reads wx va A) := fun wx hb => rA.on hb
  have HT : Hid (∀ wx, Below w1.heap.size w1 wx → Lists.Reads wx vt T) := fun wx hb => rT.on hb
  have BW : Hid (∀ wx, Below w1.heap.size w1 wx → Below w.heap.size w wx) := fun wx hb => B1.out.trans (hb.mono B1.out.size)
  obtain ⟨ea, ec, hv⟩ := rE.form
  subst hv
  obtain ⟨aa, ac, hv⟩ := rA.form
  subst hv
  obtain ⟨ta, tc, hv⟩ := rT.form
  subst hv
  obtain ⟨ne, hne⟩ : ∃ n, n = E.length := ⟨_, rfl⟩
  obtain ⟨na, hna⟩ : ∃ n, n = A.length := ⟨_, rfl⟩
  obtain ⟨nt, hnt⟩ : ∃ n, n = T.length := ⟨_, rfl⟩
  have HL : Hid (ne = E.length ∧ na = A.length ∧ nt = T.length) := ⟨hne, hna, hnt⟩
  rw [← hne] at HE lE ⊢
  rw [← hna] at HA lA ⊢
  rw [← hnt] at HT lT ⊢
  clear rE rA rT b1 C D hne hna hnt
  go_wp2_with fail
  refine (sremap_any E A T _ _ _ w1 (HE.out _ (Below.refl _ _)) (HA.out _ (Below.refl _ _)) (HT.out _ (Below.refl _ _)) (by have := HL.out.1; omega) (by have := HL.out.2.2; omega)).mono ?_
  rintro e w2 ⟨v2, rfl, row2, b2⟩
  have B2 : Hid (Below w1.heap.size w1 w2) := b2
  have R2 : Hid (Lists.Reads w2 v2 (remap E A T)) := Lists.reads_row row2
  clear b2 row2
  go_wp2_with fail
  refine (iremap_any E A T _ _ _ w2 (HE.out _ B2.out) (HA.out _ B2.out) (HT.out _ B2.out) (by have := HL.out.1; omega)).mono ?_
  rintro e w3 ⟨v3, rfl, row3, b3⟩
  have B3 : Hid (Below w1.heap.size w1 w3) := B2.out.trans (b3.mono B2.out.size)
  have R3 : Hid (Lists.Reads w3 v3 (remap E A T)) := Lists.reads_row row3
  have R23 : Hid (Lists.Reads w3 v2 (remap E A T)) := R2.out.on b3
  have lR : Hid ((remap E A T).length ≤ 256) := remap_len E A T
  clear b3 row3 R2 B2
  have hbb : ∀ b : Bool, (b != b) = false := fun b => by cases b <;> rfl
  cases hk : okR E A T
  · go_wp2_with fail
    refine (same_any (remap E A T) _ _ w3 R3.out R23.out (by have := lR.out; omega)).mono ?_
    rintro e w4 ⟨rfl, n4, hw4⟩
    have B4 : Hid (Below w.heap.size w w4) := BW.out w4 (by rw [hw4]; exact B3.out.trans (drewN_below _ _ _))
    clear hw4
    go_wp2_with fail
    go_ret
    exact ⟨rfl, B4.out⟩
  obtain ⟨own1, own2⟩ := remap_own hk
  have HP : Hid (∀ i, i < (remap E A T).length → 0 ≤ (remap E A T).getD i 0 ∧ (remap E A T).getD i 0 ≤ 300000000000000) := remap_pos hk
  have HS : Hid (T.getD 0 0 ≤ E.getD 0 0 → E.getD (E.length - 1) 0 ≤ T.getD (T.length - 1) 0 → tot (remap E A T) (remap E A T).length = tot A A.length) := remap_sum hk
  obtain ⟨ft, _, _, _, _, ha, hl1⟩ := okR_fit hk
  have HAZ : Hid (∀ j, j < A.length → -300000000000000 ≤ A.getD j 0 ∧ A.getD j 0 ≤ 300000000000000) := fun j hj => (by have := ft.2.2.2.2 j hj; omega)
  have ne2 : 2 ≤ ne := by
    have h1 := HL.out.1
    unfold okR heads at hk
    simp only [Bool.and_eq_true] at hk
    have := (okE_parts hk.1.1).1
    omega
  have nt2 : 2 ≤ nt := by
    have h1 := HL.out.2.2
    unfold okR heads at hk
    simp only [Bool.and_eq_true] at hk
    have := (okE_parts hk.1.2.1).1
    omega
  clear ft ha hl1
  go_wp2_with fail
  refine (same_any (remap E A T) _ _ w3 R3.out R23.out (by have := lR.out; omega)).mono ?_
  rintro e w4 ⟨rfl, n4, hw4⟩
  have B4 : Hid (Below w1.heap.size w1 w4) := (by show Below _ _ _; rw [hw4]; exact B3.out.trans (drewN_below _ _ _))
  have R4 : Hid (Lists.Reads w4 v3 (remap E A T)) := (by show Lists.Reads _ _ _; rw [hw4]; exact R3.out.on (drewN_below _ _ _))
  clear hw4 R3 R23 B3
  go_wp2_with fail
  refine (iremap_any E A E _ _ _ w4 (HE.out _ B4.out) (HA.out _ B4.out) (HE.out _ B4.out) (by have := HL.out.1; omega)).mono ?_
  rintro e w5 ⟨v5, rfl, row5, b5⟩
  rw [own1]
  rw [own2] at row5
  have B5 : Hid (Below w1.heap.size w1 w5) := B4.out.trans (b5.mono B4.out.size)
  have R5 : Hid (Lists.Reads w5 v5 A) := Lists.reads_row row5
  have R5' : Hid (Lists.Reads w5 v3 (remap E A T)) := R4.out.on b5
  clear b5 row5 R4 B4 own1 own2
  go_wp2_with fail
  refine (same_any A _ _ w5 R5.out (HA.out _ B5.out) (by have := HL.out.2.1; omega)).mono ?_
  rintro e w6 ⟨rfl, n6, hw6⟩
  have B6 : Hid (Below w1.heap.size w1 w6) := (by show Below _ _ _; rw [hw6]; exact B5.out.trans (drewN_below _ _ _))
  have R6 : Hid (Lists.Reads w6 v3 (remap E A T)) := (by show Lists.Reads _ _ _; rw [hw6]; exact R5'.out.on (drewN_below _ _ _))
  clear hw6 R5 R5' B5
  obtain ⟨X, hX⟩ : ∃ X, X = remap E A T := ⟨_, rfl⟩
  rw [← hX] at R6 HP HS lR
  clear hX
  obtain ⟨xa, xc, hv⟩ := R6.out.form
  subst hv
  obtain ⟨nx, hnx⟩ : ∃ n, n = X.length := ⟨_, rfl⟩
  have HNX : Hid (nx = X.length) := hnx
  rw [← hnx] at R6 ⊢
  clear hnx
  have HCX : Hid (∀ i, i < nx → ∃ b o, xa = some ⟨b, o, none⟩ ∧ w6.cell? ⟨b, o + i, none⟩ = some (.int .i64 (X.getD i 0))) := fun i hi => (by
    have rr := R6.out
    rw [HNX.out] at rr hi
    rcases rr with ⟨e, _⟩ | ⟨b, o, cp, e, _, _, _, y⟩
    · rw [e] at hi; simp at hi
    · simp at e; exact ⟨b, o, e.1, y i hi⟩)
  have nx1 : nx < 9223372036854775808 := by have := HNX.out; have := lR.out; omega
  go_wp2_with fail
  go_loopw [12] (fun i wr => ∃ k : Nat, k ≤ nx ∧ i = .int .i64 k ∧ wr = w6) (fun i _ => nx - (intOf i).toNat)
  case atStart => exact ⟨0, Nat.zero_le _, rfl, rfl⟩
  case round =>
    obtain ⟨k, hk', rfl, hw⟩ := hrel
    subst hw
    by_cases hlt : k < nx
    · obtain ⟨b, o, rfl, qz⟩ := HCX.out k hlt
      have hz := HP.out k (by rw [← HNX.out]; exact hlt)
      have i0 : (0 : Int) ≤ (k : Int) := by omega
      have i1 : (k : Int) < (nx : Int) := by omega
      generalize X.getD k 0 = z at *
      have hz2 : ¬ z < 0 := by omega
      go_wp2_with fail
      go_roundw
      case rel => exact ⟨k + 1, by omega, by go_num, trivial⟩
      case measure => simp [intOf]; omega
    · have j1 : ¬ (k : Int) < (nx : Int) := by omega
      obtain ⟨eb, eo, he, cE⟩ : ∃ b o, ea = some ⟨b, o, none⟩ ∧ ∀ i, i < ne → wr.cell? ⟨b, o + i, none⟩ = some (.int .i64 (E.getD i 0)) := by
        have rr := HE.out wr B6.out
        have h1 := HL.out.1
        rw [h1] at rr
        rcases rr with ⟨e, _⟩ | ⟨b, o, cp, e, _, _, _, y⟩
        · rw [e] at h1; simp at h1; omega
        · simp at e; exact ⟨b, o, e.1, fun i hi => y i (by omega)⟩
      obtain ⟨tb, to', ht, cT⟩ : ∃ b o, ta = some ⟨b, o, none⟩ ∧ ∀ i, i < nt → wr.cell? ⟨b, o + i, none⟩ = some (.int .i64 (T.getD i 0)) := by
        have rr := HT.out wr B6.out
        have h1 := HL.out.2.2
        rw [h1] at rr
        rcases rr with ⟨e, _⟩ | ⟨b, o, cp, e, _, _, _, y⟩
        · rw [e] at h1; simp at h1; omega
        · simp at e; exact ⟨b, o, e.1, fun i hi => y i (by omega)⟩
      subst he ht
      obtain ⟨em, hem⟩ : ∃ m : Nat, ne = m + 1 := ⟨ne - 1, by omega⟩
      obtain ⟨tm, htm⟩ : ∃ m : Nat, nt = m + 1 := ⟨nt - 1, by omega⟩
      have e0 := cE 0 (by omega)
      have e1 := cE em (by omega)
      have t0 := cT 0 (by omega)
      have t1 := cT tm (by omega)
      rw [Nat.add_zero] at e0 t0
      have HS' : Hid (T.getD 0 0 ≤ E.getD 0 0 → E.getD em 0 ≤ T.getD tm 0 → tot X X.length = tot A A.length) := fun h1 h2 => HS.out h1 (by
        have a1 : E.length - 1 = em := by have := HL.out.1; omega
        have a2 : T.length - 1 = tm := by have := HL.out.2.2; omega
        rw [a1, a2]; exact h2)
      have SX : Hid (∀ n, Calls Try.prog 9 #[.slice xa nx xc] (wr.drewN n) fun e w' => e = .returned (.int .i64 (tot X X.length)) ∧ w' = wr.drewN n) := fun n => (by
        have rr := R6.out.on (drewN_below wr.heap.size wr n)
        have h1 := HNX.out
        have h2 := lsum_any X (.slice xa nx xc) (wr.drewN n) rr (by have := lR.out; omega) (by have := lR.out; omega) (fun j hj => by have := HP.out j hj; omega)
        exact h2)
      have SA : Hid (∀ n, Calls Try.prog 9 #[.slice aa na ac] (wr.drewN n) fun e w' => e = .returned (.int .i64 (tot A A.length)) ∧ w' = wr.drewN n) := fun n => (by
        have rr := HA.out (wr.drewN n) (B6.out.trans (drewN_below _ _ _))
        exact lsum_any A _ (wr.drewN n) rr (by have := HL.out.2.1; omega) (by have := HL.out.2.1; omega) HAZ.out)
      have FB : Hid (∀ n, Below w.heap.size w (wr.drewN n)) := fun n => BW.out _ (B6.out.trans (drewN_below _ _ _))
      generalize E.getD 0 0 = y0 at *
      generalize E.getD em 0 = y1 at *
      generalize T.getD 0 0 = x0 at *
      generalize T.getD tm 0 = x1 at *
      generalize tot X X.length = s1 at *
      generalize tot A A.length = s2 at *
      have f1 : IntKind.i64.wrap ((ne : Int) - 1) = (em : Int) := by
        have : (ne : Int) - 1 = (em : Int) := by omega
        rw [this]; exact IntWalk.i64_in _ (by omega)
      have f2 : IntKind.i64.wrap ((nt : Int) - 1) = (tm : Int) := by
        have : (nt : Int) - 1 = (tm : Int) := by omega
        rw [this]; exact IntWalk.i64_in _ (by omega)
      have g1 : (0 : Int) ≤ (em : Int) := by omega
      have g2 : (em : Int) < (ne : Int) := by omega
      have g3 : (0 : Int) ≤ (tm : Int) := by omega
      have g4 : (tm : Int) < (nt : Int) := by omega
      have g5 : (0 : Int) < (ne : Int) := by omega
      have g6 : (0 : Int) < (nt : Int) := by omega
      have g7 : 0 < ne := by omega
      have g8 : 0 < nt := by omega
      have g9 : em < ne := by omega
      have g10 : tm < nt := by omega
      have g11 : (ne : Int) - 1 = (em : Int) := by omega
      have g12 : (nt : Int) - 1 = (tm : Int) := by omega
      have g13 : IntKind.i64.wrap (em : Int) = (em : Int) := IntWalk.i64_in _ (by omega)
      have g14 : IntKind.i64.wrap (tm : Int) = (tm : Int) := IntWalk.i64_in _ (by omega)
      clear hem htm cE cT HCX HP HS lR hk
      by_cases h1 : y0 < x0
      · have d1 : decide (y0 < x0) = true := decide_eq_true h1
        go_wp2_with fail
        go_quiet (fail)
        go_wp2_with fail
        go_ret
        exact ⟨rfl, FB.out _⟩
      have d1 : decide (y0 < x0) = false := decide_eq_false h1
      by_cases h2 : x1 < y1
      · have d2 : decide (x1 < y1) = true := decide_eq_true h2
        go_wp2_with fail
        go_quiet (fail)
        go_wp2_with fail
        go_ret
        exact ⟨rfl, FB.out _⟩
      have d2 : decide (x1 < y1) = false := decide_eq_false h2
      have hs : s1 = s2 := HS'.out (by omega) (by omega)
      subst hs
      clear HS'
      go_upto_region 18 with fail
      obtain ⟨vX, hvX⟩ : ∃ v, v = Value.slice xa nx xc := ⟨_, rfl⟩
      obtain ⟨vA, hvA⟩ : ∃ v, v = Value.slice aa na ac := ⟨_, rfl⟩
      rw [← hvX] at SX ⊢
      rw [← hvA] at SA ⊢
      clear hvX hvA
      go_quiet (first | (go_at_call_of 9 vX; exact Calls.quiet_of_same (SX.out _)) | (go_at_call_of 9 vA; exact Calls.quiet_of_same (SA.out _)))
      go_wp2_with fail
      go_ret
      exact ⟨rfl, FB.out _⟩
end Go.Proofs.Ytlcbahlplablmaa.Rm
