/- Levels that stay, plainly; the law. -/
import Derived.Test.YtlegcimlhgkibaaDs
namespace Go.Proofs.Ytlegcimlhgkibaa.Lv
open Go.ChangeShapes Go.WideShapes Go.ChangeAt Go.RowKit
open Go.Proofs.Ytlegcimlhgkibaa.Lists Go.Proofs.Ytlegcimlhgkibaa.Al Go.Proofs.Ytlegcimlhgkibaa.Se

theorem cnt_low {L : List Int} {x : Int} {q : Nat} : ∀ k, (∀ j, q ≤ j → j < k → x < L.getD j 0) → cnt L x k ≤ q := by
  intro k
  induction k with
  | zero => exact fun _ => Nat.zero_le _
  | succ k ih =>
    intro h
    have h1 := ih fun j a b => h j a (by omega)
    have h2 := cnt_le L x k
    by_cases hk : q ≤ k
    · rw [cnt_stay (by have := h k hk (by omega); omega)]
      exact h1
    · by_cases e : L.getD k 0 ≤ x
      · rw [cnt_up e]; omega
      · rw [cnt_stay e]; omega
theorem tp_low {L : List Int} {x : Int} {q : Nat} (hn : Nf L) (h : x < L.getD q 0) : tp L x ≤ q := cnt_low _ fun j a b => by
  have := hn.2 q j a b
  omega
theorem tp_at {L : List Int} {x : Int} (hn : Nf L) (h : 0 < tp L x) : L.getD (tp L x - 1) 0 ≤ x := by
  have h1 := tp_le L x
  by_cases e : L.getD (tp L x - 1) 0 ≤ x
  · exact e
  · have := tp_low hn (x := x) (q := tp L x - 1) (by omega)
    omega
theorem rise {A B : List Int} {h : Nat} {S : List Int} {k : Nat} (ho : okB A B = true) (hh : 1 ≤ h) (hr : (rn A B h S k).1 < (rn A B h S (k + 1)).1) : (rn A B h S (k + 1)).2 = 0 ∧ A.getD ((rn A B h S (k + 1)).1 - 1) 0 ≤ S.getD k 0 := by
  obtain ⟨a1, a2, a3, a4, a5⟩ := okB_parts ho
  have hb := rn_bd A B h S a3 hh k
  have e : rn A B h S (k + 1) = st A B h (rn A B h S k) (S.getD k 0) := rfl
  rw [e] at hr ⊢
  generalize rn A B h S k = p at *
  generalize S.getD k 0 = x at *
  unfold st at hr ⊢
  by_cases h1 : p.1 < tp A x
  · rw [if_pos h1]
    exact ⟨rfl, tp_at a4 (by omega)⟩
  · rw [if_neg h1] at hr
    by_cases h2 : 0 < p.1 ∧ x < B.getD (p.1 - 1) 0
    · rw [if_pos h2] at hr
      have := tp_low a5 (q := p.1 - 1) h2.2
      by_cases h3 : p.2 + 1 = h
      · rw [if_pos h3] at hr; simp only at hr; omega
      · rw [if_neg h3] at hr; simp only at hr; omega
    · rw [if_neg h2] at hr; simp only at hr; omega
theorem stays {A B : List Int} {h : Nat} {S : List Int} {i : Nat} (hc : (rn A B h S (i + 1)).2 = 0) : ∀ m, m < h → (rn A B h S (i + 1)).1 ≤ (rn A B h S (i + 1 + m)).1 ∧ (rn A B h S (i + 1 + m)).2 ≤ m := by
  intro m
  induction m with
  | zero => exact fun _ => ⟨Nat.le_refl _, by rw [Nat.add_zero, hc]; exact Nat.le_refl _⟩
  | succ m ih =>
    intro hm
    obtain ⟨h1, h2⟩ := ih (by omega)
    have e : rn A B h S (i + 1 + (m + 1)) = st A B h (rn A B h S (i + 1 + m)) (S.getD (i + 1 + m) 0) := rfl
    rw [e]
    generalize (rn A B h S (i + 1)).1 = l at *
    generalize rn A B h S (i + 1 + m) = p at *
    generalize S.getD (i + 1 + m) 0 = x at *
    unfold st
    by_cases g1 : p.1 < tp A x
    · rw [if_pos g1]
      exact ⟨by show l ≤ tp A x; omega, Nat.zero_le _⟩
    · rw [if_neg g1]
      by_cases g2 : 0 < p.1 ∧ x < B.getD (p.1 - 1) 0
      · rw [if_pos g2]
        by_cases g3 : p.2 + 1 = h
        · omega
        · rw [if_neg g3]
          exact ⟨h1, by show p.2 + 1 ≤ m + 1; omega⟩
      · rw [if_neg g2]
        exact ⟨h1, Nat.zero_le _⟩
theorem sl_any (S A B : List Int) (h : Int) (w : World) (t0 t1 t2 : Value) (k0 : Lists.Reads w t0 S) (k1 : Lists.Reads w t1 A) (k2 : Lists.Reads w t2 B) (fS : S.length < 9223372036854775808) (fA : A.length < 9223372036854775808) (fB : B.length < 9223372036854775808) : Calls Try.prog 6 #[t0, t1, t2, .int .i64 h] w fun e w' => ∃ u0, e = .returned (.tuple #[u0, .bool (good S A B h)]) ∧ w'.ownsRow w.heap.size 2 1 u0 (X0 S A B h).length (ints (X0 S A B h)) ∧ Below w.heap.size w w' := by
  cases h1 : okS S
  · obtain ⟨e1, e2⟩ := good_no1 (S := S) (A := A) (B := B) (h := h) h1
    rw [e1, e2]
    exact s_no1 S A B h t0 t1 t2 w k0 k1 k2 fS fA fB h1
  · cases h2 : (okB A B && inn h 1 100)
    · obtain ⟨e1, e2⟩ := good_no2 (S := S) (A := A) (B := B) (h := h) h2
      rw [e1, e2]
      exact s_no2 S A B h t0 t1 t2 w k0 k1 k2 fS fA fB h1 h2
    · rw [Bool.and_eq_true] at h2
      obtain ⟨e1, e2⟩ := good_yes h1 h2.1 h2.2
      have hp := (inn_iff _ _ _).1 h2.2
      have he : h = (h.toNat : Int) := by omega
      rw [e1, e2, lvs_len]
      have h3 := h2.2
      rw [he] at h3
      rw [he]
      exact s_yes S A B h.toNat t0 t1 t2 w k0 k1 k2 fS fA fB h1 h2.1 h3
theorem il_any (S A B : List Int) (h : Int) (w : World) (t0 t1 t2 : Value) (k0 : Lists.Reads w t0 S) (k1 : Lists.Reads w t1 A) (k2 : Lists.Reads w t2 B) (fS : S.length < 9223372036854775808) (fA : A.length < 9223372036854775808) (fB : B.length < 9223372036854775808) : Calls Try.prog 7 #[t0, t1, t2, .int .i64 h] w fun e w' => ∃ u0, e = .returned (.tuple #[u0, .bool (good S A B h)]) ∧ w'.ownsRow w.heap.size 2 1 u0 (X0 S A B h).length (ints (X0 S A B h)) ∧ Below w.heap.size w w' := by
  cases h1 : okS S
  · obtain ⟨e1, e2⟩ := good_no1 (S := S) (A := A) (B := B) (h := h) h1
    rw [e1, e2]
    exact i_no1 S A B h t0 t1 t2 w k0 k1 k2 fS fA fB h1
  · cases h2 : okB A B
    · obtain ⟨e1, e2⟩ := good_no2 (S := S) (A := A) (B := B) (h := h) (by rw [h2]; rfl)
      rw [e1, e2]
      exact i_no2 S A B h t0 t1 t2 w k0 k1 k2 fS fA fB h1 h2
    · cases h3 : inn h 1 100
      · obtain ⟨e1, e2⟩ := good_no2 (S := S) (A := A) (B := B) (h := h) (by rw [h3]; simp)
        rw [e1, e2]
        exact i_no3 S A B h t0 t1 t2 w k0 k1 k2 fS fA fB h1 h2 h3
      · obtain ⟨e1, e2⟩ := good_yes h1 h2 h3
        have hp := (inn_iff _ _ _).1 h3
        have he : h = (h.toNat : Int) := by omega
        rw [e1, e2, lvs_len]
        rw [he] at h3
        rw [he]
        exact i_yes S A B h.toNat t0 t1 t2 w k0 k1 k2 fS fA fB h1 h2 h3

set_option maxRecDepth 20000 in
set_option maxHeartbeats 4000000 in
theorem steadyLaw (a : Option Addr) (len cap : Nat) (w : World) (hc : Go.Proofs.Ytlegcimlhgkibaa.Rd.Code w a len cap) (hn : len < 9223372036854775808) : Calls Try.prog 3 #[.slice a len cap] w fun e w' => e = .returned (.bool true) ∧ Below w.heap.size w w' := by
  by_cases hl : 1048576 < len
  · have C : Hid (Calls Try.prog 4 #[.slice a len cap] w fun e w' => e = .returned (.bool true) ∧ w' = w) := Rd.big_yes a len cap w hl hn
    clear hc
    go_enter Try.func3, Try.ntmps3
    go_wp2_with fail
    refine C.out.mono ?_
    rintro e w1 ⟨rfl, hw⟩
    subst hw
    go_wp2_with fail
    go_ret
    exact ⟨rfl, Below.refl _ _⟩
  have C : Hid (Calls Try.prog 4 #[.slice a len cap] w fun e w' => e = .returned (.bool false) ∧ w' = w) := Rd.big_no a len cap w (by omega)
  have D : Hid (Calls Try.prog 5 #[.slice a len cap] w fun e w' => ∃ vS vA vB S A Bl, ∃ h : Int, e = .returned (.tuple #[vS, vA, vB, .int .i64 h]) ∧ Lists.Reads w' vS S ∧ Lists.Reads w' vA A ∧ Lists.Reads w' vB Bl ∧ S.length ≤ 501 ∧ A.length ≤ 5 ∧ Bl.length ≤ 5 ∧ Below w.heap.size w w') := Dc.dlev_any a len cap w hc (by omega)
  clear hc
  go_enter Try.func3, Try.ntmps3
  go_wp2_with fail
  refine C.out.mono ?_
  rintro e w1 ⟨rfl, hw⟩
  have hw' := hw.symm
  subst hw'
  clear hw
  go_wp2_with fail
  refine D.out.mono ?_
  rintro e w1 ⟨vS, vA, vB, S, A, B, h, rfl, rS, rA, rB, lS, lA, lB, hb⟩
  have B1 : Hid (Below w.heap.size w w1) := hb
  have SA : Hid (Calls Try.prog 6 #[vS, vA, vB, .int .i64 h] w1 fun e w' => ∃ u0, e = .returned (.tuple #[u0, .bool (good S A B h)]) ∧ w'.ownsRow w1.heap.size 2 1 u0 (X0 S A B h).length (ints (X0 S A B h)) ∧ Below w1.heap.size w1 w') := sl_any S A B h w1 vS vA vB rS rA rB (by omega) (by omega) (by omega)
  have IA : Hid (∀ w2, Below w1.heap.size w1 w2 → Calls Try.prog 7 #[vS, vA, vB, .int .i64 h] w2 fun e w' => ∃ u0, e = .returned (.tuple #[u0, .bool (good S A B h)]) ∧ w'.ownsRow w2.heap.size 2 1 u0 (X0 S A B h).length (ints (X0 S A B h)) ∧ Below w2.heap.size w2 w') := fun w2 hb => il_any S A B h w2 vS vA vB (rS.on hb) (rA.on hb) (rB.on hb) (by omega) (by omega) (by omega)
  cases ho : good S A B h
  · have ex : X0 S A B h = [] := by unfold X0; rw [ho]; rfl
    rw [ho, ex] at SA IA
    obtain ⟨sa, sc, hv⟩ := rS.form
    subst hv
    obtain ⟨aa, ac, hv⟩ := rA.form
    subst hv
    obtain ⟨ba, bc, hv⟩ := rB.form
    subst hv
    clear ho ex rS rA rB hb C D
    go_wp2_with fail
    refine SA.out.mono ?_
    rintro e w2 ⟨u0, rfl, r2, b2⟩
    have B2 : Hid (Below w1.heap.size w1 w2) := b2
    obtain ⟨ua, uc, hv⟩ := row_form r2
    subst hv
    clear b2 r2
    go_wp2_with fail
    refine (IA.out w2 B2.out).mono ?_
    rintro e w3 ⟨u1, rfl, r3, b3⟩
    have B3 : Hid (Below w.heap.size w w3) := B1.out.trans ((B2.out.trans (b3.mono B2.out.size)).mono B1.out.size)
    obtain ⟨xa, xc, hv⟩ := row_form r3
    subst hv
    clear b3 r3
    go_wp2_with fail
    go_ret
    exact ⟨rfl, B3.out⟩
  · have ho' := ho
    unfold good at ho'
    simp only [Bool.and_eq_true] at ho'
    obtain ⟨o1, o2, o3⟩ := ho'
    obtain ⟨e1, _⟩ := good_yes o1 o2 o3
    have hp := (inn_iff _ _ _).1 o3
    obtain ⟨hh, he⟩ : ∃ hh : Nat, h = (hh : Int) := ⟨h.toNat, by omega⟩
    subst he
    rw [Int.toNat_natCast] at e1
    obtain ⟨a1, a2, a3, a4, a5⟩ := okB_parts o2
    obtain ⟨s1, s2, _⟩ := okS_parts o1
    rw [ho, e1, lvs_len] at SA IA
    have HG : Hid (∀ i, i < S.length → (lvs A B hh S S.length).getD i 0 = ((rn A B hh S (i + 1)).1 : Int)) := lvs_get A B hh S S.length
    have HL : Hid ((lvs A B hh S S.length).length = S.length) := lvs_len A B hh S S.length
    have HRN : Hid (∀ k, (rn A B hh S k).1 ≤ A.length) := fun k => (rn_bd A B hh S a3 (by omega) k).1
    have HRI : Hid (∀ k, (rn A B hh S k).1 < (rn A B hh S (k + 1)).1 → A.getD ((rn A B hh S (k + 1)).1 - 1) 0 ≤ S.getD k 0 ∧ ∀ m, m < hh → (rn A B hh S (k + 1)).1 ≤ (rn A B hh S (k + 1 + m)).1) := fun k hk => (by
      obtain ⟨q1, q2⟩ := rise o2 (by omega) hk
      exact ⟨q2, fun m hm => (stays q1 m hm).1⟩)
    have H0 : Hid ((rn A B hh S 0).1 = 0) := rfl
    obtain ⟨bS, oS, cS, vS'⟩ := reads_at rS
    obtain ⟨bA, oA, cA, vA'⟩ := reads_at rA
    obtain ⟨zS, capS, hv⟩ := vS' (by omega)
    subst hv
    obtain ⟨zA, capA, hv⟩ := vA' (by omega)
    subst hv
    obtain ⟨ba, bc, hv⟩ := rB.form
    subst hv
    have CS : Hid (∀ w', Below w1.heap.size w1 w' → ∀ i, i < S.length → w'.cell? ⟨bS, oS + i, none⟩ = some (.int .i64 (S.getD i 0))) := fun w' hb i hi => (hb.cell (p := ⟨bS, oS + i, none⟩) zS).trans (cS i hi)
    have CA : Hid (∀ w', Below w1.heap.size w1 w' → ∀ i, i < A.length → w'.cell? ⟨bA, oA + i, none⟩ = some (.int .i64 (A.getD i 0))) := fun w' hb i hi => (hb.cell (p := ⟨bA, oA + i, none⟩) zA).trans (cA i hi)
    clear ho rS rA rB hb C D o1 o2 o3 e1 a3 a4 a5 cS cA vS' vA' lB
    obtain ⟨n, hn'⟩ : ∃ n, n = S.length := ⟨_, rfl⟩
    obtain ⟨na, hna⟩ : ∃ na, na = A.length := ⟨_, rfl⟩
    rw [← hn'] at lS s1 s2 SA IA HG HL CS ⊢
    rw [← hna] at lA a1 a2 SA IA HRN CA ⊢
    clear hn' hna
    generalize lvs A B hh S n = X at *
    go_wp2_with fail
    refine SA.out.mono ?_
    rintro e w2 ⟨u0, rfl, r2, b2⟩
    have B2 : Hid (Below w1.heap.size w1 w2) := b2
    obtain ⟨ua, uc, hv⟩ := row_form r2
    subst hv
    clear b2 r2
    go_wp2_with fail
    refine (IA.out w2 B2.out).mono ?_
    rintro e w3 ⟨u1, rfl, r3, b3⟩
    have B3 : Hid (Below w1.heap.size w1 w3) := B2.out.trans (b3.mono B2.out.size)
    have BE : Hid (Below w.heap.size w w3) := B1.out.trans (B3.out.mono B1.out.size)
    rcases row_cases (L := X) (by rw [HL.out]; exact r3) with ⟨e0, _⟩ | ⟨g, cg, ev, gb, gs, gc, gm⟩
    · have := HL.out; rw [e0] at this; simp at this; omega
    rw [HL.out] at ev
    subst ev
    have CX : Hid (∀ i, i < n → w3.cell? ⟨g, i, none⟩ = some (.int .i64 ((rn A B hh S (i + 1)).1 : Int))) := fun i hi => (by
      have h' : w3.ownsRow w2.heap.size 2 1 (.slice (some ⟨g, 0, none⟩) X.length cg) X.length (ints X) := by rw [HL.out]; exact r3
      have := row_cell h' i (by rw [HL.out]; exact hi)
      rw [HG.out i hi] at this
      exact this)
    have CS3 : Hid (∀ i, i < n → w3.cell? ⟨bS, oS + i, none⟩ = some (.int .i64 (S.getD i 0))) := CS.out w3 B3.out
    have CA3 : Hid (∀ i, i < na → w3.cell? ⟨bA, oA + i, none⟩ = some (.int .i64 (A.getD i 0))) := CA.out w3 B3.out
    have e0 : ((n : Int) != (n : Int)) = false := by simp
    clear b3 r3 SA IA CS CA HG HL gm
    go_wp2_with fail
    go_loopw [11] (fun i wr => ∃ k : Nat, k ≤ n ∧ i = .int .i64 k ∧ ∃ m, wr = w3.drewN m) (fun i _ => n - (intOf i).toNat)
    case atStart => exact ⟨0, Nat.zero_le _, rfl, 0, rfl⟩
    case round =>
      obtain ⟨k, hk, rfl, m, rfl⟩ := hrel
      by_cases hlt : k < n
      · have i1 : (0 : Int) ≤ (k : Int) := by omega
        have i2 : (k : Int) < (n : Int) := by omega
        have c1 := CX.out k hlt
        have c1d : (w3.drewN m).cell? ⟨g, k, none⟩ = some (.int .i64 ((rn A B hh S (k + 1)).1 : Int)) := c1
        have b1 := HRN.out (k + 1)
        have g1 : ¬ ((rn A B hh S (k + 1)).1 : Int) < 0 := by omega
        have g2 : decide ((na : Int) < ((rn A B hh S (k + 1)).1 : Int)) = false := decide_eq_false (by omega)
        have g3 : decide (((rn A B hh S (k + 1)).1 : Int) < 0) = false := decide_eq_false (by omega)
        have g4 : ¬ (na : Int) < ((rn A B hh S (k + 1)).1 : Int) := by omega
        -- the number ahead
        by_cases hk0 : k = 0
        · have G0 : decide ((0 : Int) < (k : Int)) = false := decide_eq_false (by omega)
          have G00 : decide (0 < k) = false := decide_eq_false (by omega)
          have hwas : (rn A B hh S k).1 = 0 := by rw [hk0]; exact H0.out
          have HW : Hid ((rn A B hh S k).1 = 0) := hwas
          clear hwas
          by_cases hle : ((rn A B hh S (k + 1)).1 : Int) ≤ 0
          · generalize (rn A B hh S (k + 1)).1 = l at *
            clear hk0
            go_wp2_with fail
            go_roundw
            case rel => exact ⟨k + 1, by omega, by go_num, m, rfl⟩
            case measure => simp [intOf]; omega
          · obtain ⟨q1, q2⟩ := HRI.out k (by rw [HW.out]; omega)
            clear hk0
            obtain ⟨l, hl'⟩ : ∃ l, l = (rn A B hh S (k + 1)).1 := ⟨_, rfl⟩
            have HLL : Hid (l = (rn A B hh S (k + 1)).1) := hl'
            rw [← hl'] at c1 c1d b1 g1 g2 g3 g4 hle q1 q2
            clear hl'
            have cs := CS3.out k hlt
            have ca := CA3.out (l - 1) (by omega)
            have p1 : (0 : Int) ≤ (l : Int) - 1 := by omega
            have p2 : (l : Int) - 1 < (na : Int) := by omega
            have p3 : ((l : Int) - 1).toNat = l - 1 := by omega
            have p4 : IntKind.i64.wrap ((l : Int) - 1) = (l : Int) - 1 := IntWalk.i64_in _ (by omega)
            have p5 : ¬ S.getD k 0 < A.getD (l - 1) 0 := by omega
            have p6 : decide (S.getD k 0 < A.getD (l - 1) 0) = false := decide_eq_false p5
            have Q2 : Hid (∀ m, m < hh → l ≤ (rn A B hh S (k + 1 + m)).1) := q2
            clear q1 q2
            generalize S.getD k 0 = x at *
            generalize A.getD (l - 1) 0 = y at *
            go_wp2_with fail
            go_quiet (fail)
            clear cs ca p1 p2 p3 p4 p5 p6
            obtain ⟨m2, hm2⟩ : ∃ m2, (w3.drewN m).drewN nq = w3.drewN m2 := ⟨m + nq, by simp⟩
            rw [hm2]
            clear hm2
            have c1e : (w3.drewN m2).cell? ⟨g, k, none⟩ = some (.int .i64 (l : Int)) := c1
            go_wp2_with fail
            go_loopw [13] (fun i wr => ∃ j : Nat, k ≤ j ∧ j ≤ n ∧ j ≤ k + hh ∧ i = .int .i64 j ∧ ∃ m, wr = w3.drewN m) (fun i _ => n - (intOf i).toNat)
            case atStart => exact ⟨k, Nat.le_refl _, by omega, by omega, rfl, m2, rfl⟩
            case round =>
              obtain ⟨j, hj1, hj2, hj3, rfl, m3, rfl⟩ := hrel
              by_cases hjn : j < n
              · have t1 : (j : Int) < (n : Int) := by omega
                have t2 : (0 : Int) ≤ (j : Int) := by omega
                have t3 : IntKind.i64.wrap ((j : Int) - (k : Int)) = (j : Int) - (k : Int) := IntWalk.i64_in _ (by omega)
                by_cases hjh : j < k + hh
                · have t4 : (j : Int) - (k : Int) < (hh : Int) := by omega
                  have cj := CX.out j hjn
                  have lj := Q2.out (j - k) (by omega)
                  rw [show k + 1 + (j - k) = j + 1 by omega] at lj
                  have p7 : decide (((rn A B hh S (j + 1)).1 : Int) < (l : Int)) = false := decide_eq_false (by omega)
                  have p8 : ¬ ((rn A B hh S (j + 1)).1 : Int) < (l : Int) := by omega
                  generalize (rn A B hh S (j + 1)).1 = lj' at *
                  go_wp2_with fail
                  go_quiet (fail)
                  go_wp2_with fail
                  go_roundw
                  case rel => exact ⟨j + 1, by omega, by omega, by omega, by go_num, m3 + nq, by simp⟩
                  case measure => simp [intOf]; omega
                · have t4 : ¬ (j : Int) - (k : Int) < (hh : Int) := by omega
                  have t5 : decide ((j : Int) - (k : Int) < (hh : Int)) = false := decide_eq_false t4
                  go_wp2_with fail
                  go_roundw
                  case rel => exact ⟨k + 1, by omega, by go_num, m3, rfl⟩
                  case measure => simp [intOf]; omega
              · have t1 : ¬ (j : Int) < (n : Int) := by omega
                have t5 : decide ((j : Int) < (n : Int)) = false := decide_eq_false t1
                go_wp2_with fail
                go_roundw
                case rel => exact ⟨k + 1, by omega, by go_num, m3, rfl⟩
                case measure => simp [intOf]; omega
        · have G0 : decide ((0 : Int) < (k : Int)) = true := decide_eq_true (by omega)
          have G1 : (0 : Int) < (k : Int) := by omega
          have G2 : 0 < k := by omega
          have j1 : (0 : Int) ≤ (k : Int) - 1 := by omega
          have j2 : (k : Int) - 1 < (n : Int) := by omega
          have j3 : ((k : Int) - 1).toNat = k - 1 := by omega
          have j4 : IntKind.i64.wrap ((k : Int) - 1) = (k : Int) - 1 := IntWalk.i64_in _ (by omega)
          have c2 : (w3.drewN m).cell? ⟨g, k - 1, none⟩ = some (.int .i64 ((rn A B hh S k).1 : Int)) := (by
            have := CX.out (k - 1) (by omega)
            rw [show k - 1 + 1 = k by omega] at this
            exact this)
          by_cases hle : ((rn A B hh S (k + 1)).1 : Int) ≤ ((rn A B hh S k).1 : Int)
          · generalize (rn A B hh S (k + 1)).1 = l at *
            generalize (rn A B hh S k).1 = l0 at *
            clear hk0
            go_wp2_with fail
            go_roundw
            case rel => exact ⟨k + 1, by omega, by go_num, m, rfl⟩
            case measure => simp [intOf]; omega
          · obtain ⟨q1, q2⟩ := HRI.out k (by omega)
            have HB0 := HRN.out k
            generalize (rn A B hh S k).1 = l0 at *
            clear hk0
            obtain ⟨l, hl'⟩ : ∃ l, l = (rn A B hh S (k + 1)).1 := ⟨_, rfl⟩
            have HLL : Hid (l = (rn A B hh S (k + 1)).1) := hl'
            rw [← hl'] at c1 c1d b1 g1 g2 g3 g4 hle q1 q2
            clear hl'
            have cs := CS3.out k hlt
            have ca := CA3.out (l - 1) (by omega)
            have p1 : (0 : Int) ≤ (l : Int) - 1 := by omega
            have p2 : (l : Int) - 1 < (na : Int) := by omega
            have p3 : ((l : Int) - 1).toNat = l - 1 := by omega
            have p4 : IntKind.i64.wrap ((l : Int) - 1) = (l : Int) - 1 := IntWalk.i64_in _ (by omega)
            have p5 : ¬ S.getD k 0 < A.getD (l - 1) 0 := by omega
            have p6 : decide (S.getD k 0 < A.getD (l - 1) 0) = false := decide_eq_false p5
            have Q2 : Hid (∀ m, m < hh → l ≤ (rn A B hh S (k + 1 + m)).1) := q2
            clear q1 q2
            generalize S.getD k 0 = x at *
            generalize A.getD (l - 1) 0 = y at *
            go_wp2_with fail
            go_quiet (fail)
            clear cs ca p1 p2 p3 p4 p5 p6
            obtain ⟨m2, hm2⟩ : ∃ m2, (w3.drewN m).drewN nq = w3.drewN m2 := ⟨m + nq, by simp⟩
            rw [hm2]
            clear hm2
            have c1e : (w3.drewN m2).cell? ⟨g, k, none⟩ = some (.int .i64 (l : Int)) := c1
            go_wp2_with fail
            go_loopw [13] (fun i wr => ∃ j : Nat, k ≤ j ∧ j ≤ n ∧ j ≤ k + hh ∧ i = .int .i64 j ∧ ∃ m, wr = w3.drewN m) (fun i _ => n - (intOf i).toNat)
            case atStart => exact ⟨k, Nat.le_refl _, by omega, by omega, rfl, m2, rfl⟩
            case round =>
              obtain ⟨j, hj1, hj2, hj3, rfl, m3, rfl⟩ := hrel
              by_cases hjn : j < n
              · have t1 : (j : Int) < (n : Int) := by omega
                have t2 : (0 : Int) ≤ (j : Int) := by omega
                have t3 : IntKind.i64.wrap ((j : Int) - (k : Int)) = (j : Int) - (k : Int) := IntWalk.i64_in _ (by omega)
                by_cases hjh : j < k + hh
                · have t4 : (j : Int) - (k : Int) < (hh : Int) := by omega
                  have cj := CX.out j hjn
                  have lj := Q2.out (j - k) (by omega)
                  rw [show k + 1 + (j - k) = j + 1 by omega] at lj
                  have p7 : decide (((rn A B hh S (j + 1)).1 : Int) < (l : Int)) = false := decide_eq_false (by omega)
                  have p8 : ¬ ((rn A B hh S (j + 1)).1 : Int) < (l : Int) := by omega
                  generalize (rn A B hh S (j + 1)).1 = lj' at *
                  go_wp2_with fail
                  go_quiet (fail)
                  go_wp2_with fail
                  go_roundw
                  case rel => exact ⟨j + 1, by omega, by omega, by omega, by go_num, m3 + nq, by simp⟩
                  case measure => simp [intOf]; omega
                · have t4 : ¬ (j : Int) - (k : Int) < (hh : Int) := by omega
                  have t5 : decide ((j : Int) - (k : Int) < (hh : Int)) = false := decide_eq_false t4
                  go_wp2_with fail
                  go_roundw
                  case rel => exact ⟨k + 1, by omega, by go_num, m3, rfl⟩
                  case measure => simp [intOf]; omega
              · have t1 : ¬ (j : Int) < (n : Int) := by omega
                have t5 : decide ((j : Int) < (n : Int)) = false := decide_eq_false t1
                go_wp2_with fail
                go_roundw
                case rel => exact ⟨k + 1, by omega, by go_num, m3, rfl⟩
                case measure => simp [intOf]; omega
      · go_wp2_with fail
        go_ret
        exact ⟨rfl, Rd.below_drewN BE.out _⟩
end Go.Proofs.Ytlegcimlhgkibaa.Lv
