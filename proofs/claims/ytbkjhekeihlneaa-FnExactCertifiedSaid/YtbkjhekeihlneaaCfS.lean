/- Certified: what is told, plain; the model. -/
import Derived.Test.YtbkjhekeihlneaaCf
namespace Go.Proofs.Ytbkjhekeihlneaa.Cf
open Go.ChangeShapes Go.WideShapes Go.ChangeAt Go.RowKit
open Go.Proofs.Ytbkjhekeihlneaa.Lists Go.Proofs.Ytbkjhekeihlneaa.Al Go.Proofs.Ytbkjhekeihlneaa.Po Go.Proofs.Ytbkjhekeihlneaa.Cs

def bad (n : Int) (G T : List Int) (R : Rw.Ls) (X : List Int) (i : Nat) (t : Int) : Bool := okC n G T R (mv X i t) && decide (cost G T R (mv X i t) G.length < cost G T R X G.length)
def cert (n : Int) (G T : List Int) (R : Rw.Ls) (X : List Int) : Bool := okC n G T R X && (List.range G.length).all (fun i => !bad n G T R X i (-1) && !bad n G T R X i 1)
section
variable {n : Int} {G T : List Int} {R : Rw.Ls} {X : List Int}
theorem okc_ok (h : okC n G T R X = true) : Ok G.length G T R ∧ Pt G.length X ∧ (G.length : Int) = n ∧ X.length = G.length := by
  unfold okC at h
  rw [Bool.and_eq_true] at h
  have O := ok_of h.1
  have P := pt_of (M := 200000) (by omega) O h.2
  have e := O.nG
  rw [← e] at O
  exact ⟨O, P, e, P.len⟩
theorem cost_nn (h : okC n G T R X = true) : 0 ≤ cost G T R X G.length := by
  obtain ⟨O, P, _, _⟩ := okc_ok h
  have a := ct_b O P G.length (Nat.le_refl _)
  have b := cr_b O P R.length (Nat.le_refl _)
  unfold cost
  omega
theorem cv_yes (h : okC n G T R X = true) : cv n G T R X = cost G T R X G.length := by unfold cv; rw [if_pos h]
theorem cv_no (h : okC n G T R X = false) : cv n G T R X = -1 := by unfold cv; rw [h]; rfl
theorem bad_iff (i : Nat) (t : Int) : bad n G T R X i t = true ↔ 0 ≤ cv n G T R (mv X i t) ∧ cv n G T R (mv X i t) < cost G T R X G.length := by
  unfold bad
  cases h : okC n G T R (mv X i t)
  · rw [cv_no h]; simp
  · rw [cv_yes h]; have := cost_nn h; simp; omega
theorem bad_zero {i : Nat} (hi : i < X.length) : bad n G T R X i 0 = false := by
  unfold bad
  rw [mv_zero X i hi]
  simp
theorem cert_no {i : Nat} {t : Int} (hi : i < G.length) (ht : t = -1 ∨ t = 1) (h : bad n G T R X i t = true) : cert n G T R X = false := by
  unfold cert
  have : (List.range G.length).all (fun i => !bad n G T R X i (-1) && !bad n G T R X i 1) = false := by
    rw [List.all_eq_false]
    refine ⟨i, List.mem_range.2 hi, ?_⟩
    rcases ht with rfl | rfl <;> simp [h]
  rw [this]
  simp
theorem cert_yes (h0 : okC n G T R X = true) (h : ∀ i, i < G.length → bad n G T R X i (-1) = false ∧ bad n G T R X i 1 = false) : cert n G T R X = true := by
  unfold cert
  rw [h0, Bool.true_and, List.all_eq_true]
  intro i hi
  obtain ⟨a, b⟩ := h i (List.mem_range.1 hi)
  simp [a, b]
theorem cert_ok (h : okC n G T R X = false) : cert n G T R X = false := by unfold cert; rw [h]; rfl
end

set_option maxHeartbeats 1000000 in
set_option maxRecDepth 20000 in
theorem scert_any (n : Int) (G T : List Int) (R : Rw.Ls) (X : List Int) (w : World) (vg vt vr vx : Value) (h : LawCsL.PR w G T R vg vt vr) (hX : Lists.Reads w vx X) :
    Calls Try.prog 16 #[Pb.pv n vg vt vr, vx] w fun e w' => e = .returned (.bool (cert n G T R X)) ∧ Below w.heap.size w w' := by
  have CC : Hid (∀ w', Below w.heap.size w w' → ∀ Y vy, Lists.Reads w' vy Y → Calls Try.prog 12 #[Pb.pv n vg vt vr, vy] w' fun e w'' => e = .returned (.int .i64 (cv n G T R Y)) ∧ Below w'.heap.size w' w'') := fun w' hb Y vy hy => scost_all n G T R Y w' vg vt vr vy (h.on hb) hy
  obtain ⟨sg, cg, eg⟩ := h.1.form
  obtain ⟨st, ct, et⟩ := h.2.1.form
  obtain ⟨sr, cr, er⟩ := h.2.2.form
  subst eg et er
  obtain ⟨w0, hw0⟩ : ∃ w0, w0 = w.alloc (Obj.cells #[.int .i64 n, .slice sg G.length cg, .slice st T.length ct, .slice sr R.length cr] 30) := ⟨_, rfl⟩
  have HW0 : Hid (w0 = w.alloc (Obj.cells #[.int .i64 n, .slice sg G.length cg, .slice st T.length ct, .slice sr R.length cr] 30)) := hw0
  have B0 : Hid (Below w.heap.size w w0) := (by show Below _ _ _; rw [hw0]; exact (Below.refl _ _).alloc (Nat.le_refl _) _)
  have Z0 : Hid (w0.heap.size = w.heap.size + 1) := (by show _ = _; rw [hw0]; simp)
  have K0 : Hid (Pb.Box w0 w.heap.size (.int .i64 n) (.slice sg G.length cg) (.slice st T.length ct) (.slice sr R.length cr)) := (by show Pb.Box _ _ _ _ _ _; rw [hw0]; unfold Pb.Box; simp [go_sem])
  obtain ⟨bo, hbo⟩ : ∃ bo, cert n G T R X = bo := ⟨_, rfl⟩
  have HO : Hid (cert n G T R X = bo) := hbo
  have HXR : Hid (Lists.Reads w vx X) := hX
  rw [hbo]
  cases hc : okC n G T R X
  · have e1 := cv_no hc
    have hb0 : bo = false := by rw [← hbo]; exact cert_ok hc
    subst hb0
    have CX : Hid (Calls Try.prog 12 #[Pb.pv n (.slice sg G.length cg) (.slice st T.length ct) (.slice sr R.length cr), vx] w0 fun e w'' => e = .returned (.int .i64 (-1)) ∧ Below w0.heap.size w0 w'') := by have := CC.out w0 B0.out X vx (hX.on B0.out); rw [e1] at this; exact this
    obtain ⟨ax, cx, ex⟩ := hX.form
    subst ex
    clear h hX hw0 hc e1 hbo CC HO HXR
    obtain ⟨k0, k1, k2, k3⟩ := K0.out
    generalize G.length = ng at *
    generalize T.length = nt at *
    generalize R.length = nr at *
    generalize X.length = nx at *
    go_enter Try.func16, Try.ntmps16
    go_wp2_with fail
    rw [← HW0.out]
    refine (Calls.mono CX.out) ?_
    rintro e w1 ⟨rfl, hb⟩
    have B1 : Hid (Below w.heap.size w w1) := B0.out.trans (hb.mono B0.out.size)
    clear hb
    go_wp2_with fail
    go_ret
    exact ⟨rfl, B1.out⟩
  · obtain ⟨O, PX, hn, lX⟩ := okc_ok hc
    have n1 := O.n1
    have n6 := O.n6
    obtain ⟨bx, ox, cx, rfl, bxl, hcx⟩ := at_of hX lX (by omega)
    have CX : Hid (Calls Try.prog 12 #[Pb.pv n (.slice sg G.length cg) (.slice st T.length ct) (.slice sr R.length cr), .slice (some ⟨bx, ox, none⟩) G.length cx] w0 fun e w'' => e = .returned (.int .i64 (cost G T R X G.length)) ∧ Below w0.heap.size w0 w'') := by have := CC.out w0 B0.out X _ (hX.on B0.out); rw [cv_yes hc] at this; exact this
    have MM : Hid (∀ w', Below w.heap.size w w' → ∀ i (t : Int), i < G.length → -1 ≤ t → t ≤ 1 → Calls Try.prog 37 #[.slice (some ⟨bx, ox, none⟩) G.length cx, .int .i64 (i : Int), .int .i64 t] w' fun e w'' => ∃ v', e = .returned v' ∧ Lists.Reads w'' v' (mv X i t) ∧ Below w'.heap.size w' w'') := fun w' hb i t hi t1 t2 => by
      refine (moved_any w' bx ox G.length cx i t X lX (by omega) (Nat.lt_of_lt_of_le bxl hb.size) (fun j hj => (hb.cell (p := ⟨bx, ox + j, none⟩) bxl).trans (hcx j hj)) hi (IntWalk.i64_in _ (by have := PX.b i hi; omega))).mono ?_
      rintro e w'' ⟨v', rfl, h1, h2⟩
      have e1 : (mv X i t).length = G.length := (mv_len X i t).trans lX
      rw [← e1] at h1
      exact ⟨v', rfl, Lists.reads_row h1, h2⟩
    have nn := cost_nn hc
    have hBI : Hid (∀ i t, bad n G T R X i t = true ↔ 0 ≤ cv n G T R (mv X i t) ∧ cv n G T R (mv X i t) < cost G T R X G.length) := fun i t => bad_iff i t
    have HZ : Hid (∀ i, i < G.length → bad n G T R X i 0 = false) := fun i hi => bad_zero (by omega)
    have HNO : Hid (∀ i (t : Int), i < G.length → (t = -1 ∨ t = 1) → bad n G T R X i t = true → bo = false) := fun i t hi ht hh => by rw [← hbo]; exact cert_no hi ht hh
    have HYES : Hid ((∀ i, i < G.length → bad n G T R X i (-1) = false ∧ bad n G T R X i 1 = false) → bo = true) := fun hh => by rw [← hbo]; exact cert_yes hc hh
    clear h hX hw0 hc hbo O PX lX hcx bxl HXR HO
    subst hn
    generalize hm : G.length = m at *
    generalize T.length = nt at *
    generalize R.length = nr at *
    generalize hC0 : cost G T R X m = c0 at *
    clear hm hC0
    obtain ⟨k0, k1, k2, k3⟩ := K0.out
    have i0 : ¬ c0 < 0 := by omega
    go_enter Try.func16, Try.ntmps16
    go_wp2_with fail
    rw [← HW0.out]
    refine (Calls.mono CX.out) ?_
    rintro e w1 ⟨rfl, hb⟩
    have B1 : Hid (Below w0.heap.size w0 w1) := hb
    clear hb k0 k1 k2 k3
    go_wp2_with fail
    go_loopw [6] (fun i wr => ∃ k : Nat, k ≤ m ∧ i = .int .i64 k ∧ Hid (∀ j, j < k → bad (m : Int) G T R X j (-1) = false ∧ bad (m : Int) G T R X j 1 = false) ∧ Hid (Below w0.heap.size w0 wr)) (fun i _ => m - (intOf i).toNat)
    case atStart => exact ⟨0, Nat.zero_le _, rfl, fun j hj => by omega, B1⟩
    case round =>
      obtain ⟨k, hk, rfl, OK, BB⟩ := hrel
      have K1 : Pb.Box wr w.heap.size (.int .i64 (m : Int)) (.slice sg m cg) (.slice st nt ct) (.slice sr nr cr) := K0.out.on BB.out (by have := Z0.out; omega)
      obtain ⟨k0, k1, k2, k3⟩ := K1
      by_cases hkm : k < m
      · have p2 : (k : Int) < (m : Int) := by omega
        go_wp2_with fail
        clear k0 k1 k2 k3
        go_loopw [7] (fun b wr => ∃ q : Nat, q ≤ 3 ∧ b = .int .i64 ((q : Int) - 1) ∧ Hid (∀ z : Nat, z < q → bad (m : Int) G T R X k ((z : Int) - 1) = false) ∧ Hid (Below w0.heap.size w0 wr)) (fun b _ => (2 - intOf b).toNat)
        case atStart => exact ⟨0, by omega, rfl, fun j hj => by omega, BB⟩
        case round =>
          obtain ⟨q, hq, rfl, OQ, BQ⟩ := hrel
          by_cases hq3 : q < 3
          · have q1 : (q : Int) - 1 ≤ 1 := by omega
            have qw : IntKind.i64.wrap ((q : Int) - 1 + 1) = (q : Int) - 1 + 1 := IntWalk.i64_in _ (by omega)
            have K2 : Hid (Pb.Box wr w.heap.size (.int .i64 (m : Int)) (.slice sg m cg) (.slice st nt ct) (.slice sr nr cr)) := K0.out.on BQ.out (by have := Z0.out; omega)
            obtain ⟨k0, k1, k2, k3⟩ := K2.out
            have BD : Hid (Below w.heap.size w wr.drew) := below_drewN (B0.out.trans (BQ.out.mono (by have := Z0.out; omega))) 1
            have QD : Hid (Below w0.heap.size w0 wr.drew) := below_drewN BQ.out 1
            have LD : Hid (w.heap.size < wr.drew.heap.size) := (by show w.heap.size < wr.heap.size; have := Z0.out; have := BQ.out.size; omega)
            have M1 : Hid (Calls Try.prog 37 #[.slice (some ⟨bx, ox, none⟩) m cx, .int .i64 (k : Int), .int .i64 ((q : Int) - 1)] wr.drew fun e w'' => ∃ v', e = .returned v' ∧ Lists.Reads w'' v' (mv X k ((q : Int) - 1)) ∧ Below wr.drew.heap.size wr.drew w'') := MM.out wr.drew BD.out k _ hkm (by omega) (by omega)
            have FB : Hid (bad (m : Int) G T R X k ((q : Int) - 1) = true ↔ 0 ≤ cv (m : Int) G T R (mv X k ((q : Int) - 1)) ∧ cv (m : Int) G T R (mv X k ((q : Int) - 1)) < c0) := hBI.out k _
            have CQ : Hid (∀ w', Below w.heap.size w w' → ∀ vy, Lists.Reads w' vy (mv X k ((q : Int) - 1)) → Calls Try.prog 12 #[Pb.pv (m : Int) (.slice sg m cg) (.slice st nt ct) (.slice sr nr cr), vy] w' fun e w'' => e = .returned (.int .i64 (cv (m : Int) G T R (mv X k ((q : Int) - 1)))) ∧ Below w'.heap.size w' w'') := fun w' hb vy hy => CC.out w' hb _ vy hy
            generalize cv (m : Int) G T R (mv X k ((q : Int) - 1)) = d at *
            generalize hYY : mv X k ((q : Int) - 1) = Y at *
            clear hYY
            go_wp2_with fail
            go_region_held3 (fun w' => w'.cell? ⟨w.heap.size, 0, none⟩ = some (.int .i64 (m : Int)) ∧ w'.cell? ⟨w.heap.size, 1, none⟩ = some (.slice sg m cg) ∧ w'.cell? ⟨w.heap.size, 2, none⟩ = some (.slice st nt ct) ∧ w'.cell? ⟨w.heap.size, 3, none⟩ = some (.slice sr nr cr)) (go_keep)
              (first
              | (go_at_call 37; refine (Calls.mono M1.out) ?_; rintro e w5 ⟨v5, rfl, r5, b5⟩; have R5 : Hid (Lists.Reads w5 v5 Y) := r5; have B5 : Hid (Below w.heap.size w w5) := BD.out.trans (b5.mono BD.out.size); have Q5 : Hid (Below w0.heap.size w0 w5) := QD.out.trans (b5.mono QD.out.size); have L5 : Hid (w.heap.size < w5.heap.size) := Nat.lt_of_lt_of_le LD.out b5.size; have K5 : Hid (Pb.Box w5 w.heap.size (.int .i64 (m : Int)) (.slice sg m cg) (.slice st nt ct) (.slice sr nr cr)) := Pb.Box.on (w := wr.drew) ⟨k0, k1, k2, k3⟩ b5 LD.out; clear b5 r5; obtain ⟨a0, a1, a2, a3⟩ := K5.out)
              | (go_at_call 12; refine (CQ.out _ B5.out _ R5.out).mono ?_; rintro e w6 ⟨rfl, b6⟩; have Q6 : Hid (Below w0.heap.size w0 w6) := Q5.out.trans (b6.mono Q5.out.size); have K6 : Hid (Pb.Box w6 w.heap.size (.int .i64 (m : Int)) (.slice sg m cg) (.slice st nt ct) (.slice sr nr cr)) := K5.out.on b6 L5.out; clear b6; obtain ⟨e0, e1, e2, e3⟩ := K6.out))
            by_cases d0 : 0 ≤ d
            · by_cases dc : d < c0
              · have HF : Hid (bo = false) := (by
                  show _ = _
                  have hb := FB.out.2 ⟨d0, dc⟩
                  by_cases hz : q = 1
                  · subst hz
                    have := HZ.out k hkm
                    simp at hb
                    rw [hb] at this
                    cases this
                  · exact HNO.out k _ hkm (by omega) hb)
                have BE : Hid (Below w.heap.size w w6) := B0.out.trans (Q6.out.mono (by have := Z0.out; omega))
                go_wp2_with fail
                go_ret
                exact ⟨by rw [HF.out]; rfl, BE.out⟩
              · have HF : Hid (bad (m : Int) G T R X k ((q : Int) - 1) = false) := (by
                  show _ = _
                  cases e : bad (m : Int) G T R X k ((q : Int) - 1)
                  · rfl
                  · have := FB.out.1 e; omega)
                have OQ2 : Hid (∀ z : Nat, z < q + 1 → bad (m : Int) G T R X k ((z : Int) - 1) = false) := fun z hz => by
                  by_cases e : z = q
                  · subst e; exact HF.out
                  · exact OQ.out z (by omega)
                go_wp2_with fail
                go_roundw
                case rel => exact ⟨q + 1, by omega, by congr 1; omega, OQ2, Q6⟩
                case measure => simp [intOf]; omega
            · have HF : Hid (bad (m : Int) G T R X k ((q : Int) - 1) = false) := (by
                show _ = _
                cases e : bad (m : Int) G T R X k ((q : Int) - 1)
                · rfl
                · have := FB.out.1 e; omega)
              have OQ2 : Hid (∀ z : Nat, z < q + 1 → bad (m : Int) G T R X k ((z : Int) - 1) = false) := fun z hz => by
                by_cases e : z = q
                · subst e; exact HF.out
                · exact OQ.out z (by omega)
              go_wp2_with fail
              go_roundw
              case rel => exact ⟨q + 1, by omega, by congr 1; omega, OQ2, Q6⟩
              case measure => simp [intOf]; omega
          · have q1 : ¬ (q : Int) - 1 ≤ 1 := by omega
            have OK2 : Hid (∀ j, j < k + 1 → bad (m : Int) G T R X j (-1) = false ∧ bad (m : Int) G T R X j 1 = false) := fun j hj => by
              by_cases e : j = k
              · subst e; exact ⟨OQ.out 0 (by omega), OQ.out 2 (by omega)⟩
              · exact OK.out j (by omega)
            go_wp2_with fail
            go_roundw
            case rel => exact ⟨k + 1, by omega, by go_num, OK2, BQ⟩
            case measure => simp [intOf]; omega
      · have HT : Hid (bo = true) := HYES.out (fun i hi => OK.out i (by omega))
        have BE : Hid (Below w.heap.size w wr) := B0.out.trans (BB.out.mono (by have := Z0.out; omega))
        go_wp2_with fail
        go_ret
        exact ⟨by rw [HT.out]; rfl, BE.out⟩
end Go.Proofs.Ytbkjhekeihlneaa.Cf
