/- Certified: the program; the law, with both answers in it. -/
import Derived.Test.YtaakiemmodncpaaCfS
import Derived.Test.YtaakiemmodncpaaCfL
namespace Go.Proofs.Ytaakiemmodncpaa.Cf
open Go.ChangeShapes Go.WideShapes Go.ChangeAt Go.RowKit
open Go.Proofs.Ytaakiemmodncpaa.Lists Go.Proofs.Ytaakiemmodncpaa.Al Go.Proofs.Ytaakiemmodncpaa.Po Go.Proofs.Ytaakiemmodncpaa.Cs

set_option maxHeartbeats 1000000 in
set_option maxRecDepth 20000 in
theorem icert_any (n : Int) (G T : List Int) (R : Rw.Ls) (X : List Int) (w : World) (vg vt vr vx : Value) (h : LawCsL.PR w G T R vg vt vr) (hX : Lists.Reads w vx X) :
    Calls Try.prog 21 #[Pb.pv n vg vt vr, vx] w fun e w' => e = .returned (.bool (cert n G T R X)) ∧ Below w.heap.size w w' := by
  obtain ⟨hG, hT, hR⟩ := h
  obtain ⟨sg, cg, eg⟩ := hG.form
  obtain ⟨st, ct, et⟩ := hT.form
  obtain ⟨sr, cr, er⟩ := hR.form
  subst eg et er
  obtain ⟨w0, hw0⟩ : ∃ w0, w0 = w.alloc (Obj.cells #[.int .i64 n, .slice sg G.length cg, .slice st T.length ct, .slice sr R.length cr] 32) := ⟨_, rfl⟩
  have HW0 : Hid (w0 = w.alloc (Obj.cells #[.int .i64 n, .slice sg G.length cg, .slice st T.length ct, .slice sr R.length cr] 32)) := hw0
  have B0 : Hid (Below w.heap.size w w0) := (by show Below _ _ _; rw [hw0]; exact (Below.refl _ _).alloc (Nat.le_refl _) _)
  have Z0 : Hid (w0.heap.size = w.heap.size + 1) := (by show _ = _; rw [hw0]; simp)
  have K0 : Hid (Pb.Box w0 w.heap.size (.int .i64 n) (.slice sg G.length cg) (.slice st T.length ct) (.slice sr R.length cr)) := (by show Pb.Box _ _ _ _ _ _; rw [hw0]; unfold Pb.Box; simp [go_sem])
  have C1 : Hid (Calls Try.prog 30 #[Pb.pv n (.slice sg G.length cg) (.slice st T.length ct) (.slice sr R.length cr)] w0 fun e w' => e = .returned (.bool (okP n G T R)) ∧ Below w0.heap.size w0 w') := iok_any n G T R w0 _ _ _ ⟨hG.on B0.out, hT.on B0.out, hR.on B0.out⟩
  have C2 : Hid (∀ w', Below w.heap.size w w' → ∀ Y vy, Lists.Reads w' vy Y → Calls Try.prog 31 #[Pb.pv n (.slice sg G.length cg) (.slice st T.length ct) (.slice sr R.length cr), vy, .int .i64 200000] w' fun e w'' => e = .returned (.bool (nums Y n (-200000) 200000)) ∧ Below w'.heap.size w' w'') := fun w' hb Y vy hy => ipt_any n 200000 Y _ _ _ _ w' hy (by omega) (by omega)
  have C3 : Hid (∀ Y, okC n G T R Y = true → ∀ w', Below w.heap.size w w' → ∀ vy, Lists.Reads w' vy Y → Calls Try.prog 35 #[Pb.pv n (.slice sg G.length cg) (.slice st T.length ct) (.slice sr R.length cr), vy] w' fun e w'' => e = .returned (.int .i64 (cost G T R Y G.length)) ∧ Below w'.heap.size w' w'') := fun Y h1 w' hb vy hy => by
    obtain ⟨O, PX, e, _⟩ := okc_ok h1
    rw [← e]
    exact icost_any G T R Y G.length O PX _ _ _ _ w' (hG.on hb) (hT.on hb) (hR.on hb) hy
  obtain ⟨bo, hbo⟩ : ∃ bo, cert n G T R X = bo := ⟨_, rfl⟩
  rw [hbo]
  cases hc : okC n G T R X
  · have hb0 : bo = false := by rw [← hbo]; exact cert_ok hc
    subst hb0
    have C2' : Hid (∀ w', Below w.heap.size w w' → Calls Try.prog 31 #[Pb.pv n (.slice sg G.length cg) (.slice st T.length ct) (.slice sr R.length cr), vx, .int .i64 200000] w' fun e w'' => e = .returned (.bool (nums X n (-200000) 200000)) ∧ Below w'.heap.size w' w'') := fun w' hb => C2.out w' hb X vx (hX.on hb)
    unfold okC at hc
    obtain ⟨ax, cx, ex⟩ := hX.form
    subst ex
    clear hG hT hR hX hw0 hbo C2 C3
    obtain ⟨k0, k1, k2, k3⟩ := K0.out
    generalize okP n G T R = b1 at *
    generalize nums X n (-200000) 200000 = b2 at *
    generalize G.length = ng at *
    generalize T.length = nt at *
    generalize R.length = nr at *
    generalize X.length = nx at *
    cases b1
    · go_enter Try.func21, Try.ntmps21
      go_wp2_with fail
      rw [← HW0.out]
      refine (Calls.mono C1.out) ?_
      rintro e w1 ⟨rfl, hb⟩
      have B1 : Hid (Below w.heap.size w w1) := B0.out.trans (hb.mono B0.out.size)
      clear hb
      go_wp2_with fail
      go_ret
      exact ⟨rfl, B1.out⟩
    · cases b2
      · go_enter Try.func21, Try.ntmps21
        go_wp2_with fail
        rw [← HW0.out]
        refine (Calls.mono C1.out) ?_
        rintro e w1 ⟨rfl, hb⟩
        have B1 : Hid (Below w.heap.size w w1) := B0.out.trans (hb.mono B0.out.size)
        have K1 : Pb.Box w1 w.heap.size (.int .i64 n) (.slice sg ng cg) (.slice st nt ct) (.slice sr nr cr) := K0.out.on hb (by have := Z0.out; omega)
        clear hb k0 k1 k2 k3
        obtain ⟨k0, k1, k2, k3⟩ := K1
        go_wp2_with fail
        refine (C2'.out _ B1.out).mono ?_
        rintro e w2 ⟨rfl, hb⟩
        have B2 : Hid (Below w.heap.size w w2) := B1.out.trans (hb.mono B1.out.size)
        clear hb
        go_wp2_with fail
        go_ret
        exact ⟨rfl, B2.out⟩
      · cases hc
  · obtain ⟨O, PX, hn, lX⟩ := okc_ok hc
    have n1 := O.n1
    have n6 := O.n6
    have hc' := hc
    unfold okC at hc'
    rw [Bool.and_eq_true] at hc'
    obtain ⟨ho, hu⟩ := hc'
    obtain ⟨bx, ox, cx, rfl, bxl, hcx⟩ := at_of hX lX (by omega)
    rw [ho] at C1
    have C2' : Hid (∀ w', Below w.heap.size w w' → Calls Try.prog 31 #[Pb.pv n (.slice sg G.length cg) (.slice st T.length ct) (.slice sr R.length cr), .slice (some ⟨bx, ox, none⟩) G.length cx, .int .i64 200000] w' fun e w'' => e = .returned (.bool true) ∧ Below w'.heap.size w' w'') := fun w' hb => by rw [← hu]; exact C2.out w' hb X _ (hX.on hb)
    have C3' : Hid (∀ w', Below w.heap.size w w' → Calls Try.prog 35 #[Pb.pv n (.slice sg G.length cg) (.slice st T.length ct) (.slice sr R.length cr), .slice (some ⟨bx, ox, none⟩) G.length cx] w' fun e w'' => e = .returned (.int .i64 (cost G T R X G.length)) ∧ Below w'.heap.size w' w'') := fun w' hb => C3.out X hc w' hb _ (hX.on hb)
    have MM : Hid (∀ w', Below w.heap.size w w' → Calls Try.prog 33 #[.slice (some ⟨bx, ox, none⟩) G.length cx] w' fun e w'' => ∃ g' c', e = .returned (.slice (some ⟨g', 0, none⟩) G.length c') ∧ w'.heap.size ≤ g' ∧ w''.ownsRow w'.heap.size 2 1 (.slice (some ⟨g', 0, none⟩) G.length c') G.length (ints X) ∧ Below w'.heap.size w' w'') := fun w' hb => by
      refine (clone_any w' bx ox G.length cx X lX (by omega) (Nat.lt_of_lt_of_le bxl hb.size) (fun j hj => (hb.cell (p := ⟨bx, ox + j, none⟩) bxl).trans (hcx j hj))).mono ?_
      rintro e w'' ⟨g', c', rfl, h1, _, _, h2, h3⟩
      exact ⟨g', c', rfl, h1, h2, h3⟩
    have HBB : Hid (∀ i t, bad n G T R X i t = (nums (mv X i t) n (-200000) 200000 && decide (cost G T R (mv X i t) G.length < cost G T R X G.length))) := fun i t => by unfold bad okC; rw [ho, Bool.true_and]
    have HOC : Hid (∀ Y, nums Y n (-200000) 200000 = true → okC n G T R Y = true) := fun Y hY => by unfold okC; rw [ho, hY]; rfl
    have HNO : Hid (∀ i (t : Int), i < G.length → (t = -1 ∨ t = 1) → bad n G T R X i t = true → bo = false) := fun i t hi ht hh => by rw [← hbo]; exact cert_no hi ht hh
    have HYES : Hid ((∀ i, i < G.length → bad n G T R X i (-1) = false ∧ bad n G T R X i 1 = false) → bo = true) := fun hh => by rw [← hbo]; exact cert_yes hc hh
    have HXB : Hid (∀ i, i < G.length → -1000000 ≤ X.getD i 0 ∧ X.getD i 0 ≤ 1000000) := PX.b
    have HLX : Hid (X.length = G.length) := lX
    clear hG hT hR hX hw0 hc hbo O PX lX hcx bxl ho hu
    subst hn
    generalize hm : G.length = m at *
    generalize T.length = nt at *
    generalize R.length = nr at *
    generalize hC0 : cost G T R X m = c0 at *
    clear hm hC0
    obtain ⟨k0, k1, k2, k3⟩ := K0.out
    go_enter Try.func21, Try.ntmps21
    go_wp2_with fail
    rw [← HW0.out]
    refine (Calls.mono C1.out) ?_
    rintro e w1 ⟨rfl, hb⟩
    have B1 : Hid (Below w.heap.size w w1) := B0.out.trans (hb.mono B0.out.size)
    have Q1 : Hid (Below w0.heap.size w0 w1) := hb
    have K1 : Pb.Box w1 w.heap.size (.int .i64 (m : Int)) (.slice sg m cg) (.slice st nt ct) (.slice sr nr cr) := K0.out.on hb (by have := Z0.out; omega)
    clear hb k0 k1 k2 k3
    obtain ⟨k0, k1, k2, k3⟩ := K1
    go_wp2_with fail
    refine (C2'.out _ B1.out).mono ?_
    rintro e w2 ⟨rfl, hb⟩
    have B2 : Hid (Below w.heap.size w w2) := B1.out.trans (hb.mono B1.out.size)
    have Q2 : Hid (Below w0.heap.size w0 w2) := Q1.out.trans (hb.mono Q1.out.size)
    have K2 : Pb.Box w2 w.heap.size (.int .i64 (m : Int)) (.slice sg m cg) (.slice st nt ct) (.slice sr nr cr) := K0.out.on Q2.out (by have := Z0.out; omega)
    clear hb k0 k1 k2 k3
    obtain ⟨k0, k1, k2, k3⟩ := K2
    go_wp2_with fail
    refine (C3'.out _ B2.out).mono ?_
    rintro e w3 ⟨rfl, hb⟩
    have Q3 : Hid (Below w0.heap.size w0 w3) := Q2.out.trans (hb.mono Q2.out.size)
    clear hb k0 k1 k2 k3
    go_wp2_with fail
    go_loopw [24] (fun i wr => ∃ k : Nat, k ≤ m ∧ i = .int .i64 k ∧ Hid (∀ j, j < k → bad (m : Int) G T R X j (-1) = false ∧ bad (m : Int) G T R X j 1 = false) ∧ Hid (Below w0.heap.size w0 wr)) (fun i _ => m - (intOf i).toNat)
    case atStart => exact ⟨0, Nat.zero_le _, rfl, fun j hj => by omega, Q3⟩
    case round =>
      obtain ⟨k, hk, rfl, OK, BB⟩ := hrel
      by_cases hkm : k < m
      · have p2 : (k : Int) < (m : Int) := by omega
        have p1 : (0 : Int) ≤ (k : Int) := by omega
        go_wp2_with fail
        go_loopw [28] (fun b wr => ∃ q : Nat, q ≤ 2 ∧ b = .int .i64 q ∧ Hid (0 < q → bad (m : Int) G T R X k (-1) = false) ∧ Hid (1 < q → bad (m : Int) G T R X k 1 = false) ∧ Hid (Below w0.heap.size w0 wr)) (fun b _ => (2 - intOf b).toNat)
        case atStart => exact ⟨0, by omega, rfl, fun j => by omega, fun j => by omega, BB⟩
        case round =>
          obtain ⟨q, hq, rfl, OQ, OR, BQ⟩ := hrel
          match q, hq, OQ, OR with
          | 0, _, OQ, OR =>
            have BD : Hid (Below w.heap.size w wr) := B0.out.trans (BQ.out.mono (by have := Z0.out; omega))
            have xb := HXB.out k hkm
            have wx : IntKind.i64.wrap (X.getD k 0 + (-1)) = X.getD k 0 + (-1) := IntWalk.i64_in _ (by omega)
            have hix : ∀ w : World, (Instr.index 68 (.agg #[.int .i64 (-1), .int .i64 1]) (.int .i64 0)).run Try.prog w = .ok (.int .i64 (-1)) w := fun _ => by kernel_rfl
            go_wp2_with fail
            refine (MM.out wr BD.out).mono ?_
            rintro e w5 ⟨g5, c5, rfl, l5, r5, b5⟩
            have z5 := (r5.lt g5 (by simp [Value.ownBlock])).2
            have cc1 : w5.cell? ⟨g5, k, none⟩ = some (.int .i64 (X.getD k 0)) := row_get r5 HLX.out k hkm
            have cc2 : w5.frozen? ⟨g5, k, none⟩ = false := r5.frozenAt k
            obtain ⟨w6, hw6⟩ : ∃ x, x = w5.setCell ⟨g5, k, none⟩ (.int .i64 (X.getD k 0 + (-1))) := ⟨_, rfl⟩
            have HW6 : Hid (w6 = w5.setCell ⟨g5, k, none⟩ (.int .i64 (X.getD k 0 + (-1)))) := hw6
            have b56 : Below wr.heap.size wr w6 := by rw [hw6]; exact b5.setCell (p := ⟨g5, k, none⟩) l5 _
            have Q6 : Hid (Below w0.heap.size w0 w6) := BQ.out.trans (b56.mono BQ.out.size)
            have B6 : Hid (Below w.heap.size w w6) := BD.out.trans (b56.mono BD.out.size)
            have R6 : Hid (Lists.Reads w6 (.slice (some ⟨g5, 0, none⟩) m c5) (mv X k (-1))) := (by
              have h1 : w6.ownsRow wr.heap.size 2 1 (.slice (some ⟨g5, 0, none⟩) m c5) m (ints (mv X k (-1))) := by rw [hw6]; exact row_put r5 k _
              have e1 : (mv X k (-1)).length = m := (mv_len X k _).trans HLX.out
              rw [← e1] at h1
              have := Lists.reads_row h1
              rw [e1] at this
              exact this)
            have K6 : Hid (Pb.Box w6 w.heap.size (.int .i64 (m : Int)) (.slice sg m cg) (.slice st nt ct) (.slice sr nr cr)) := K0.out.on Q6.out (by have := Z0.out; omega)
            have FB : Hid (bad (m : Int) G T R X k (-1) = (nums (mv X k (-1)) (m : Int) (-200000) 200000 && decide (cost G T R (mv X k (-1)) m < c0))) := HBB.out k _
            have D2 : Hid (∀ w', Below w.heap.size w w' → ∀ vy, Lists.Reads w' vy (mv X k (-1)) → Calls Try.prog 31 #[Pb.pv (m : Int) (.slice sg m cg) (.slice st nt ct) (.slice sr nr cr), vy, .int .i64 200000] w' fun e w'' => e = .returned (.bool (nums (mv X k (-1)) (m : Int) (-200000) 200000)) ∧ Below w'.heap.size w' w'') := fun w' hb vy hy => C2.out w' hb _ vy hy
            have D3 : Hid (nums (mv X k (-1)) (m : Int) (-200000) 200000 = true → ∀ w', Below w.heap.size w w' → ∀ vy, Lists.Reads w' vy (mv X k (-1)) → Calls Try.prog 35 #[Pb.pv (m : Int) (.slice sg m cg) (.slice st nt ct) (.slice sr nr cr), vy] w' fun e w'' => e = .returned (.int .i64 (cost G T R (mv X k (-1)) m)) ∧ Below w'.heap.size w' w'') := fun h1 w' hb vy hy => C3.out _ (HOC.out _ h1) w' hb vy hy
            have HN : Hid (bad (m : Int) G T R X k (-1) = true → bo = false) := fun hh => HNO.out k (-1) hkm (by omega) hh
            have K5 : Pb.Box w5 w.heap.size (.int .i64 (m : Int)) (.slice sg m cg) (.slice st nt ct) (.slice sr nr cr) := (K0.out.on BQ.out (by have := Z0.out; omega)).on b5 (by have := Z0.out; have := BQ.out.size; omega)
            have hne : ¬ w.heap.size = g5 := by have := Z0.out; have := BQ.out.size; omega
            have hne' : ¬ g5 = w.heap.size := fun e => hne e.symm
            clear b5 r5 l5 b56 hw6 xb z5
            obtain ⟨k0, k1, k2, k3⟩ := K5
            generalize nums (mv X k (-1)) (m : Int) (-200000) 200000 = bn at *
            generalize cost G T R (mv X k (-1)) m = d at *
            generalize mv X k (-1) = Y at *
            generalize X.getD k 0 = x at *
            go_wp2_with fail
            rw [← HW6.out]
            refine (D2.out _ B6.out _ R6.out).mono ?_
            rintro e w7 ⟨rfl, hb⟩
            have Q7 : Hid (Below w0.heap.size w0 w7) := Q6.out.trans (hb.mono Q6.out.size)
            have B7 : Hid (Below w.heap.size w w7) := B6.out.trans (hb.mono B6.out.size)
            have R7 : Hid (Lists.Reads w7 (.slice (some ⟨g5, 0, none⟩) m c5) Y) := R6.out.on hb
            have K7 : Hid (Pb.Box w7 w.heap.size (.int .i64 (m : Int)) (.slice sg m cg) (.slice st nt ct) (.slice sr nr cr)) := K0.out.on Q7.out (by have := Z0.out; omega)
            clear hb k0 k1 k2 k3 HW6 cc1 cc2 wx hne hne'
            cases bn
            · have OQ2 : Hid (0 < 0 + 1 → bad (m : Int) G T R X k (-1) = false) := fun _ => FB.out
              go_wp2_with fail
              go_roundw
              case rel => exact ⟨0 + 1, by omega, by rfl, OQ2, fun j => by omega, Q7⟩
              case measure => simp [intOf]
            · obtain ⟨k0, k1, k2, k3⟩ := K7.out
              go_wp2_with fail
              refine (D3.out (by trivial) _ B7.out _ R7.out).mono ?_
              rintro e w8 ⟨rfl, hb⟩
              have Q8 : Hid (Below w0.heap.size w0 w8) := Q7.out.trans (hb.mono Q7.out.size)
              have B8 : Hid (Below w.heap.size w w8) := B7.out.trans (hb.mono B7.out.size)
              clear hb k0 k1 k2 k3
              by_cases dc : d < c0
              · have HF : Hid (bo = false) := HN.out (by rw [FB.out]; simp [dc])
                go_wp2_with fail
                go_ret
                exact ⟨by rw [HF.out]; rfl, B8.out⟩
              · have OQ2 : Hid (0 < 0 + 1 → bad (m : Int) G T R X k (-1) = false) := fun _ => by rw [FB.out]; simp; omega
                go_wp2_with fail
                go_roundw
                case rel => exact ⟨0 + 1, by omega, by rfl, OQ2, fun j => by omega, Q8⟩
                case measure => simp [intOf]
          | 1, _, OQ, OR =>
            have BD : Hid (Below w.heap.size w wr) := B0.out.trans (BQ.out.mono (by have := Z0.out; omega))
            have xb := HXB.out k hkm
            have wx : IntKind.i64.wrap (X.getD k 0 + (1)) = X.getD k 0 + (1) := IntWalk.i64_in _ (by omega)
            have hix : ∀ w : World, (Instr.index 68 (.agg #[.int .i64 (-1), .int .i64 1]) (.int .i64 1)).run Try.prog w = .ok (.int .i64 (1)) w := fun _ => by kernel_rfl
            go_wp2_with fail
            refine (MM.out wr BD.out).mono ?_
            rintro e w5 ⟨g5, c5, rfl, l5, r5, b5⟩
            have z5 := (r5.lt g5 (by simp [Value.ownBlock])).2
            have cc1 : w5.cell? ⟨g5, k, none⟩ = some (.int .i64 (X.getD k 0)) := row_get r5 HLX.out k hkm
            have cc2 : w5.frozen? ⟨g5, k, none⟩ = false := r5.frozenAt k
            obtain ⟨w6, hw6⟩ : ∃ x, x = w5.setCell ⟨g5, k, none⟩ (.int .i64 (X.getD k 0 + (1))) := ⟨_, rfl⟩
            have HW6 : Hid (w6 = w5.setCell ⟨g5, k, none⟩ (.int .i64 (X.getD k 0 + (1)))) := hw6
            have b56 : Below wr.heap.size wr w6 := by rw [hw6]; exact b5.setCell (p := ⟨g5, k, none⟩) l5 _
            have Q6 : Hid (Below w0.heap.size w0 w6) := BQ.out.trans (b56.mono BQ.out.size)
            have B6 : Hid (Below w.heap.size w w6) := BD.out.trans (b56.mono BD.out.size)
            have R6 : Hid (Lists.Reads w6 (.slice (some ⟨g5, 0, none⟩) m c5) (mv X k (1))) := (by
              have h1 : w6.ownsRow wr.heap.size 2 1 (.slice (some ⟨g5, 0, none⟩) m c5) m (ints (mv X k (1))) := by rw [hw6]; exact row_put r5 k _
              have e1 : (mv X k (1)).length = m := (mv_len X k _).trans HLX.out
              rw [← e1] at h1
              have := Lists.reads_row h1
              rw [e1] at this
              exact this)
            have K6 : Hid (Pb.Box w6 w.heap.size (.int .i64 (m : Int)) (.slice sg m cg) (.slice st nt ct) (.slice sr nr cr)) := K0.out.on Q6.out (by have := Z0.out; omega)
            have FB : Hid (bad (m : Int) G T R X k (1) = (nums (mv X k (1)) (m : Int) (-200000) 200000 && decide (cost G T R (mv X k (1)) m < c0))) := HBB.out k _
            have D2 : Hid (∀ w', Below w.heap.size w w' → ∀ vy, Lists.Reads w' vy (mv X k (1)) → Calls Try.prog 31 #[Pb.pv (m : Int) (.slice sg m cg) (.slice st nt ct) (.slice sr nr cr), vy, .int .i64 200000] w' fun e w'' => e = .returned (.bool (nums (mv X k (1)) (m : Int) (-200000) 200000)) ∧ Below w'.heap.size w' w'') := fun w' hb vy hy => C2.out w' hb _ vy hy
            have D3 : Hid (nums (mv X k (1)) (m : Int) (-200000) 200000 = true → ∀ w', Below w.heap.size w w' → ∀ vy, Lists.Reads w' vy (mv X k (1)) → Calls Try.prog 35 #[Pb.pv (m : Int) (.slice sg m cg) (.slice st nt ct) (.slice sr nr cr), vy] w' fun e w'' => e = .returned (.int .i64 (cost G T R (mv X k (1)) m)) ∧ Below w'.heap.size w' w'') := fun h1 w' hb vy hy => C3.out _ (HOC.out _ h1) w' hb vy hy
            have HN : Hid (bad (m : Int) G T R X k (1) = true → bo = false) := fun hh => HNO.out k (1) hkm (by omega) hh
            have K5 : Pb.Box w5 w.heap.size (.int .i64 (m : Int)) (.slice sg m cg) (.slice st nt ct) (.slice sr nr cr) := (K0.out.on BQ.out (by have := Z0.out; omega)).on b5 (by have := Z0.out; have := BQ.out.size; omega)
            have hne : ¬ w.heap.size = g5 := by have := Z0.out; have := BQ.out.size; omega
            have hne' : ¬ g5 = w.heap.size := fun e => hne e.symm
            clear b5 r5 l5 b56 hw6 xb z5
            obtain ⟨k0, k1, k2, k3⟩ := K5
            generalize nums (mv X k (1)) (m : Int) (-200000) 200000 = bn at *
            generalize cost G T R (mv X k (1)) m = d at *
            generalize mv X k (1) = Y at *
            generalize X.getD k 0 = x at *
            go_wp2_with fail
            rw [← HW6.out]
            refine (D2.out _ B6.out _ R6.out).mono ?_
            rintro e w7 ⟨rfl, hb⟩
            have Q7 : Hid (Below w0.heap.size w0 w7) := Q6.out.trans (hb.mono Q6.out.size)
            have B7 : Hid (Below w.heap.size w w7) := B6.out.trans (hb.mono B6.out.size)
            have R7 : Hid (Lists.Reads w7 (.slice (some ⟨g5, 0, none⟩) m c5) Y) := R6.out.on hb
            have K7 : Hid (Pb.Box w7 w.heap.size (.int .i64 (m : Int)) (.slice sg m cg) (.slice st nt ct) (.slice sr nr cr)) := K0.out.on Q7.out (by have := Z0.out; omega)
            clear hb k0 k1 k2 k3 HW6 cc1 cc2 wx hne hne'
            cases bn
            · have OQ2 : Hid (1 < 1 + 1 → bad (m : Int) G T R X k (1) = false) := fun _ => FB.out
              go_wp2_with fail
              go_roundw
              case rel => exact ⟨1 + 1, by omega, by rfl, fun _ => OQ.out (by omega), OQ2, Q7⟩
              case measure => simp [intOf]
            · obtain ⟨k0, k1, k2, k3⟩ := K7.out
              go_wp2_with fail
              refine (D3.out (by trivial) _ B7.out _ R7.out).mono ?_
              rintro e w8 ⟨rfl, hb⟩
              have Q8 : Hid (Below w0.heap.size w0 w8) := Q7.out.trans (hb.mono Q7.out.size)
              have B8 : Hid (Below w.heap.size w w8) := B7.out.trans (hb.mono B7.out.size)
              clear hb k0 k1 k2 k3
              by_cases dc : d < c0
              · have HF : Hid (bo = false) := HN.out (by rw [FB.out]; simp [dc])
                go_wp2_with fail
                go_ret
                exact ⟨by rw [HF.out]; rfl, B8.out⟩
              · have OQ2 : Hid (1 < 1 + 1 → bad (m : Int) G T R X k (1) = false) := fun _ => by rw [FB.out]; simp; omega
                go_wp2_with fail
                go_roundw
                case rel => exact ⟨1 + 1, by omega, by rfl, fun _ => OQ.out (by omega), OQ2, Q8⟩
                case measure => simp [intOf]
          | 2, _, OQ, OR =>
            have OK2 : Hid (∀ j, j < k + 1 → bad (m : Int) G T R X j (-1) = false ∧ bad (m : Int) G T R X j 1 = false) := fun j hj => by
              by_cases e : j = k
              · subst e; exact ⟨OQ.out (by omega), OR.out (by omega)⟩
              · exact OK.out j (by omega)
            go_wp2_with fail
            go_roundw
            case rel => exact ⟨k + 1, by omega, by go_num, OK2, BQ⟩
            case measure => simp [intOf]; omega
      · have HT : Hid (bo = true) := HYES.out (fun i hi => OK.out i (by omega))
        have BE : Hid (Below w.heap.size w wr) := B0.out.trans (BB.out.mono (by have := Z0.out; omega))
        go_wp2_with fail
        go_ret
        exact ⟨by rw [HT.out]; rfl, BE.out⟩
end Go.Proofs.Ytaakiemmodncpaa.Cf
