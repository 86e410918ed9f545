/- Whether a suite is right: the model. -/
import Derived.Test.YtfhpomfdkpfooaaSo
namespace Go.Proofs.Ytfhpomfdkpfooaa.So
open Go.ChangeShapes Go.WideShapes Go.ChangeAt Go.RowKit
open Go.Proofs.Ytfhpomfdkpfooaa.Lists Go.Proofs.Ytfhpomfdkpfooaa.Al

theorem nums_all (X : List Int) : nums X (X.length : Int) 1 60 = X.all (fun d => inn d 1 60) := by unfold nums; simp
theorem tok_long {z1 z2 z3 : Int} {L : List Int} {hi g : Int} (h0 : 0 ≤ hi) (h : hi < (L.length : Int)) : tok z1 z2 z3 L hi g = false := by
  cases e : eAs L hi
  · exact tok_no1 e
  · have := eAs_len h0 e; omega

set_option maxHeartbeats 2000000 in
set_option maxRecDepth 20000 in
theorem ssuite (R : Tk.Ls) (X : List Int) (vr vx : Value) (w : World) (hR : Tk.Reads w vr R) (hX : Lists.Reads w vx X) :
    Calls Try.prog 33 #[Su.pv vr vx] w fun e w' => e = .returned (.bool (okS R X)) ∧ Below w.heap.size w w' := by
  obtain ⟨br, or, hcr, hvr⟩ := rows_at hR
  have rf := hR.fits
  have xf := Tk.lfits hX
  obtain ⟨sr, cr, er⟩ := hR.form
  obtain ⟨sx, cx, ex⟩ := hX.form
  subst er ex
  obtain ⟨w0, hw0⟩ : ∃ w0, w0 = w.alloc (Obj.cells #[.slice sr R.length cr, .slice sx X.length cx] 27) := ⟨_, rfl⟩
  have HW0 : Hid (w0 = w.alloc (Obj.cells #[.slice sr R.length cr, .slice sx X.length cx] 27)) := hw0
  have B0 : Hid (Below w.heap.size w w0) := (by show Below _ _ _; rw [hw0]; exact (Below.refl _ _).alloc (Nat.le_refl _) _)
  have Z0 : Hid (w0.heap.size = w.heap.size + 1) := (by show _ = _; rw [hw0]; simp)
  have K0 : Hid (Su.Box w0 w.heap.size (.slice sr R.length cr) (.slice sx X.length cx)) := (by show Su.Box _ _ _ _; rw [hw0]; unfold Su.Box; simp [go_sem])
  have HCR : Hid (∀ i, i < R.length → Tk.Cs w br or R i) := hcr
  have HVR : Hid (0 < R.length → br < w.heap.size ∧ sr = some ⟨br, or, none⟩) := fun hi => by
    obtain ⟨h1, c, h2⟩ := hvr hi
    simp at h2
    exact ⟨h1, h2.1⟩
  have D3 : Hid (Calls Try.prog 49 #[.slice sx X.length cx, .int .i64 (X.length : Int), .int .i64 1, .int .i64 60] w0 fun e w' => e = .returned (.bool (X.all (fun d => inn d 1 60))) ∧ ∃ m, w' = w0.drewN m) := (by rw [← nums_all]; exact sall_any X _ 1 60 _ w0 (hX.on B0.out) xf)
  obtain ⟨bo, hbo⟩ : ∃ bo, okS R X = bo := ⟨_, rfl⟩
  have HO : Hid (okS R X = bo) := hbo
  rw [hbo]
  have N1 : Hid (inn (R.length : Int) 1 60 = false → bo = false) := fun h => by rw [← HO.out]; exact okS_no1 h
  have N2 : Hid (inn (X.length : Int) 1 6 = false → bo = false) := fun h => by rw [← HO.out]; exact okS_no2 h
  have N3 : Hid (X.all (fun d => inn d 1 60) = false → bo = false) := fun h => by rw [← HO.out]; exact okS_no3 h
  have N4 : Hid (∀ k, k < R.length → okT R (X.length : Int) k = false → bo = false) := fun k hk h => by rw [← HO.out]; exact okS_no4 (oks_no hk h)
  have Y1 : Hid (inn (R.length : Int) 1 60 = true → inn (X.length : Int) 1 6 = true → X.all (fun d => inn d 1 60) = true → (∀ k, k < R.length → okT R (X.length : Int) k = true) → bo = true) := fun h1 h2 h3 h => by rw [← HO.out]; unfold okS; rw [h1, h2, h3, oks_yes h]; rfl
  obtain ⟨nr, hnr⟩ : ∃ nr, nr = R.length := ⟨_, rfl⟩
  have HN : Hid (nr = R.length) := hnr
  obtain ⟨nx, hnx⟩ : ∃ nx, nx = X.length := ⟨_, rfl⟩
  rw [← hnr] at HW0 K0 rf N1 Y1 ⊢
  rw [← hnx] at HW0 K0 xf D3 N2 N4 Y1 ⊢
  clear hR hX hcr hvr hw0 hbo hnr hnx
  obtain ⟨k0, k1⟩ := K0.out
  by_cases c1 : (nr : Int) < 1
  · have HF : Hid (bo = false) := N1.out (by unfold inn; rw [decide_eq_false (by omega)]; rfl)
    go_enter Try.func33, Try.ntmps33
    go_wp2_with fail
    rw [← HW0.out]
    go_ret
    exact ⟨by rw [HF.out]; rfl, B0.out⟩
  by_cases c2 : (60 : Int) < (nr : Int)
  · have HF : Hid (bo = false) := N1.out (by unfold inn; rw [decide_eq_false (by omega : ¬ (nr : Int) ≤ 60)]; simp)
    go_enter Try.func33, Try.ntmps33
    go_wp2_with fail
    rw [← HW0.out]
    go_ret
    exact ⟨by rw [HF.out]; rfl, B0.out⟩
  by_cases c3 : (nx : Int) < 1
  · have HF : Hid (bo = false) := N2.out (by unfold inn; rw [decide_eq_false (by omega)]; rfl)
    go_enter Try.func33, Try.ntmps33
    go_wp2_with fail
    rw [← HW0.out]
    go_ret
    exact ⟨by rw [HF.out]; rfl, B0.out⟩
  by_cases c4 : (6 : Int) < (nx : Int)
  · have HF : Hid (bo = false) := N2.out (by unfold inn; rw [decide_eq_false (by omega : ¬ (nx : Int) ≤ 6)]; simp)
    go_enter Try.func33, Try.ntmps33
    go_wp2_with fail
    rw [← HW0.out]
    go_ret
    exact ⟨by rw [HF.out]; rfl, B0.out⟩
  have Q1 : Hid (inn (nr : Int) 1 60 = true) := (inn_iff _ _ _).2 ⟨by omega, by omega⟩
  have Q2 : Hid (inn (nx : Int) 1 6 = true) := (inn_iff _ _ _).2 ⟨by omega, by omega⟩
  cases c5 : X.all (fun d => inn d 1 60)
  · have HF : Hid (bo = false) := N3.out c5
    rw [c5] at D3
    clear c5
    go_enter Try.func33, Try.ntmps33
    go_wp2_with fail
    rw [← HW0.out]
    refine (D3.out).mono ?_
    rintro e w3 ⟨rfl, m3, rfl⟩
    go_wp2_with fail
    go_ret
    exact ⟨by rw [HF.out]; rfl, below_drewN B0.out _⟩
  have Q3 : Hid (X.all (fun d => inn d 1 60) = true) := c5
  rw [c5] at D3
  clear c5
  go_enter Try.func33, Try.ntmps33
  go_wp2_with fail
  rw [← HW0.out]
  refine (D3.out).mono ?_
  rintro e w3 ⟨rfl, m3, rfl⟩
  go_wp2_with fail
  go_loopw [3] (fun i wr => ∃ k : Nat, k ≤ nr ∧ i = .int .i64 k ∧ Hid (∀ j, j < k → okT R (nx : Int) j = true) ∧ Hid (Below w0.heap.size w0 wr)) (fun i _ => nr - (intOf i).toNat)
  case atStart => exact ⟨0, by omega, rfl, fun j hj => by omega, below_drewN (Below.refl _ _) _⟩
  case round =>
    obtain ⟨wo, hwo⟩ : ∃ x : World, x = wr := ⟨_, rfl⟩
    subst hwo
    obtain ⟨k, hk, rfl, OK, BB⟩ := hrel
    clear k0 k1
    have z0 := Z0.out
    have zr := BB.out.size
    have KR : Hid (Su.Box wo w.heap.size (.slice sr nr cr) (.slice sx nx cx)) := K0.out.on BB.out (by omega)
    obtain ⟨k0, k1⟩ := KR.out
    by_cases hlt : k < nr
    · have hkl : k < R.length := by rw [← HN.out]; exact hlt
      obtain ⟨hb, hx⟩ := HVR.out (by omega)
      subst hx
      obtain ⟨q1, q2, q3, u, q0, ru⟩ : Tk.Cs wo br or R k := ((HCR.out k hkl).on B0.out hb).on BB.out (by omega)
      obtain ⟨su, cu, eu⟩ := ru.form
      subst eu
      obtain ⟨w2, hw2⟩ : ∃ x, x = wo.alloc (Obj.cells #[.slice su (Tk.cl R k).length cu, .int .i64 (Tk.cz R k 1), .int .i64 (Tk.cz R k 2), .int .i64 (Tk.cz R k 3)] 50) := ⟨_, rfl⟩
      have HW2 : Hid (w2 = wo.alloc (Obj.cells #[.slice su (Tk.cl R k).length cu, .int .i64 (Tk.cz R k 1), .int .i64 (Tk.cz R k 2), .int .i64 (Tk.cz R k 3)] 50)) := hw2
      have b2 : Below wo.heap.size wo w2 := by rw [hw2]; exact (Below.refl _ _).alloc (Nat.le_refl _) _
      have B2 : Hid (Below w0.heap.size w0 w2) := BB.out.trans (b2.mono zr)
      have BW : Hid (Below w.heap.size w w2) := B0.out.trans (B2.out.mono (by omega))
      have X2 : Hid (Tk1.Box w2 wo.heap.size (.slice su (Tk.cl R k).length cu) (.int .i64 (Tk.cz R k 1)) (.int .i64 (Tk.cz R k 2)) (.int .i64 (Tk.cz R k 3))) := (by show Tk1.Box _ _ _ _ _ _; rw [hw2]; unfold Tk1.Box; simp [go_sem])
      have Y2 : Hid (Su.Box w2 w.heap.size (.slice (some ⟨br, or, none⟩) nr cr) (.slice sx nx cx)) := KR.out.on b2 (by omega)
      obtain ⟨bl, ol, hcl, hvl⟩ := reads_at (ru.on b2)
      have HC : Hid (∀ i, i < (Tk.cl R k).length → w2.cell? ⟨bl, ol + i, none⟩ = some (.int .i64 ((Tk.cl R k).getD i 0))) := hcl
      have HB : Hid (0 < (Tk.cl R k).length → bl < w2.heap.size ∧ su = some ⟨bl, ol, none⟩) := fun hi => by
        obtain ⟨h1, c, h2⟩ := hvl hi
        simp at h2
        exact ⟨h1, h2.1⟩
      have fl := Tk.lfits ru
      have NF : Hid (tok (Tk.cz R k 1) (Tk.cz R k 2) (Tk.cz R k 3) (Tk.cl R k) (k : Int) (nx : Int) = false → bo = false) := fun h => N4.out k hkl h
      have NX : Hid (tok (Tk.cz R k 1) (Tk.cz R k 2) (Tk.cz R k 3) (Tk.cl R k) (k : Int) (nx : Int) = true → ∀ j, j < k + 1 → okT R (nx : Int) j = true) := fun h j hj => by
        by_cases e : j = k
        · rw [e]; exact h
        · exact OK.out j (by omega)
      have i2 : (0 : Int) ≤ (k : Int) := by omega
      have i3 : (k : Int) < (nr : Int) := by omega
      have hs : w.heap.size < wo.heap.size := by omega
      have k60 : (k : Int) ≤ 60 := by omega
      obtain ⟨x0, x1, x2, x3⟩ := X2.out
      obtain ⟨y0, y1⟩ := Y2.out
      clear hw2 b2 ru z0 zr hcl hvl
      generalize Tk.cz R k 1 = e1 at *
      generalize Tk.cz R k 2 = e2 at *
      generalize Tk.cz R k 3 = e3 at *
      generalize Tk.cl R k = L at *
      have D1 : Hid (∀ w, Calls Try.prog 27 #[.int .i64 e1, .int .i64 1, .int .i64 (nx : Int)] w fun e w' => e = .returned (.bool (inn e1 1 nx)) ∧ w' = w) := fun w => s_in _ _ _ w
      have D2 : Hid (∀ w, Calls Try.prog 27 #[.int .i64 e2, .int .i64 0, .int .i64 1000000000000] w fun e w' => e = .returned (.bool (inn e2 0 1000000000000)) ∧ w' = w) := fun w => s_in _ _ _ w
      have D4 : Hid (∀ w, Calls Try.prog 27 #[.int .i64 e3, .int .i64 1, .int .i64 5] w fun e w' => e = .returned (.bool (inn e3 1 5)) ∧ w' = w) := fun w => s_in _ _ _ w
      by_cases cl : (k : Int) < (L.length : Int)
      · have HF : Hid (bo = false) := NF.out (tok_long i2 cl)
        generalize L.length = lh at *
        go_wp2_with fail
        rw [← HW2.out]
        go_ret
        exact ⟨by rw [HF.out]; rfl, BW.out⟩
      cases d1 : inn e1 1 nx
      · have HF : Hid (bo = false) := NF.out (tok_no2 d1)
        rw [d1] at D1
        clear d1
        generalize L.length = lh at *
        go_wp2_with fail
        rw [← HW2.out]
        refine (D1.out _).mono ?_
        rintro e w5 ⟨rfl, hw⟩
        have hw' := hw.symm
        subst hw'
        go_wp2_with fail
        go_ret
        exact ⟨by rw [HF.out]; rfl, BW.out⟩
      have Hd1 : Hid (inn e1 1 nx = true) := d1
      rw [d1] at D1
      clear d1
      cases d2 : inn e2 0 1000000000000
      · have HF : Hid (bo = false) := NF.out (tok_no3 d2)
        rw [d2] at D2
        clear d2
        generalize L.length = lh at *
        go_wp2_with fail
        rw [← HW2.out]
        refine (D1.out _).mono ?_
        rintro e w5 ⟨rfl, hw⟩
        have hw' := hw.symm
        subst hw'
        go_wp2_with fail
        refine (D2.out _).mono ?_
        rintro e w5 ⟨rfl, hw⟩
        have hw' := hw.symm
        subst hw'
        go_wp2_with fail
        go_ret
        exact ⟨by rw [HF.out]; rfl, BW.out⟩
      have Hd2 : Hid (inn e2 0 1000000000000 = true) := d2
      rw [d2] at D2
      clear d2
      cases d3 : inn e3 1 5
      · have HF : Hid (bo = false) := NF.out (tok_no4 d3)
        rw [d3] at D4
        clear d3
        generalize L.length = lh at *
        go_wp2_with fail
        rw [← HW2.out]
        refine (D1.out _).mono ?_
        rintro e w5 ⟨rfl, hw⟩
        have hw' := hw.symm
        subst hw'
        go_wp2_with fail
        refine (D2.out _).mono ?_
        rintro e w5 ⟨rfl, hw⟩
        have hw' := hw.symm
        subst hw'
        go_wp2_with fail
        refine (D4.out _).mono ?_
        rintro e w5 ⟨rfl, hw⟩
        have hw' := hw.symm
        subst hw'
        go_wp2_with fail
        go_ret
        exact ⟨by rw [HF.out]; rfl, BW.out⟩
      have Hd3 : Hid (inn e3 1 5 = true) := d3
      rw [d3] at D4
      clear d3
      have NO : Hid (∀ j, j < L.length → eA L (k : Int) j = false → bo = false) := fun j hj h => NF.out (tok_no1 (eAs_no hj h))
      have YE : Hid ((∀ j, j < L.length → eA L (k : Int) j = true) → ∀ j, j < k + 1 → okT R (nx : Int) j = true) := fun h => NX.out (tok_yes (eAs_yes h) Hd1.out Hd2.out Hd3.out)
      obtain ⟨lh, hlh⟩ : ∃ lh, lh = L.length := ⟨_, rfl⟩
      have HLH : Hid (lh = L.length) := hlh
      rw [← hlh] at cl fl HW2 X2 HC HB NO YE x0 q0
      clear hlh NF NX OK
      go_wp2_with fail
      rw [← HW2.out]
      refine (D1.out _).mono ?_
      rintro e w5 ⟨rfl, hw⟩
      have hw' := hw.symm
      subst hw'
      go_wp2_with fail
      refine (D2.out _).mono ?_
      rintro e w5 ⟨rfl, hw⟩
      have hw' := hw.symm
      subst hw'
      go_wp2_with fail
      refine (D4.out _).mono ?_
      rintro e w5 ⟨rfl, hw⟩
      have hw' := hw.symm
      subst hw'
      go_wp2_with fail
      go_loopw [5] (fun i wi => ∃ j m : Nat, j ≤ lh ∧ i = .int .i64 j ∧ Hid (∀ p, p < j → eA L (k : Int) p = true) ∧ Hid (wi = w2.drewN m)) (fun i _ => lh - (intOf i).toNat)
      case atStart => exact ⟨0, 0, Nat.zero_le _, rfl, fun j hj => absurd hj (by omega), rfl⟩
      case round =>
        obtain ⟨j, m, hj, rfl, OJ, HW⟩ := hrel
        clear x0 x1 x2 x3 y0 y1 k0 k1 q0 q1 q2 q3
        have x0 : wr.cell? ⟨wo.heap.size, 0, none⟩ = some (.slice su lh cu) := by rw [HW.out]; exact X2.out.1
        by_cases hjl : j < lh
        · obtain ⟨hbl, hsu⟩ := HB.out (by omega)
          subst hsu
          have q : wr.cell? ⟨bl, ol + j, none⟩ = some (.int .i64 (L.getD j 0)) := by rw [HW.out]; exact HC.out j hjl
          have j2 : (0 : Int) ≤ (j : Int) := by omega
          have j3 : (j : Int) < (lh : Int) := by omega
          have EA : Hid (eA L (k : Int) j = (inn (L.getD j 0) 1 (k : Int) && (decide (j = 0) || decide (L.getD (j - 1) 0 < L.getD j 0)))) := rfl
          have NJ : Hid (eA L (k : Int) j = true → ∀ p, p < j + 1 → eA L (k : Int) p = true) := fun h p hp => by
            by_cases e : p = j
            · rw [e]; exact h
            · exact OJ.out p (by omega)
          have NN : Hid (eA L (k : Int) j = false → bo = false) := fun h => NO.out j hjl h
          have C3 : Hid (∀ w, Calls Try.prog 27 #[.int .i64 (L.getD j 0), .int .i64 1, .int .i64 (k : Int)] w fun e w' => e = .returned (.bool (inn (L.getD j 0) 1 (k : Int))) ∧ w' = w) := fun w => s_in _ _ _ w
          by_cases k0 : j = 0
          · subst k0
            rw [Nat.add_zero] at q
            cases hz : inn (L.getD 0 0) 1 (k : Int)
            · rw [hz] at C3 EA
              clear hz
              generalize L.getD 0 0 = z at *
              have HF : Hid (bo = false) := NN.out (by rw [EA.out, Bool.false_and])
              clear NN NJ EA
              go_wp2_with fail
              go_quiet ((go_at_call 27; exact Calls.quiet_of_same (C3.out _)))
              go_wp2_with fail
              go_ret
              exact ⟨by rw [HF.out]; rfl, by rw [HW.out]; exact below_drewN (below_drewN BW.out _) _⟩
            · rw [hz] at C3 EA
              clear hz
              generalize L.getD 0 0 = z at *
              have OK2 : Hid (∀ p, p < 0 + 1 → eA L (k : Int) p = true) := NJ.out (by rw [EA.out, decide_eq_true rfl]; rfl)
              clear NN NJ EA
              go_wp2_with fail
              go_quiet ((go_at_call 27; exact Calls.quiet_of_same (C3.out _)))
              go_wp2_with fail
              go_roundw
              case rel => exact ⟨0 + 1, m + nq, by omega, by go_num, OK2, (by show _ = _; rw [HW.out]; exact World.drewN_drewN _ _ _)⟩
              case measure => simp [intOf]; omega
          · obtain ⟨p, rfl⟩ : ∃ p, j = p + 1 := ⟨j - 1, by omega⟩
            have q' : wr.cell? ⟨bl, ol + p, none⟩ = some (.int .i64 (L.getD p 0)) := by rw [HW.out]; exact HC.out p (by omega)
            rw [Nat.add_sub_cancel] at EA
            have j3 : (p : Int) + 1 - 1 = (p : Int) := by omega
            have j4 : IntKind.i64.wrap ((p : Int) + 1 - 1) = (p : Int) := by rw [j3]; exact IntWalk.i64_in _ (by omega)
            have j5 : (p : Int) < (lh : Int) := by omega
            have j7 : IntKind.i64.wrap (p : Int) = (p : Int) := IntWalk.i64_in _ (by omega)
            have j8 : (0 : Int) ≤ (p : Int) := by omega
            have j6 : (0 : Int) < (p : Int) + 1 := by omega
            rw [decide_eq_false k0] at EA
            cases hz : inn (L.getD (p + 1) 0) 1 (k : Int)
            · rw [hz] at C3 EA
              clear hz k0
              generalize L.getD (p + 1) 0 = z at *
              generalize L.getD p 0 = z' at *
              have HF : Hid (bo = false) := NN.out (by rw [EA.out, Bool.false_and])
              clear NN NJ EA
              go_wp2_with fail
              go_quiet ((go_at_call 27; exact Calls.quiet_of_same (C3.out _)))
              go_wp2_with fail
              go_ret
              exact ⟨by rw [HF.out]; rfl, by rw [HW.out]; exact below_drewN (below_drewN BW.out _) _⟩
            · rw [hz] at C3 EA
              clear hz k0
              generalize L.getD (p + 1) 0 = z at *
              generalize L.getD p 0 = z' at *
              by_cases c2 : z ≤ z'
              · have c3 : decide (z' < z) = false := decide_eq_false (by omega)
                rw [c3] at EA
                clear c3
                have HF : Hid (bo = false) := NN.out (by rw [EA.out, Bool.true_and]; rfl)
                clear NN NJ EA
                go_wp2_with fail
                go_quiet ((go_at_call 27; exact Calls.quiet_of_same (C3.out _)))
                go_wp2_with fail
                go_ret
                exact ⟨by rw [HF.out]; rfl, by rw [HW.out]; exact below_drewN (below_drewN BW.out _) _⟩
              · have c3 : decide (z' < z) = true := decide_eq_true (by omega)
                rw [c3] at EA
                clear c3
                have OK2 : Hid (∀ q, q < p + 1 + 1 → eA L (k : Int) q = true) := NJ.out (by rw [EA.out, Bool.true_and]; rfl)
                clear NN NJ EA
                go_wp2_with fail
                go_quiet ((go_at_call 27; exact Calls.quiet_of_same (C3.out _)))
                go_wp2_with fail
                go_roundw
                case rel => exact ⟨p + 1 + 1, m + nq, by omega, by go_num, OK2, (by show _ = _; rw [HW.out]; exact World.drewN_drewN _ _ _)⟩
                case measure => simp [intOf]; omega
        · have OK2 : Hid (∀ j, j < k + 1 → okT R (nx : Int) j = true) := YE.out (fun p hp => OJ.out p (by omega))
          go_wp2_with fail
          go_roundw
          case rel => exact ⟨k + 1, by omega, by go_num, OK2, (by show Below _ _ _; rw [HW.out]; exact below_drewN B2.out _)⟩
          case measure => simp [intOf]; omega
    · have HT : Hid (bo = true) := Y1.out Q1.out Q2.out Q3.out (fun j hj => OK.out j (by have := HN.out; omega))
      have BW : Hid (Below w.heap.size w wo) := B0.out.trans (BB.out.mono (by omega))
      clear z0 zr
      go_wp2_with fail
      go_ret
      exact ⟨by rw [HT.out]; rfl, BW.out⟩
end Go.Proofs.Ytfhpomfdkpfooaa.So
