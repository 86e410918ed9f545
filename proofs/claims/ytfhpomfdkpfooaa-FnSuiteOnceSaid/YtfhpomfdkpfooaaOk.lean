/- Whether a run is right: the model. -/
import Derived.Test.YtfhpomfdkpfooaaFr
import Derived.Test.YtfhpomfdkpfooaaBa
namespace Go.Proofs.Ytfhpomfdkpfooaa.Rk
open Go.ChangeShapes Go.WideShapes Go.ChangeAt Go.RowKit
open Go.Proofs.Ytfhpomfdkpfooaa.Lists Go.Proofs.Ytfhpomfdkpfooaa.Al Go.Proofs.Ytfhpomfdkpfooaa.Ru

theorem okR_no1 {R : Tk.Ls} {X : List Int} {now : Int} {J : Jb.Ls} (h : So.okS R X = false) : okR R X now J = false := by unfold okR; rw [h]; rfl
theorem okR_no2 {R : Tk.Ls} {X : List Int} {now : Int} {J : Jb.Ls} (h : inn now 0 1000000000000 = false) : okR R X now J = false := by unfold okR; rw [h]; simp
theorem okR_no3 {R : Tk.Ls} {X : List Int} {now : Int} {J : Jb.Ls} (h : ¬ J.length = R.length) : okR R X now J = false := by unfold okR; rw [decide_eq_false h]; simp
theorem okR_no4 {R : Tk.Ls} {X : List Int} {now : Int} {J : Jb.Ls} {k : Nat} (hk : k < J.length) (h : jok R J k = false) : okR R X now J = false := by unfold okR; rw [all_no hk h]; simp
theorem okR_no5 {R : Tk.Ls} {X : List Int} {now : Int} {J : Jb.Ls} {k : Nat} (hk : k < X.length) (h : lok R X J k = false) : okR R X now J = false := by unfold okR; rw [all_no hk h]; simp
theorem okR_yes {R : Tk.Ls} {X : List Int} {now : Int} {J : Jb.Ls} (h1 : So.okS R X = true) (h2 : inn now 0 1000000000000 = true) (h3 : J.length = R.length) (h4 : ∀ k, k < J.length → jok R J k = true) (h5 : ∀ k, k < X.length → lok R X J k = true) : okR R X now J = true := by
  unfold okR; rw [h1, h2, decide_eq_true h3, all_yes h4, all_yes h5]; rfl

set_option maxHeartbeats 4000000 in
set_option maxRecDepth 20000 in
theorem sok_any (R : Tk.Ls) (X : List Int) (now : Int) (J : Jb.Ls) (vr vx vj : Value) (w : World) (hh : RR w vr vx vj R X J) :
    Calls Try.prog 25 #[rv vr vx now vj] w fun e w' => e = .returned (.bool (okR R X now J)) ∧ Below w.heap.size w w' := by
  obtain ⟨hR, hX, hJ⟩ := hh
  obtain ⟨sr, cr, er⟩ := hR.form
  obtain ⟨sx, cx, ex⟩ := hX.form
  obtain ⟨sj, cj, ej⟩ := hJ.form
  have jf := hJ.fits
  have rf := hR.fits
  obtain ⟨w0, hw0⟩ : ∃ w0, w0 = w.alloc (Obj.cells #[vr, vx, .int .i64 now, vj] 30) := ⟨_, rfl⟩
  have HW0 : Hid (w0 = w.alloc (Obj.cells #[vr, vx, .int .i64 now, vj] 30)) := hw0
  have B0 : Hid (Below w.heap.size w w0) := (by show Below _ _ _; rw [hw0]; exact (Below.refl _ _).alloc (Nat.le_refl _) _)
  have Z0 : Hid (w0.heap.size = w.heap.size + 1) := (by show _ = _; rw [hw0]; simp)
  have X0 : Hid (Ru.Box w0 w.heap.size vr vx (.int .i64 now) vj) := (by show Ru.Box w0 _ _ _ _ _; rw [hw0]; unfold Ru.Box; simp [go_sem])
  have C1 : Hid (Calls Try.prog 33 #[Su.pv vr vx] w0 fun e w' => e = .returned (.bool (So.okS R X)) ∧ Below w0.heap.size w0 w') := So.ssuite R X vr vx w0 (hR.on B0.out) (hX.on B0.out)
  have C2 : Hid (∀ w, Calls Try.prog 27 #[.int .i64 now, .int .i64 0, .int .i64 1000000000000] w fun e w' => e = .returned (.bool (inn now 0 1000000000000)) ∧ w' = w) := fun w => s_in _ _ _ w
  obtain ⟨bo, hbo⟩ : ∃ bo, okR R X now J = bo := ⟨_, rfl⟩
  have HO : Hid (okR R X now J = bo) := hbo
  rw [hbo]
  clear hbo hw0
  cases c1 : So.okS R X
  · have HF : Hid (bo = false) := (by show _ = _; rw [← HO.out]; exact okR_no1 c1)
    rw [c1] at C1
    subst er ex ej
    clear c1 hR hX hJ
    obtain ⟨x0, x1, x2, x3⟩ := X0.out
    go_enter Try.func25, Try.ntmps25
    go_wp2_with fail
    rw [← HW0.out]
    refine C1.out.mono ?_
    rintro e w1 ⟨rfl, hb⟩
    have B1 : Hid (Below w.heap.size w w1) := B0.out.trans (hb.mono B0.out.size)
    clear hb
    go_wp2_with fail
    go_ret
    exact ⟨by rw [HF.out]; rfl, B1.out⟩
  have F := fit_of c1
  have Q1 : Hid (So.okS R X = true) := c1
  rw [c1] at C1
  clear c1
  cases c2 : inn now 0 1000000000000
  · have HF : Hid (bo = false) := (by show _ = _; rw [← HO.out]; exact okR_no2 c2)
    rw [c2] at C2
    subst er ex ej
    clear c2 hR hX hJ F
    obtain ⟨x0, x1, x2, x3⟩ := X0.out
    go_enter Try.func25, Try.ntmps25
    go_wp2_with fail
    rw [← HW0.out]
    refine C1.out.mono ?_
    rintro e w1 ⟨rfl, hb⟩
    have B1 : Hid (Below w.heap.size w w1) := B0.out.trans (hb.mono B0.out.size)
    have Y1 := X0.out.on hb (by have := Z0.out; omega)
    clear hb x0 x1 x2 x3
    obtain ⟨x0, x1, x2, x3⟩ := Y1
    go_wp2_with fail
    refine (C2.out _).mono ?_
    rintro e w2 ⟨rfl, hqw⟩
    have hqv := hqw.symm
    subst hqv
    clear hqw
    go_wp2_with fail
    go_ret
    exact ⟨by rw [HF.out]; rfl, B1.out⟩
  have Q2 : Hid (inn now 0 1000000000000 = true) := c2
  rw [c2] at C2
  clear c2
  by_cases c3 : J.length = R.length
  rotate_left 1
  · have HF : Hid (bo = false) := (by show _ = _; rw [← HO.out]; exact okR_no3 c3)
    have c3' : ((J.length : Int) != (R.length : Int)) = true := by simp; omega
    subst er ex ej
    clear hR hX hJ F c3
    generalize J.length = nj at *
    generalize R.length = n at *
    obtain ⟨x0, x1, x2, x3⟩ := X0.out
    go_enter Try.func25, Try.ntmps25
    go_wp2_with fail
    rw [← HW0.out]
    refine C1.out.mono ?_
    rintro e w1 ⟨rfl, hb⟩
    have B1 : Hid (Below w.heap.size w w1) := B0.out.trans (hb.mono B0.out.size)
    have Y1 := X0.out.on hb (by have := Z0.out; omega)
    clear hb x0 x1 x2 x3
    obtain ⟨x0, x1, x2, x3⟩ := Y1
    go_wp2_with fail
    refine (C2.out _).mono ?_
    rintro e w2 ⟨rfl, hqw⟩
    have hqv := hqw.symm
    subst hqv
    clear hqw
    go_wp2_with fail
    go_ret
    exact ⟨by rw [HF.out]; rfl, B1.out⟩
  obtain ⟨br, or, hcr, hvr⟩ := tasks_at hR
  obtain ⟨bj, oj, hcj, hvj⟩ := jobs_at hJ
  obtain ⟨bx, ox, hcx, hvx⟩ := reads_at hX
  have F1 := F.r1
  have F2 := F.r60
  have F3 := F.x1
  have F4 := F.x6
  obtain ⟨hbr, cr', er'⟩ := hvr (by omega)
  obtain ⟨hbj, cj', ej'⟩ := hvj (by omega)
  obtain ⟨hbx, cx', ex'⟩ := hvx (by omega)
  clear hvr hvj hvx er ex ej sr cr sx cx sj cj
  have FRE : Hid (∀ W i, Below w.heap.size w W → i < R.length → Calls Try.prog 42 #[rv vr vx now vj, .int .i64 (i : Int)] W fun e w' => e = .returned (.bool (fr R J i)) ∧ Below W.heap.size W w') := fun W i hb hi => sfree_any R J vr vx vj now i W (hR.on hb) (hJ.on hb) c3 F2 hi (F.aft i hi)
  have RUN : Hid (∀ W g, Below w.heap.size w W → Calls Try.prog 43 #[rv vr vx now vj, .int .i64 g] W fun e w' => e = .returned (.int .i64 (rn R J g J.length)) ∧ Below W.heap.size W w') := fun W g hb => srun_any R J vr vx vj now g W (hR.on hb) (hJ.on hb) c3 F2 F1
  subst er' ej' ex'
  have HCR : Hid (∀ W, Below w.heap.size w W → ∀ i, i < R.length → W.cell? ⟨br, or + i * 4 + 3, none⟩ = some (.int .i64 (Tk.cz R i 3))) := fun W hb i hi => (hcr W hb i hi).2.2.1
  have HCJ : Hid (∀ W, Below w.heap.size w W → ∀ i, i < R.length → W.cell? ⟨bj, oj + i * 2, none⟩ = some (.int .i64 (hw J i)) ∧ W.cell? ⟨bj, oj + i * 2 + 1, none⟩ = some (.int .i64 (tr J i))) := fun W hb i hi => hcj W hb i (by omega)
  have HCX : Hid (∀ W, Below w.heap.size w W → ∀ i, i < X.length → W.cell? ⟨bx, ox + i, none⟩ = some (.int .i64 (X.getD i 0))) := fun W hb i hi => (hb.cell (p := ⟨bx, ox + i, none⟩) hbx).trans (hcx i hi)
  have NJ : Hid (∀ k, k < R.length → jok R J k = false → bo = false) := fun k hk h => by rw [← HO.out]; exact okR_no4 (by omega) h
  have NL : Hid (∀ k, k < X.length → lok R X J k = false → bo = false) := fun k hk h => by rw [← HO.out]; exact okR_no5 hk h
  have YE : Hid ((∀ k, k < R.length → jok R J k = true) → (∀ k, k < X.length → lok R X J k = true) → bo = true) := fun h4 h5 => by rw [← HO.out]; exact okR_yes Q1.out Q2.out c3 (fun k hk => h4 k (by omega)) h5
  have MO : Hid (∀ i, i < R.length → 1 ≤ Tk.cz R i 3 ∧ Tk.cz R i 3 ≤ 5) := F.most
  have HRJ : Hid (∀ i, rn R J i J.length ≤ 60 ∧ 0 ≤ rn R J i J.length) := fun i => by have := rn_rng R J i J.length; omega
  rw [c3] at HW0 X0 FRE RUN jf HRJ ⊢
  have LO : Hid (∀ g, lok R X J g = decide (rn R J ((g : Int) + 1) R.length ≤ X.getD g 0)) := fun g => by unfold lok; rw [c3]
  clear hcr hcj hcx F hR hX hJ c3 HO
  obtain ⟨n, hn⟩ : ∃ n, n = R.length := ⟨_, rfl⟩
  rw [← hn] at HW0 X0 FRE RUN jf HRJ LO HCR HCJ NJ YE MO F1 F2 rf ⊢
  obtain ⟨m, hm⟩ : ∃ m, m = X.length := ⟨_, rfl⟩
  rw [← hm] at HW0 X0 FRE RUN HCX NL YE C1 F3 F4 ⊢
  rw [← hn] at C1
  clear hn hm
  obtain ⟨x0, x1, x2, x3⟩ := X0.out
  have hnn : ((n : Int) != (n : Int)) = false := by simp
  go_enter Try.func25, Try.ntmps25
  go_wp2_with fail
  rw [← HW0.out]
  refine C1.out.mono ?_
  rintro e w1 ⟨rfl, hb⟩
  have B1 : Hid (Below w0.heap.size w0 w1) := hb
  have Y1 := X0.out.on hb (by have := Z0.out; omega)
  clear hb x0 x1 x2 x3
  obtain ⟨x0, x1, x2, x3⟩ := Y1
  go_wp2_with fail
  refine (C2.out _).mono ?_
  rintro e w2 ⟨rfl, hqw⟩
  have hqv := hqw.symm
  subst hqv
  clear hqw
  go_wp2_with fail
  clear x0 x1 x2 x3
  go_loopw [3] (fun i wr => ∃ k : Nat, k ≤ n ∧ i = .int .i64 k ∧ Hid (∀ j, j < k → jok R J j = true) ∧ Hid (Below w0.heap.size w0 wr)) (fun i _ => n - (intOf i).toNat)
  case atStart => exact ⟨0, Nat.zero_le _, rfl, fun j hj => absurd hj (by omega), B1⟩
  case round =>
    obtain ⟨wo, hwo⟩ : ∃ x : World, x = wr := ⟨_, rfl⟩
    subst hwo
    obtain ⟨k, hk, rfl, OK, BB⟩ := hrel
    have BW : Hid (Below w.heap.size w wo) := B0.out.trans (BB.out.mono (by have := Z0.out; omega))
    have XW : Hid (Ru.Box wo w.heap.size (.slice (some ⟨br, or, none⟩) n cr') (.slice (some ⟨bx, ox, none⟩) m cx') (.int .i64 now) (.slice (some ⟨bj, oj, none⟩) n cj')) := X0.out.on BB.out (by have := Z0.out; omega)
    obtain ⟨x0, x1, x2, x3⟩ := XW.out
    by_cases hlt : k < n
    · obtain ⟨y0, y1⟩ := HCJ.out wo BW.out k hlt
      have i1 : (0 : Int) ≤ (k : Int) := by omega
      have i2 : (k : Int) < (n : Int) := by omega
      obtain ⟨wA, hwA⟩ : ∃ y, y = wo.alloc (Obj.cells #[.int .i64 (hw J k), .int .i64 (tr J k)] 34) := ⟨_, rfl⟩
      have HWA : Hid (wA = wo.alloc (Obj.cells #[.int .i64 (hw J k), .int .i64 (tr J k)] 34)) := hwA
      have bA : Below wo.heap.size wo wA := by rw [hwA]; exact (Below.refl _ _).alloc (Nat.le_refl _) _
      obtain ⟨tb, htb⟩ : ∃ tb, tb = wo.heap.size := ⟨_, rfl⟩
      have HTB : Hid (tb = wo.heap.size) := htb
      have TA : Hid (wA.cell? ⟨tb, 0, none⟩ = some (.int .i64 (hw J k)) ∧ wA.cell? ⟨tb, 1, none⟩ = some (.int .i64 (tr J k))) := (by show _ ∧ _; rw [hwA, htb]; simp [go_sem])
      have BA : Hid (Below w.heap.size w wA) := BW.out.trans (bA.mono BW.out.size)
      have BBA : Hid (Below w0.heap.size w0 wA) := BB.out.trans (bA.mono BB.out.size)
      have XA : Hid (Ru.Box wA w.heap.size (.slice (some ⟨br, or, none⟩) n cr') (.slice (some ⟨bx, ox, none⟩) m cx') (.int .i64 now) (.slice (some ⟨bj, oj, none⟩) n cj')) := XW.out.on bA (by have := Z0.out; have := BB.out.size; omega)
      have z3 := HCR.out wA BA.out k hlt
      have JK : Hid (jok R J k = ((inn (hw J k) 0 3 && inn (tr J k) 0 (Tk.cz R k 3)) && (!((hw J k == 0 && tr J k == Tk.cz R k 3) || (hw J k == 3 && tr J k != Tk.cz R k 3) || (hw J k != 0 && (tr J k == 0 || !fr R J k)))))) := rfl
      have NK : Hid (jok R J k = false → bo = false) := NJ.out k hlt
      have NX : Hid (jok R J k = true → ∀ j, j < k + 1 → jok R J j = true) := fun h j hj => by
        by_cases e : j = k
        · rw [e]; exact h
        · exact OK.out j (by omega)
      have CF : Hid (Calls Try.prog 42 #[rv (.slice (some ⟨br, or, none⟩) n cr') (.slice (some ⟨bx, ox, none⟩) m cx') now (.slice (some ⟨bj, oj, none⟩) n cj'), .int .i64 (k : Int)] wA fun e w' => e = .returned (.bool (fr R J k)) ∧ Below wA.heap.size wA w') := FRE.out wA k BA.out hlt
      clear hwA bA htb
      generalize jok R J k = jo at *
      generalize hw J k = h at *
      generalize tr J k = b at *
      generalize Tk.cz R k 3 = mo at *
      generalize fr R J k = f at *
      have D1 : Hid (∀ w, Calls Try.prog 27 #[.int .i64 h, .int .i64 0, .int .i64 3] w fun e w' => e = .returned (.bool (inn h 0 3)) ∧ w' = w) := fun w => s_in _ _ _ w
      have D2 : Hid (∀ w, Calls Try.prog 27 #[.int .i64 b, .int .i64 0, .int .i64 mo] w fun e w' => e = .returned (.bool (inn b 0 mo)) ∧ w' = w) := fun w => s_in _ _ _ w
      have SA : Hid (w.heap.size < wA.heap.size) := (by have h1 := Z0.out; have h2 := BBA.out.size; show _ < _; omega)
      go_upto_region 7 with fail
      rw [← HWA.out, ← HTB.out]
      clear x0 x1 x2 x3 y0 y1 HWA
      obtain ⟨x0, x1, x2, x3⟩ := XA.out
      obtain ⟨t0, t1⟩ := TA.out
      cases d1 : inn h 0 3
      · have HF : Hid (bo = false) := NK.out (by rw [JK.out, d1]; rfl)
        rw [d1] at D1
        clear d1 JK NX NK
        go_wp2_with fail
        refine (D1.out _).mono ?_
        rintro e w5 ⟨rfl, hqw⟩
        have hqv := hqw.symm
        subst hqv
        clear hqw
        go_wp2_with fail
        go_ret
        exact ⟨by rw [HF.out]; rfl, BA.out⟩
      cases d2 : inn b 0 mo
      · have HF : Hid (bo = false) := NK.out (by rw [JK.out, d2]; simp)
        rw [d1] at D1
        rw [d2] at D2
        clear d1 d2 JK NX NK
        go_wp2_with fail
        refine (D1.out _).mono ?_
        rintro e w5 ⟨rfl, hqw⟩
        have hqv := hqw.symm
        subst hqv
        clear hqw
        go_wp2_with fail
        refine (D2.out _).mono ?_
        rintro e w5 ⟨rfl, hqw⟩
        have hqv := hqw.symm
        subst hqv
        clear hqw
        go_wp2_with fail
        go_ret
        exact ⟨by rw [HF.out]; rfl, BA.out⟩
      rw [d1, d2] at JK
      rw [d1] at D1
      rw [d2] at D2
      clear d1 d2
      go_wp2_with fail
      refine (D1.out _).mono ?_
      rintro e w5 ⟨rfl, hqw⟩
      have hqv := hqw.symm
      subst hqv
      clear hqw
      go_wp2_with fail
      refine (D2.out _).mono ?_
      rintro e w5 ⟨rfl, hqw⟩
      have hqv := hqw.symm
      subst hqv
      clear hqw
      by_cases h0 : h = 0
      · subst h0
        cases em : (b == mo)
        · have OK2 := NX.out (by rw [JK.out, em]; rfl)
          have OKH : Hid (∀ j, j < k + 1 → jok R J j = true) := OK2
          clear JK NX NK OK2
          go_wp2_with fail
          go_roundw
          case rel => exact ⟨k + 1, by omega, by go_num, OKH, BBA⟩
          case measure => simp [intOf]; omega
        · have HF : Hid (bo = false) := NK.out (by rw [JK.out, em]; rfl)
          clear JK NX NK
          go_wp2_with fail
          go_ret
          exact ⟨by rw [HF.out]; rfl, BA.out⟩
      · have e0 : (h == 0) = false := by simpa using h0
        have e0' : (h != 0) = true := by simpa using h0
        rw [e0, e0'] at JK
        clear h0
        by_cases hx : (h == 3 && b != mo) = true
        · have HF : Hid (bo = false) := NK.out (by rw [JK.out, hx]; simp)
          rw [Bool.and_eq_true] at hx
          obtain ⟨hx1, hx2⟩ := hx
          clear JK NX NK
          go_wp2_with fail
          go_ret
          exact ⟨by rw [HF.out]; rfl, BA.out⟩
        · have hx' : (h == 3 && b != mo) = false := by simpa using hx
          rw [hx'] at JK
          have P3 : (h == 3) = false ∨ ((h == 3) = true ∧ (b != mo) = false) := by
            cases q : (h == 3)
            · exact .inl rfl
            · rw [q] at hx'; exact .inr ⟨rfl, by simpa using hx'⟩
          clear hx hx'
          cases eb : (b == 0)
          · rw [eb] at JK
            cases f
            · have HF : Hid (bo = false) := NK.out (by rw [JK.out]; rfl)
              clear JK NX NK
              rcases P3 with p3 | ⟨p3, p4⟩
              all_goals
                go_wp2_with fail
                refine CF.out.mono ?_
                rintro e w6 ⟨rfl, hb⟩
                have B6 : Hid (Below w.heap.size w w6) := BA.out.trans (hb.mono BA.out.size)
                clear hb
                go_wp2_with fail
                go_ret
                exact ⟨by rw [HF.out]; rfl, B6.out⟩
            · have OK2 := NX.out (by rw [JK.out]; rfl)
              have OKH : Hid (∀ j, j < k + 1 → jok R J j = true) := OK2
              clear JK NX NK OK2
              rcases P3 with p3 | ⟨p3, p4⟩
              all_goals
                go_wp2_with fail
                refine CF.out.mono ?_
                rintro e w6 ⟨rfl, hb⟩
                have B6 : Hid (Below w0.heap.size w0 w6) := BBA.out.trans (hb.mono BBA.out.size)
                clear hb
                go_wp2_with fail
                go_roundw
                case rel => exact ⟨k + 1, by omega, by go_num, OKH, B6⟩
                case measure => simp [intOf]; omega
          · have HF : Hid (bo = false) := NK.out (by rw [JK.out, eb]; simp)
            clear JK NX NK
            rcases P3 with p3 | ⟨p3, p4⟩
            all_goals
              go_wp2_with fail
              go_ret
              exact ⟨by rw [HF.out]; rfl, BA.out⟩
    · have AJ : Hid (∀ k, k < n → jok R J k = true) := fun j hj => OK.out j (by omega)
      clear OK
      go_wp2_with fail
      clear x0 x1 x2 x3
      go_loopw [6] (fun i wi => ∃ g : Nat, g ≤ m ∧ i = .int .i64 g ∧ Hid (∀ j, j < g → lok R X J j = true) ∧ Hid (Below w0.heap.size w0 wi)) (fun i _ => m - (intOf i).toNat)
      case atStart => exact ⟨0, Nat.zero_le _, rfl, fun j hj => absurd hj (by omega), BB⟩
      case round =>
        obtain ⟨g, hg, rfl, OG, BG⟩ := hrel
        have BV : Hid (Below w.heap.size w wr) := B0.out.trans (BG.out.mono (by have := Z0.out; omega))
        have XV : Hid (Ru.Box wr w.heap.size (.slice (some ⟨br, or, none⟩) n cr') (.slice (some ⟨bx, ox, none⟩) m cx') (.int .i64 now) (.slice (some ⟨bj, oj, none⟩) n cj')) := X0.out.on BG.out (by have := Z0.out; omega)
        obtain ⟨x0, x1, x2, x3⟩ := XV.out
        by_cases hgl : g < m
        · have q := HCX.out wr BV.out g hgl
          have i1 : (0 : Int) ≤ (g : Int) := by omega
          have i2 : (g : Int) < (m : Int) := by omega
          have LG : Hid (lok R X J g = decide (rn R J ((g : Int) + 1) n ≤ X.getD g 0)) := LO.out g
          have NK : Hid (lok R X J g = false → bo = false) := NL.out g hgl
          have NX : Hid (lok R X J g = true → ∀ j, j < g + 1 → lok R X J j = true) := fun h j hj => by
            by_cases e : j = g
            · rw [e]; exact h
            · exact OG.out j (by omega)
          have BD : Hid (Below w.heap.size w wr.drew) := BV.out.drew
          have CR : Hid (Calls Try.prog 43 #[rv (.slice (some ⟨br, or, none⟩) n cr') (.slice (some ⟨bx, ox, none⟩) m cx') now (.slice (some ⟨bj, oj, none⟩) n cj'), .int .i64 ((g : Int) + 1)] wr.drew fun e w' => e = .returned (.int .i64 (rn R J ((g : Int) + 1) n)) ∧ Below wr.heap.size wr w') := (RUN.out wr.drew _ BD.out).mono (by rintro e w' ⟨rfl, hb⟩; exact ⟨rfl, (Below.refl _ _).drew.trans hb⟩)
          have jg : IntKind.i64.wrap ((g : Int) + 1) = (g : Int) + 1 := IntWalk.i64_in _ (by omega)
          have SW : Hid (w.heap.size < wr.heap.size ∧ bx < wr.heap.size) := (by have h1 := Z0.out; have h2 := BG.out.size; exact ⟨by omega, by omega⟩)
          generalize rn R J ((g : Int) + 1) n = rr at *
          generalize X.getD g 0 = xx at *
          rw [← jg] at CR
          clear jg
          by_cases hc : xx < rr
          · have HF : Hid (bo = false) := NK.out (by rw [LG.out]; exact decide_eq_false (by omega))
            have hd : decide (xx < rr) = true := decide_eq_true hc
            have hd2 : ¬ rr ≤ xx := by omega
            have hd3 : decide (rr ≤ xx) = false := decide_eq_false hd2
            clear NX NK LG
            go_wp2_with fail
            go_region_held3 (fun w' => w'.cell? ⟨w.heap.size, 0, none⟩ = some (.slice (some ⟨br, or, none⟩) n cr') ∧ w'.cell? ⟨w.heap.size, 1, none⟩ = some (.slice (some ⟨bx, ox, none⟩) m cx') ∧ w'.cell? ⟨w.heap.size, 2, none⟩ = some (.int .i64 now) ∧ w'.cell? ⟨w.heap.size, 3, none⟩ = some (.slice (some ⟨bj, oj, none⟩) n cj') ∧ w'.cell? ⟨bx, ox + g, none⟩ = some (.int .i64 xx)) (go_keep)
              ((go_at_call 43; (with_reducible refine CR.out.mono ?_); rintro e w7 ⟨rfl, b7⟩; obtain ⟨v0, v1, v2, v3⟩ := XV.out.on b7 SW.out.1; have q' := (b7.cell (p := ⟨bx, ox + g, none⟩) SW.out.2).trans q; have B7 : Hid (Below w.heap.size w w7) := BV.out.trans (b7.mono BV.out.size); clear b7))
            go_wp2_with fail
            go_ret
            exact ⟨by rw [HF.out]; rfl, B7.out⟩
          · have OK2 := NX.out (by rw [LG.out]; exact decide_eq_true (by omega))
            have OKH : Hid (∀ j, j < g + 1 → lok R X J j = true) := OK2
            have hd : decide (xx < rr) = false := decide_eq_false hc
            have hd2 : rr ≤ xx := by omega
            have hd3 : decide (rr ≤ xx) = true := decide_eq_true hd2
            clear NX NK LG OK2
            go_wp2_with fail
            go_region_held3 (fun w' => w'.cell? ⟨w.heap.size, 0, none⟩ = some (.slice (some ⟨br, or, none⟩) n cr') ∧ w'.cell? ⟨w.heap.size, 1, none⟩ = some (.slice (some ⟨bx, ox, none⟩) m cx') ∧ w'.cell? ⟨w.heap.size, 2, none⟩ = some (.int .i64 now) ∧ w'.cell? ⟨w.heap.size, 3, none⟩ = some (.slice (some ⟨bj, oj, none⟩) n cj') ∧ w'.cell? ⟨bx, ox + g, none⟩ = some (.int .i64 xx)) (go_keep)
              ((go_at_call 43; (with_reducible refine CR.out.mono ?_); rintro e w7 ⟨rfl, b7⟩; obtain ⟨v0, v1, v2, v3⟩ := XV.out.on b7 SW.out.1; have q' := (b7.cell (p := ⟨bx, ox + g, none⟩) SW.out.2).trans q; have B7 : Hid (Below w0.heap.size w0 w7) := BG.out.trans (b7.mono BG.out.size); clear b7))
            go_wp2_with fail
            go_roundw
            case rel => exact ⟨g + 1, by omega, by go_num, OKH, B7⟩
            case measure => simp [intOf]; omega
        · have HT : Hid (bo = true) := YE.out AJ.out (fun j hj => OG.out j (by omega))
          go_wp2_with fail
          go_ret
          exact ⟨by rw [HT.out]; rfl, BV.out⟩
end Go.Proofs.Ytfhpomfdkpfooaa.Rk
