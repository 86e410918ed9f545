/- Soils: the step of a right soil: the model. -/
import Derived.Test.YtgimdhdioigmiaaDoorSs
namespace Go.Proofs.YtgimdhdioigmiaaDoor.So
open Go.ChangeShapes Go.WideShapes Go.ChangeAt Go.RowKit

theorem SB.p0 {w wx : World} {a b c d f : Int} (h : SB w wx a b c d f) (x : Int) : SB w (wx.setCell ⟨w.heap.size, 0, none⟩ (.int .i64 x)) x b c d f := by
  obtain ⟨r0, r1, r2, r3, r4⟩ := h.r
  obtain ⟨h0, h1, h2, h3, h4⟩ := h.h
  have k := h.k
  have g := h.g
  refine ⟨?_, ?_, fun o => ?_, fun o => ?_, by simpa using h.z, h.b.setCell (Nat.le_refl _) _⟩
  · simp [go_sem, r0, r1, r2, r3, r4]
  · simp [go_sem, h0, h1, h2, h3, h4]
  · simp [go_sem, k]
  · simp [go_sem, g]
theorem SB.p1 {w wx : World} {a b c d f : Int} (h : SB w wx a b c d f) (x : Int) : SB w (wx.setCell ⟨w.heap.size, 1, none⟩ (.int .i64 x)) a x c d f := by
  obtain ⟨r0, r1, r2, r3, r4⟩ := h.r
  obtain ⟨h0, h1, h2, h3, h4⟩ := h.h
  have k := h.k
  have g := h.g
  refine ⟨?_, ?_, fun o => ?_, fun o => ?_, by simpa using h.z, h.b.setCell (Nat.le_refl _) _⟩
  · simp [go_sem, r0, r1, r2, r3, r4]
  · simp [go_sem, h0, h1, h2, h3, h4]
  · simp [go_sem, k]
  · simp [go_sem, g]
theorem SB.p2 {w wx : World} {a b c d f : Int} (h : SB w wx a b c d f) (x : Int) : SB w (wx.setCell ⟨w.heap.size, 2, none⟩ (.int .i64 x)) a b x d f := by
  obtain ⟨r0, r1, r2, r3, r4⟩ := h.r
  obtain ⟨h0, h1, h2, h3, h4⟩ := h.h
  have k := h.k
  have g := h.g
  refine ⟨?_, ?_, fun o => ?_, fun o => ?_, by simpa using h.z, h.b.setCell (Nat.le_refl _) _⟩
  · simp [go_sem, r0, r1, r2, r3, r4]
  · simp [go_sem, h0, h1, h2, h3, h4]
  · simp [go_sem, k]
  · simp [go_sem, g]
theorem SB.p3 {w wx : World} {a b c d f : Int} (h : SB w wx a b c d f) (x : Int) : SB w (wx.setCell ⟨w.heap.size, 3, none⟩ (.int .i64 x)) a b c x f := by
  obtain ⟨r0, r1, r2, r3, r4⟩ := h.r
  obtain ⟨h0, h1, h2, h3, h4⟩ := h.h
  have k := h.k
  have g := h.g
  refine ⟨?_, ?_, fun o => ?_, fun o => ?_, by simpa using h.z, h.b.setCell (Nat.le_refl _) _⟩
  · simp [go_sem, r0, r1, r2, r3, r4]
  · simp [go_sem, h0, h1, h2, h3, h4]
  · simp [go_sem, k]
  · simp [go_sem, g]
theorem SB.p4 {w wx : World} {a b c d f : Int} (h : SB w wx a b c d f) (x : Int) : SB w (wx.setCell ⟨w.heap.size, 4, none⟩ (.int .i64 x)) a b c d x := by
  obtain ⟨r0, r1, r2, r3, r4⟩ := h.r
  obtain ⟨h0, h1, h2, h3, h4⟩ := h.h
  have k := h.k
  have g := h.g
  refine ⟨?_, ?_, fun o => ?_, fun o => ?_, by simpa using h.z, h.b.setCell (Nat.le_refl _) _⟩
  · simp [go_sem, r0, r1, r2, r3, r4]
  · simp [go_sem, h0, h1, h2, h3, h4]
  · simp [go_sem, k]
  · simp [go_sem, g]
theorem SB.eq {w wx : World} {a b c d f a' b' c' d' f' : Int} (h : SB w wx a b c d f) (e0 : a = a') (e1 : b = b') (e2 : c = c') (e3 : d = d') (e4 : f = f') : SB w wx a' b' c' d' f' := by subst e0 e1 e2 e3 e4; exact h


set_option maxRecDepth 20000 in
set_option maxHeartbeats 8000000 in
theorem sstep_yes (a b c d f t r : Int) (w : World) (h : okT a b c d f t r = true) : Calls Tryd.prog 6 #[sv a b c d f, .int .i64 t, .int .i64 r] w fun e w' => e = .returned (.tuple #[res a b c d f t r, .bool true]) ∧ Below w.heap.size w w' := by
  obtain ⟨o0, o1, o2, o3⟩ := okT_parts h
  obtain ⟨pa, pb, pc, pd, pf, pe⟩ := okB_parts o0
  clear pe
  have pt := (inn_iff _ _ _).mp o1
  have pr := (inn_iff _ _ _).mp o2
  obtain ⟨W, hW⟩ : ∃ W, W = (w.alloc (Obj.cells #[.int .i64 a, .int .i64 b, .int .i64 c, .int .i64 d, .int .i64 f] 25)).alloc (Obj.cells #[.int .i64 0, .int .i64 0, .int .i64 0, .int .i64 0, .int .i64 0] 25) := ⟨_, rfl⟩
  have HW : Hid (W = (w.alloc (Obj.cells #[.int .i64 a, .int .i64 b, .int .i64 c, .int .i64 d, .int .i64 f] 25)).alloc (Obj.cells #[.int .i64 0, .int .i64 0, .int .i64 0, .int .i64 0, .int .i64 0] 25)) := hW
  have S0 : Hid (SB w W a b c d f) := (by show SB _ _ _ _ _ _ _; rw [hW]; exact SB.start w a b c d f)
  have P0 : Hid (Calls Tryd.prog 13 #[sv a b c d f] W fun e w' => e = .returned (.bool (okB a b c d f)) ∧ SB w w' a b c d f) := by
    refine (sok_any a b c d f W).mono ?_
    rintro e w' ⟨rfl, hb⟩
    exact ⟨rfl, S0.out.on hb⟩
  have P1 : Hid (∀ w, Calls Tryd.prog 14 #[.int .i64 t, .int .i64 (-800), .int .i64 800] w fun e w' => e = .returned (.bool (inn t (-800) 800)) ∧ w' = w) := fun w => s_in _ _ _ w
  have P2 : Hid (∀ w, Calls Tryd.prog 14 #[.int .i64 r, .int .i64 0, .int .i64 5000] w fun e w' => e = .returned (.bool (inn r 0 5000)) ∧ w' = w) := fun w => s_in _ _ _ w
  clear hW
  rw [o0] at P0
  rw [o1] at P1
  rw [o2] at P2
  have A := a1_bd (t := t) pa pr
  have Bb := b1_bd (t := t) pb pr
  have gz : ¬ 1000000000000 - r < f := by omega
  have HA : Hid (a1 a t r = if t < 0 then a + r else a) := rfl
  have HB : Hid (b1 b t r = if t < 0 then b else b + r) := rfl
  have HM : Hid (ml1 a t r = if 0 < t then min (a1 a t r) (3 * t / 10) else 0) := rfl
  have HD : Hid (dr1 a b t r = if 0 < t then min (b1 b t r + ml1 a t r) (t / 20) else 0) := rfl
  have hm : 0 ≤ ml1 a t r ∧ ml1 a t r ≤ a1 a t r ∧ ml1 a t r ≤ 240 := (by have e := HM.out; split at e <;> omega)
  have hdd : 0 ≤ dr1 a b t r ∧ dr1 a b t r ≤ b1 b t r + ml1 a t r ∧ dr1 a b t r ≤ 40 := (by have e := HD.out; split at e <;> omega)
  obtain ⟨x1, X1⟩ : ∃ x, b3 a b t r - dn (b3 a b t r) c - ov (b3 a b t r - dn (b3 a b t r) c) = x := ⟨_, rfl⟩
  obtain ⟨x2, X2⟩ : ∃ x, c + dn (b3 a b t r) c - (c + dn (b3 a b t r) c) / 50 = x := ⟨_, rfl⟩
  obtain ⟨x3, X3⟩ : ∃ x, d3 a b d t r + (ov (b3 a b t r - dn (b3 a b t r) c) + (c + dn (b3 a b t r) c) / 50) = x := ⟨_, rfl⟩
  have ER : res a b c d f t r = sv (a1 a t r - ml1 a t r) x1 x2 x3 (f + r) := by unfold res; rw [X1, X2, X3]
  rw [ER]
  have eb : b3 a b t r = b1 b t r + ml1 a t r - dr1 a b t r := rfl
  have ed : d3 a b d t r = d + dr1 a b t r := rfl
  rw [eb] at X1 X2 X3
  rw [ed] at X3
  generalize ml1 a t r = m at *
  generalize dr1 a b t r = dd at *
  generalize a1 a t r = ua at *
  generalize b1 b t r = ub at *
  obtain ⟨uf, hf⟩ : ∃ uf, f + r = uf := ⟨_, rfl⟩
  rw [hf]
  obtain ⟨va, hva⟩ : ∃ va, ua - m = va := ⟨_, rfl⟩
  obtain ⟨vb, hvb⟩ : ∃ vb, ub + m - dd = vb := ⟨_, rfl⟩
  obtain ⟨vd, hvd⟩ : ∃ vd, d + dd = vd := ⟨_, rfl⟩
  rw [hva]
  rw [hvb] at X1 X2 X3
  rw [hvd] at X3
  unfold dn ov at X1 X3
  unfold dn at X2
  have bvb : 0 ≤ vb ∧ vb ≤ 6000 := by omega
  have bvd : 0 ≤ vd ∧ vd ≤ 1000000000100 := by omega
  have HF : Hid (f + r = uf) := hf
  have HV : Hid (ua - m = va ∧ ub + m - dd = vb ∧ d + dd = vd) := ⟨hva, hvb, hvd⟩
  have HX : Hid (vb - min (max 0 (vb - 100) / 4) (1500 - c) - max 0 (vb - min (max 0 (vb - 100) / 4) (1500 - c) - 400) = x1 ∧ c + min (max 0 (vb - 100) / 4) (1500 - c) - (c + min (max 0 (vb - 100) / 4) (1500 - c)) / 50 = x2 ∧ vd + (max 0 (vb - min (max 0 (vb - 100) / 4) (1500 - c) - 400) + (c + min (max 0 (vb - 100) / 4) (1500 - c)) / 50) = x3) := ⟨X1, X2, X3⟩
  have e1 : (3 * t).tdiv 10 = (3 * t).tdiv 10 := rfl
  have PC : Hid (0 ≤ c ∧ c ≤ 1500) := pc
  clear X1 X2 X3 eb ed ER hva hvb hvd hf e1 o0 o1 o2 o3
  go_enter Tryd.func6, Tryd.ntmps6
  obtain ⟨r0, r1, r2, r3, r4⟩ := S0.out.r
  obtain ⟨h0, h1, h2, h3, h4⟩ := S0.out.h
  have rk := S0.out.k
  have rg := S0.out.g
  go_wp2_with fail
  rw [← HW.out]
  go_wp2_with fail
  clear r0 r1 r2 r3 r4 h0 h1 h2 h3 h4 rk rg
  refine P0.out.mono ?_
  rintro e w1 ⟨rfl, hb⟩
  have S1 : Hid (SB w w1 a b c d f) := hb
  clear hb
  obtain ⟨r0, r1, r2, r3, r4⟩ := S1.out.r
  obtain ⟨h0, h1, h2, h3, h4⟩ := S1.out.h
  have rk := S1.out.k
  have rg := S1.out.g
  go_wp2_with fail
  refine (P1.out _).mono ?_
  rintro e w2 ⟨rfl, hw⟩
  subst hw
  go_wp2_with fail
  refine (P2.out _).mono ?_
  rintro e w3 ⟨rfl, hw⟩
  subst hw
  go_upto_if 40 with fail
  go_cut [] (fun wx => Hid (SB w wx ua ub c d uf))
  case first =>
    by_cases g : t < 0
    · have eA : ua = a + r := (by have e := HA.out; rw [if_pos g] at e; exact e)
      have eB : ub = b := (by have e := HB.out; rw [if_pos g] at e; exact e)
      have HE : Hid (ua = a + r ∧ ub = b) := ⟨eA, eB⟩
      clear eA eB
      go_wp2_with fail
      go_meet
      exact ((S1.out.p4 _).p0 _).eq HE.out.1.symm HE.out.2.symm rfl rfl HF.out
    · have eA : ua = a := (by have e := HA.out; rw [if_neg g] at e; exact e)
      have eB : ub = b + r := (by have e := HB.out; rw [if_neg g] at e; exact e)
      have HE : Hid (ua = a ∧ ub = b + r) := ⟨eA, eB⟩
      clear eA eB
      go_wp2_with fail
      go_meet
      exact ((S1.out.p4 _).p1 _).eq HE.out.1.symm HE.out.2.symm rfl rfl HF.out
  case rest =>
    clear r0 r1 r2 r3 r4 h0 h1 h2 h3 h4 rk rg
    have S2 : Hid (SB w wc ua ub c d uf) := hcut
    clear hcut P0 P1 P2 S0 S1 HW HA HB HF gz pa pb pf pr pc
    obtain ⟨r0, r1, r2, r3, r4⟩ := S2.out.r
    obtain ⟨h0, h1, h2, h3, h4⟩ := S2.out.h
    have rk := S2.out.k
    have rg := S2.out.g
    go_upto_if 52 with fail
    go_cut [8, 9] (fun _ _ wx => Hid (SB w wx va vb c vd uf))
    case first =>
      by_cases g : 0 < t
      · have eM := HM.out
        rw [if_pos g] at eM
        have eD := HD.out
        rw [if_pos g] at eD
        obtain ⟨q1, hq1⟩ : ∃ q1, 3 * t / 10 = q1 := ⟨_, rfl⟩
        obtain ⟨q2, hq2⟩ : ∃ q2, t / 20 = q2 := ⟨_, rfl⟩
        have e1 : (3 * t).tdiv 10 = q1 := by rw [tdiv_pos (by omega)]; exact hq1
        have e2 : t.tdiv 20 = q2 := by rw [tdiv_pos (by omega)]; exact hq2
        have b1 : 0 ≤ q1 ∧ q1 ≤ 240 := by omega
        have b2 : 0 ≤ q2 ∧ q2 ≤ 40 := by omega
        rw [hq1] at eM
        rw [hq2] at eD
        have HE : Hid (m = min ua q1 ∧ dd = min (ub + m) q2) := ⟨eM, eD⟩
        clear hq1 hq2 eM eD
        by_cases g1 : q1 < ua
        · by_cases g2 : q2 < ub + q1
          · skip
            go_wp2_with fail
            go_meet
            have v := HV.out
            have e := HE.out
            exact (((((S2.out.p0 _).p1 _).p1 _).p3 _)).eq (by omega) (by omega) rfl (by omega) rfl
          · skip
            go_wp2_with fail
            go_meet
            have v := HV.out
            have e := HE.out
            exact (((((S2.out.p0 _).p1 _).p1 _).p3 _)).eq (by omega) (by omega) rfl (by omega) rfl
        · by_cases g2 : q2 < ub + ua
          · skip
            go_wp2_with fail
            go_meet
            have v := HV.out
            have e := HE.out
            exact (((((S2.out.p0 _).p1 _).p1 _).p3 _)).eq (by omega) (by omega) rfl (by omega) rfl
          · skip
            go_wp2_with fail
            go_meet
            have v := HV.out
            have e := HE.out
            exact (((((S2.out.p0 _).p1 _).p1 _).p3 _)).eq (by omega) (by omega) rfl (by omega) rfl
      · have eM := HM.out
        rw [if_neg g] at eM
        have eD := HD.out
        rw [if_neg g] at eD
        have HE : Hid (m = 0 ∧ dd = 0) := ⟨eM, eD⟩
        clear eM eD
        go_wp2_with fail
        go_meet
        have v := HV.out
        have e := HE.out
        exact S2.out.eq (by omega) (by omega) rfl (by omega) rfl
    case rest =>
      clear r0 r1 r2 r3 r4 h0 h1 h2 h3 h4 rk rg
      have S3 : Hid (SB w wc va vb c vd uf) := hcut
      have pc := PC.out
      clear hcut S2 HM HD HV A Bb hm hdd pd pt PC
      obtain ⟨r0, r1, r2, r3, r4⟩ := S3.out.r
      obtain ⟨h0, h1, h2, h3, h4⟩ := S3.out.h
      have rk := S3.out.k
      have rg := S3.out.g
      by_cases g1 : vb - 100 < 0
      · have e0 : min (max 0 (vb - 100) / 4) (1500 - c) = 0 := by omega
        have HX : Hid (vb - max 0 (vb - 400) = x1 ∧ c - c / 50 = x2 ∧ vd + (max 0 (vb - 400) + c / 50) = x3) := (by have h := HX.out; rw [e0, Int.sub_zero, Int.add_zero] at h; exact h)
        clear e0
        obtain ⟨k, hk⟩ : ∃ k, c / 50 = k := ⟨_, rfl⟩
        have e2 : c.tdiv 50 = k := by rw [tdiv_pos (by omega)]; exact hk
        have bk : 0 ≤ k ∧ k ≤ 30 := by omega
        have e4 : Int.tdiv 0 4 = 0 := by decide
        have g2 : ¬ 1500 - c < 0 := by omega
        have g3 : vb - 400 < 0 := by omega
        go_upto_region 22 with fail
        generalize hW9 : World.setCell _ _ _ = W9
        have S9 : Hid (SB w W9 va x1 x2 x3 uf) := (by
          have hx := HX.out
          show SB _ _ _ _ _ _ _
          rw [← hW9]
          exact (((((S3.out.p1 _).p2 _).p1 _).p2 _).p3 _).eq rfl (by omega) (by omega) (by omega) rfl)
        clear hW9 S3 HX
        clear r0 r1 r2 r3 r4 h0 h1 h2 h3 h4 rk rg
        obtain ⟨r0, r1, r2, r3, r4⟩ := S9.out.r
        obtain ⟨h0, h1, h2, h3, h4⟩ := S9.out.h
        have rk := S9.out.k
        have rg := S9.out.g
        go_wp2_with fail
        refine bodyPost_ret (v := .tuple #[sv va x1 x2 x3 uf, .bool true]) (by simp [results, Tryd.results6, go_sem, h0, h1, h2, h3, h4]) rfl ⟨rfl, ?_⟩
        have hb := S9.out.b
        repeat' first | exact hb | refine Below.setCell ?_ (by simp <;> omega) _
      · obtain ⟨q, hq⟩ : ∃ q, (vb - 100) / 4 = q := ⟨_, rfl⟩
        have e1 : (vb - 100).tdiv 4 = q := by rw [tdiv_pos (by omega)]; exact hq
        have e0 : max 0 (vb - 100) = vb - 100 := by omega
        have bq : 0 ≤ q ∧ 4 * q ≤ vb - 100 := by omega
        have HX : Hid (vb - min q (1500 - c) - max 0 (vb - min q (1500 - c) - 400) = x1 ∧ c + min q (1500 - c) - (c + min q (1500 - c)) / 50 = x2 ∧ vd + (max 0 (vb - min q (1500 - c) - 400) + (c + min q (1500 - c)) / 50) = x3) := (by have h := HX.out; rw [e0, hq] at h; exact h)
        clear hq e0
        by_cases g2 : 1500 - c < q
        · have ed : min q (1500 - c) = 1500 - c := by omega
          have HX : Hid (vb - (1500 - c) - max 0 (vb - (1500 - c) - 400) = x1 ∧ c + (1500 - c) - (c + (1500 - c)) / 50 = x2 ∧ vd + (max 0 (vb - (1500 - c) - 400) + (c + (1500 - c)) / 50) = x3) := (by have h := HX.out; rw [ed] at h; exact h)
          clear ed
          have e2 : Int.tdiv 1500 50 = 30 := by decide
          have e3 : c + (1500 - c) = 1500 := by omega
          by_cases g3 : vb - (1500 - c) - 400 < 0
          · skip
            go_upto_region 22 with fail
            generalize hW9 : World.setCell _ _ _ = W9
            have S9 : Hid (SB w W9 va x1 x2 x3 uf) := (by
              have hx := HX.out
              show SB _ _ _ _ _ _ _
              rw [← hW9]
              exact (((((S3.out.p1 _).p2 _).p1 _).p2 _).p3 _).eq rfl (by omega) (by omega) (by omega) rfl)
            clear hW9 S3 HX
            clear r0 r1 r2 r3 r4 h0 h1 h2 h3 h4 rk rg
            obtain ⟨r0, r1, r2, r3, r4⟩ := S9.out.r
            obtain ⟨h0, h1, h2, h3, h4⟩ := S9.out.h
            have rk := S9.out.k
            have rg := S9.out.g
            go_wp2_with fail
            refine bodyPost_ret (v := .tuple #[sv va x1 x2 x3 uf, .bool true]) (by simp [results, Tryd.results6, go_sem, h0, h1, h2, h3, h4]) rfl ⟨rfl, ?_⟩
            have hb := S9.out.b
            repeat' first | exact hb | refine Below.setCell ?_ (by simp <;> omega) _
          · skip
            go_upto_region 22 with fail
            generalize hW9 : World.setCell _ _ _ = W9
            have S9 : Hid (SB w W9 va x1 x2 x3 uf) := (by
              have hx := HX.out
              show SB _ _ _ _ _ _ _
              rw [← hW9]
              exact (((((S3.out.p1 _).p2 _).p1 _).p2 _).p3 _).eq rfl (by omega) (by omega) (by omega) rfl)
            clear hW9 S3 HX
            clear r0 r1 r2 r3 r4 h0 h1 h2 h3 h4 rk rg
            obtain ⟨r0, r1, r2, r3, r4⟩ := S9.out.r
            obtain ⟨h0, h1, h2, h3, h4⟩ := S9.out.h
            have rk := S9.out.k
            have rg := S9.out.g
            go_wp2_with fail
            refine bodyPost_ret (v := .tuple #[sv va x1 x2 x3 uf, .bool true]) (by simp [results, Tryd.results6, go_sem, h0, h1, h2, h3, h4]) rfl ⟨rfl, ?_⟩
            have hb := S9.out.b
            repeat' first | exact hb | refine Below.setCell ?_ (by simp <;> omega) _
        · have ed : min q (1500 - c) = q := by omega
          have HX : Hid (vb - (q) - max 0 (vb - (q) - 400) = x1 ∧ c + (q) - (c + (q)) / 50 = x2 ∧ vd + (max 0 (vb - (q) - 400) + (c + (q)) / 50) = x3) := (by have h := HX.out; rw [ed] at h; exact h)
          clear ed
          obtain ⟨k, hk⟩ : ∃ k, (c + q) / 50 = k := ⟨_, rfl⟩
          have e2 : (c + q).tdiv 50 = k := by rw [tdiv_pos (by omega)]; exact hk
          have bk : 0 ≤ k ∧ k ≤ 30 := by omega
          by_cases g3 : vb - q - 400 < 0
          · skip
            go_upto_region 22 with fail
            generalize hW9 : World.setCell _ _ _ = W9
            have S9 : Hid (SB w W9 va x1 x2 x3 uf) := (by
              have hx := HX.out
              show SB _ _ _ _ _ _ _
              rw [← hW9]
              exact (((((S3.out.p1 _).p2 _).p1 _).p2 _).p3 _).eq rfl (by omega) (by omega) (by omega) rfl)
            clear hW9 S3 HX
            clear r0 r1 r2 r3 r4 h0 h1 h2 h3 h4 rk rg
            obtain ⟨r0, r1, r2, r3, r4⟩ := S9.out.r
            obtain ⟨h0, h1, h2, h3, h4⟩ := S9.out.h
            have rk := S9.out.k
            have rg := S9.out.g
            go_wp2_with fail
            refine bodyPost_ret (v := .tuple #[sv va x1 x2 x3 uf, .bool true]) (by simp [results, Tryd.results6, go_sem, h0, h1, h2, h3, h4]) rfl ⟨rfl, ?_⟩
            have hb := S9.out.b
            repeat' first | exact hb | refine Below.setCell ?_ (by simp <;> omega) _
          · skip
            go_upto_region 22 with fail
            generalize hW9 : World.setCell _ _ _ = W9
            have S9 : Hid (SB w W9 va x1 x2 x3 uf) := (by
              have hx := HX.out
              show SB _ _ _ _ _ _ _
              rw [← hW9]
              exact (((((S3.out.p1 _).p2 _).p1 _).p2 _).p3 _).eq rfl (by omega) (by omega) (by omega) rfl)
            clear hW9 S3 HX
            clear r0 r1 r2 r3 r4 h0 h1 h2 h3 h4 rk rg
            obtain ⟨r0, r1, r2, r3, r4⟩ := S9.out.r
            obtain ⟨h0, h1, h2, h3, h4⟩ := S9.out.h
            have rk := S9.out.k
            have rg := S9.out.g
            go_wp2_with fail
            refine bodyPost_ret (v := .tuple #[sv va x1 x2 x3 uf, .bool true]) (by simp [results, Tryd.results6, go_sem, h0, h1, h2, h3, h4]) rfl ⟨rfl, ?_⟩
            have hb := S9.out.b
            repeat' first | exact hb | refine Below.setCell ?_ (by simp <;> omega) _
end Go.Proofs.YtgimdhdioigmiaaDoor.So