/- Pack of the model: its values. -/
import Derived.Test.YtgajajpcjbpalaaYm
namespace Go.Proofs.Ytgajajpcjbpalaa.Pkd
open Go.ChangeShapes Go.WideShapes Go.ChangeAt Go.RowKit
open Go.Proofs.Ytgajajpcjbpalaa.Lists Go.Proofs.Ytgajajpcjbpalaa.Flt Go.Proofs.Ytgajajpcjbpalaa.Fls


theorem ths_snoc (L : List Nat) (x : Nat) : ths (L ++ [x]) = ths L ++ [th1 x] := by simp [ths]
theorem ws_nan (dec : Int) (L : List Nat) (x : Nat) (h : nan x = true) : ws dec (L ++ [x]) = ws dec L := by unfold ws; rw [rl_nan L x h]
theorem ws_num (dec : Int) (L : List Nat) (x : Nat) (h : nan x = false) : ws dec (L ++ [x]) = ws dec L ++ [nn dec x] := by unfold ws; rw [rl_num L x h, List.map_append]; rfl

set_option maxHeartbeats 4000000 in
set_option maxRecDepth 20000 in
theorem spack_run (v : Value) (L : List Nat) (b dec : Int) (w : World) (hR : Fls.Reads w v L) (ho : okA L.length b dec = true) :
    Calls Try.prog 5 #[v, .int .i64 b, .int .i64 dec] w (Post L b dec w) := by
  obtain ⟨i0, hi, hz0, hz1, hz2⟩ := info_parts Lists.Try.info2
  obtain ⟨b0, bi, bz0, bz1, bz2⟩ := info_parts Bytes.Try.info5
  obtain ⟨w1, hw1⟩ : ∃ w1, w1 = ((w.alloc (.cells #[.int .i64 0, .int .i64 0, .int .i64 0, .int .i64 0, .int .i64 0, .slice none 0 0, .slice none 0 0] 26)).alloc (.cells #[] 5)).alloc (.cells #[] 2) := ⟨_, rfl⟩
  have HW : Hid (w1 = ((w.alloc (.cells #[.int .i64 0, .int .i64 0, .int .i64 0, .int .i64 0, .int .i64 0, .slice none 0 0, .slice none 0 0] 26)).alloc (.cells #[] 5)).alloc (.cells #[] 2)) := hw1
  have M0 : Hid (M1 w w1 (.slice (some ⟨w.heap.size + 1, 0, none⟩) 0 0) (.slice (some ⟨w.heap.size + 2, 0, none⟩) 0 0) 0 0 [] []) := (by
    have ea : ((w.alloc (.cells #[.int .i64 0, .int .i64 0, .int .i64 0, .int .i64 0, .int .i64 0, .slice none 0 0, .slice none 0 0] 26)).alloc (.cells #[] 5)).heap.size = w.heap.size + 2 := by simp
    refine ⟨?_, ?_, ?_, ?_, ?_⟩
    · rw [hw1]; exact (((Below.refl _ _).alloc (Nat.le_refl _) _).alloc (by simp) _).alloc (by simp; omega) _
    · rw [hw1]; exact (zbox w).alloc.alloc
    · intro j; rw [hw1]; simp [go_sem]
    · rw [hw1]
      have h1 : ((w.alloc (.cells #[.int .i64 0, .int .i64 0, .int .i64 0, .int .i64 0, .int .i64 0, .slice none 0 0, .slice none 0 0] 26)).alloc (.cells #[] 5)).ownsRow (w.heap.size + 1) 5 1 (.slice (some ⟨(w.alloc (.cells #[.int .i64 0, .int .i64 0, .int .i64 0, .int .i64 0, .int .i64 0, .slice none 0 0, .slice none 0 0] 26)).heap.size, 0, none⟩) 0 0) 0 [] := World.ownsRow_lit _ #[] 0 (by simp) (by unfold maxLen; omega) rfl
      have e1 : (w.alloc (.cells #[.int .i64 0, .int .i64 0, .int .i64 0, .int .i64 0, .int .i64 0, .slice none 0 0, .slice none 0 0] 26)).heap.size = w.heap.size + 1 := by simp
      rw [e1] at h1
      exact h1.alloc _
    · rw [hw1]
      have h1 : (((w.alloc (.cells #[.int .i64 0, .int .i64 0, .int .i64 0, .int .i64 0, .int .i64 0, .slice none 0 0, .slice none 0 0] 26)).alloc (.cells #[] 5)).alloc (.cells #[] 2)).ownsRow (w.heap.size + 1) 2 1 (.slice (some ⟨((w.alloc (.cells #[.int .i64 0, .int .i64 0, .int .i64 0, .int .i64 0, .int .i64 0, .slice none 0 0, .slice none 0 0] 26)).alloc (.cells #[] 5)).heap.size, 0, none⟩) 0 0) 0 [] := World.ownsRow_lit _ #[] 0 (by simp) (by unfold maxLen; omega) rfl
      rw [ea] at h1
      exact h1)
  have ho2 := ho
  unfold okA at ho2
  simp only [Bool.and_eq_true, decide_eq_true_eq] at ho2
  obtain ⟨hl, ⟨b1, b2⟩, d1, d2⟩ := ho2
  have HO : Hid (okA L.length b dec = true) := ho
  obtain ⟨x, cap, bb, o, rfl, hx, hc, hm⟩ := Reads.fopened hR
  obtain ⟨n, hn⟩ : ∃ n, n = L.length := ⟨_, rfl⟩
  have HN : Hid (n = L.length) := hn
  rw [← hn] at hl hx hc ⊢
  have HX : Hid (0 < n → x = some ⟨bb, o, none⟩) := fun h => (hx h).1
  have HB : Hid (0 < n → bb < w.heap.size) := fun h => (hx h).2
  have HC : Hid (∀ i, i < n → w.cell? ⟨bb, o + i, none⟩ = some (.float .f64 (L.getD i 0))) := hc
  have l1 : ((n : Int) ≤ 4096) := by omega
  clear hw1 hx hc hR hn hm ho
  go_enter Try.func5, Try.ntmps5
  go_upto_region 5 with fail
  rw [← HW.out]
  go_wp2_with fail
  go_loopw [8, 9, 10] (fun tv lv i wr => ∃ k : Nat, k ≤ n ∧ i = .int .i64 k ∧ Hid (M1 w wr tv lv k (ws dec (L.take k)).length (ths (L.take k)) (ws dec (L.take k))) ∧ Hid ((rl (L.take k)).all (fb dec) = true)) (fun _ _ i _ => n - (intOf i).toNat)
  case atStart => exact ⟨0, Nat.zero_le _, rfl, M0, rfl⟩
  case round =>
    obtain ⟨k, hk, rfl, M, KK⟩ := hrel
    by_cases hlt : k < n
    · have hx := HX.out (by omega)
      subst hx
      have hb := HB.out (by omega)
      have q1 := (M.out.bl.cell (p := ⟨bb, o + k, none⟩) hb).trans (HC.out k hlt)
      have j0 : (0 : Int) ≤ (k : Int) := by omega
      have j1 : (k : Int) < (n : Int) := by omega
      have TK : Hid (L.take (k + 1) = L.take k ++ [L.getD k 0]) := ftake L k (by rw [← HN.out]; exact hlt)
      have ME : Hid (L.getD k 0 ∈ L) := fmem L k (by rw [← HN.out]; exact hlt)
      generalize L.getD k 0 = u at *
      have n1 := self_ne u
      obtain ⟨ta, tc, et⟩ : ∃ ta tc, u8 = .slice ta k tc := row_form M.out.ot
      subst et
      have WL : Hid ((ws dec (L.take k)).length ≤ 4096) := (by
        show _ ≤ _
        rw [ws_len]
        have := rl_le (L.take k)
        have := List.length_take_le k L
        omega)
      obtain ⟨wk, hwk⟩ : ∃ wk, wk = (ws dec (L.take k)).length := ⟨_, rfl⟩
      have WKL : Hid (wk = (ws dec (L.take k)).length) := hwk
      rw [← hwk] at M WL
      obtain ⟨la, lc, el⟩ : ∃ la lc, u9 = .slice la wk lc := row_form M.out.ol
      subst el
      have wl := WL.out
      clear hwk
      have TS : Hid (ths (L.take (k + 1)) = ths (L.take k) ++ [th1 u]) := (by show _ = _; rw [TK.out]; exact ths_snoc _ _)
      cases hz : nan u
      · rw [hz] at n1
        have WS : Hid (ws dec (L.take (k + 1)) = ws dec (L.take k) ++ [nn dec u]) := (by show _ = _; rw [TK.out]; exact ws_num _ _ _ hz)
        have T1 : Hid (th1 u = 1) := (by show _ = _; unfold th1; rw [hz]; rfl)
        have CS : Hid (∀ w, Calls Try.prog 18 #[.float .f64 u, .int .i64 dec] w fun e w' => e = two (nn dec u) (fb dec u) ∧ ∃ m, w' = w.drewN m) := fun w => sscaled u dec hz d1 d2 w
        have RT : Hid (rl (L.take (k + 1)) = rl (L.take k) ++ [u]) := (by show _ = _; rw [TK.out]; exact rl_num _ _ hz)
        cases hq : fb dec u
        · rw [hq] at CS
          have HF : Hid (allf dec L = false) := (by
            show _ = _
            rw [fb_all, List.all_eq_false]
            exact ⟨u, List.mem_filter.2 ⟨ME.out, by simp [hz]⟩, by simp [hq]⟩)
          have HP : Hid (∀ wz, Below w.heap.size w wz → Post L b dec w (.returned (.tuple #[pkv zpk (.slice none 0 0) (.slice none 0 0), .int .i64 2])) wz) := fun wz h => post_no (.inr (.inl ⟨HO.out, HF.out, rfl, rfl⟩)) h
          clear hz hq
          generalize nn dec u = p at *
          go_wp2_with fail
          go_quiet (fail)
          have q2 : (wr.drewN nq).cell? ⟨bb, o + k, none⟩ = some (.float .f64 u) := q1
          have M2 : Hid (M1 w (wr.drewN nq) (.slice ta k tc) (.slice la wk lc) k wk (ths (L.take k)) (ws dec (L.take k))) := M.out.drewN nq
          clear M q1
          generalize wr.drewN nq = w3 at *
          go_wp2_with fail
          refine (CS.out _).mono ?_
          rintro e w' ⟨rfl, m, hw⟩; subst w'
          have M3 : Hid (M1 w (w3.drewN m) (.slice ta k tc) (.slice la wk lc) k wk (ths (L.take k)) (ws dec (L.take k))) := M2.out.drewN m
          clear M2 q2
          generalize w3.drewN m = w2 at *
          obtain ⟨y0, y1, y2, y3, y4, y5, y6⟩ := M3.out.bx
          have F1 := M3.out.fz
          have FX : Hid (Box7 (((((((w2.setCell ⟨w.heap.size, 0, none⟩ (.int .i64 0)).setCell ⟨w.heap.size, 1, none⟩ (.int .i64 0)).setCell ⟨w.heap.size, 2, none⟩ (.int .i64 0)).setCell ⟨w.heap.size, 3, none⟩ (.int .i64 0)).setCell ⟨w.heap.size, 4, none⟩ (.int .i64 0)).setCell ⟨w.heap.size, 5, none⟩ (.slice none 0 0)).setCell ⟨w.heap.size, 6, none⟩ (.slice none 0 0)) w.heap.size (.int .i64 0) (.int .i64 0) (.int .i64 0) (.int .i64 0) (.int .i64 0) (.slice none 0 0) (.slice none 0 0)) := put7_box _ _ _ _ _ _ _ M3.out.bx
          have FL : Hid (Below w.heap.size w (((((((w2.setCell ⟨w.heap.size, 0, none⟩ (.int .i64 0)).setCell ⟨w.heap.size, 1, none⟩ (.int .i64 0)).setCell ⟨w.heap.size, 2, none⟩ (.int .i64 0)).setCell ⟨w.heap.size, 3, none⟩ (.int .i64 0)).setCell ⟨w.heap.size, 4, none⟩ (.int .i64 0)).setCell ⟨w.heap.size, 5, none⟩ (.slice none 0 0)).setCell ⟨w.heap.size, 6, none⟩ (.slice none 0 0))) := put7_below _ _ _ _ _ _ _ M3.out.bl (Nat.le_refl _)
          go_wp2_with fail
          generalize World.setCell _ _ _ = wz at FX FL ⊢
          obtain ⟨z0, z1, z2, z3, z4, z5, z6⟩ := FX.out
          exact bodyPost_ret (v := .tuple #[pkv zpk (.slice none 0 0) (.slice none 0 0), .int .i64 2]) (by simp [results, Try.results5, go_sem, pkv, zpk, z0, z1, z2, z3, z4, z5, z6]) rfl (HP.out _ FL.out)
        · rw [hq] at CS
          have HK2 : Hid ((rl (L.take (k + 1))).all (fb dec) = true) := (by
            show _ = _
            rw [RT.out, List.all_append, KK.out]
            simp [hq])
          clear hz hq KK
          generalize nn dec u = p at *
          generalize ws dec (L.take k) = Wk at *
          generalize ths (L.take k) = Tk at *
          go_wp2_with fail
          go_quiet (fail)
          have q2 : (wr.drewN nq).cell? ⟨bb, o + k, none⟩ = some (.float .f64 u) := q1
          have M2 : Hid (M1 w (wr.drewN nq) (.slice ta k tc) (.slice la wk lc) k wk Tk Wk) := M.out.drewN nq
          clear M q1
          generalize wr.drewN nq = w3 at *
          go_wp2_with fail
          refine (CS.out _).mono ?_
          rintro e w' ⟨rfl, m, hw⟩; subst w'
          have M3 : Hid (M1 w (w3.drewN m) (.slice ta k tc) (.slice la wk lc) k wk Tk Wk) := M2.out.drewN m
          clear M2 q2
          generalize w3.drewN m = w2 at *
          have s2 := M3.out.lt
          go_wp2_with (at_builtin; refine wpList_append_own_at _ rfl _ _ 23 rfl (w.heap.size + 1) 5 b0 (.int .u8 0) 1 1 Try.underlying23 bi bz0 bz1 bz2 rfl (by decide) _ _ _ rfl (M3.out.ot.alloc _) ⟨w2.heap.size, 0, none⟩ 1 1 [.int .u8 1] rfl rfl (cell_one_new w2 _ _) ?c2 ?c3 ?c4 ?c5 ?_)
          case c2 => intro u hu; simp at hu; subst hu; rfl
          case c3 => unfold maxLen; omega
          case c4 => omega
          case c5 => simp; omega
          intro tv6 w6 hown hgrow hnil hat
          have M6 : Hid (M1 w w6 tv6 (.slice la wk lc) (k + 1) wk (Tk ++ [1]) Wk) := M3.out.pushT hown hgrow
          clear hown hgrow hnil hat M3 s2
          obtain ⟨ta6, tc6, e6⟩ : ∃ ta tc, tv6 = .slice ta (k + 1) tc := row_form M6.out.ot
          subst e6
          have s6 := M6.out.lt
          go_wp2_with (at_builtin; refine wpList_append_own_at _ rfl _ _ 24 rfl (w.heap.size + 1) 2 i0 (.int .i64 0) 1 8 Try.underlying24 hi hz0 hz1 hz2 rfl (by decide) _ _ _ rfl (M6.out.ol.alloc _) ⟨w6.heap.size, 0, none⟩ 1 1 [.int .i64 p] rfl rfl (cell_one_new w6 _ _) ?c2 ?c3 ?c4 ?c5 ?_)
          case c2 => intro u hu; simp at hu; subst hu; rfl
          case c3 => unfold maxLen; omega
          case c4 => omega
          case c5 => simp; omega
          intro lv7 w7 hown hgrow hnil hat
          have M7 : Hid (M1 w w7 (.slice ta6 (k + 1) tc6) lv7 (k + 1) (wk + 1) (Tk ++ [1]) (Wk ++ [p])) := M6.out.pushL hown hgrow
          clear hown hgrow hnil hat M6 s6
          go_wp2_with fail
          go_roundw
          case rel => exact ⟨k + 1, by omega, by go_num, (by show M1 _ _ _ _ _ _ _ _; rw [WS.out, TS.out, T1.out, List.length_append, ← WKL.out]; exact M7.out), HK2⟩
          case measure => simp [intOf]; omega
      · rw [hz] at n1
        have WS : Hid (ws dec (L.take (k + 1)) = ws dec (L.take k)) := (by show _ = _; rw [TK.out]; exact ws_nan _ _ _ hz)
        have T1 : Hid (th1 u = 0) := (by show _ = _; unfold th1; rw [hz]; rfl)
        have RT : Hid (rl (L.take (k + 1)) = rl (L.take k)) := (by show _ = _; rw [TK.out]; exact rl_nan _ _ hz)
        clear hz
        generalize ws dec (L.take k) = Wk at *
        generalize ths (L.take k) = Tk at *
        go_wp2_with fail
        go_quiet (fail)
        have M3 : Hid (M1 w (wr.drewN nq) (.slice ta k tc) (.slice la wk lc) k wk Tk Wk) := M.out.drewN nq
        clear M q1
        generalize wr.drewN nq = w2 at *
        have s2 := M3.out.lt
        go_wp2_with (at_builtin; refine wpList_append_own_at _ rfl _ _ 23 rfl (w.heap.size + 1) 5 b0 (.int .u8 0) 1 1 Try.underlying23 bi bz0 bz1 bz2 rfl (by decide) _ _ _ rfl (M3.out.ot.alloc _) ⟨w2.heap.size, 0, none⟩ 1 1 [.int .u8 0] rfl rfl (cell_one_new w2 _ _) ?c2 ?c3 ?c4 ?c5 ?_)
        case c2 => intro u hu; simp at hu; subst hu; rfl
        case c3 => unfold maxLen; omega
        case c4 => omega
        case c5 => simp; omega
        intro tv6 w6 hown hgrow hnil hat
        have M6 : Hid (M1 w w6 tv6 (.slice la wk lc) (k + 1) wk (Tk ++ [0]) Wk) := M3.out.pushT hown hgrow
        clear hown hgrow hnil hat M3 s2
        go_wp2_with fail
        go_roundw
        case rel => exact ⟨k + 1, by omega, by go_num, (by show M1 _ _ _ _ _ _ _ _; rw [WS.out, TS.out, T1.out, ← WKL.out]; exact M6.out), (by show _ = _; rw [RT.out]; exact KK.out)⟩
        case measure => simp [intOf]; omega
    · have hkn : k = n := by omega
      subst hkn
      have ET : L.take k = L := List.take_of_length_le (by rw [← HN.out]; exact Nat.le_refl _)
      have M2 := M.out
      have K2 := KK.out
      rw [ET] at M2 K2
      have HAF : Hid (allf dec L = true) := (by show _ = _; rw [fb_all]; exact K2)
      have HFIT : Hid ((ws dec L).all fit = true) := (by show _ = _; have := HAF.out; unfold allf at this; simp only [Bool.and_eq_true] at this; exact this.2)
      clear M KK K2 ET M0 HW
      obtain ⟨ta, tc, et⟩ : ∃ ta tc, u8 = .slice ta k tc := row_form M2.ot
      subst et
      obtain ⟨wk, hwk⟩ : ∃ wk, wk = (ws dec L).length := ⟨_, rfl⟩
      have HWK : Hid (wk = (ws dec L).length) := hwk
      have HWR : Hid (wk = (rl L).length) := hwk.trans (ws_len dec L)
      have wl : wk ≤ 4096 := by rw [hwk, ws_len]; have := rl_le L; have := HN.out; omega
      have MM : Hid (M1 w wr (.slice ta k tc) u9 k wk (ths L) (ws dec L)) := (by show M1 _ _ _ _ _ _ _ _; rw [hwk]; exact M2)
      have RD := Lists.reads_row M2.ol
      obtain ⟨lx, lc, lb, lo, el, lx1, lx2, lx3⟩ := Reads.opened RD
      rw [← hwk] at el lx1 lx2
      subst el
      have LX : Hid (0 < wk → lx = some ⟨lb, lo, none⟩) := fun h => (lx1 h).1
      have LB : Hid (0 < wk → lb < wr.heap.size) := fun h => (lx1 h).2
      have LC : Hid (∀ i, i < wk → wr.cell? ⟨lb, lo + i, none⟩ = some (.int .i64 ((ws dec L).getD i 0))) := lx2
      clear RD lx1 lx2 lx3 M2 hwk
      have HFA : Hid (∀ x ∈ ws dec L, -1099511627776 ≤ x ∧ x ≤ 1099511627776) := all_fit HFIT.out
      obtain ⟨W, hW⟩ : ∃ W, W = ws dec L := ⟨_, rfl⟩
      have HWW : Hid (W = ws dec L) := hW
      rw [← hW] at HWK MM LC HFA
      clear hW HFIT
      obtain ⟨P, hP⟩ : ∃ P, P = wr.heap.size := ⟨_, rfl⟩
      have HPE : Hid (P = wr.heap.size) := hP
      obtain ⟨wp, hwp⟩ : ∃ wp, wp = wr.alloc (.cells #[.int .i64 (k : Int), .int .i64 dec, .int .i64 0, .int .i64 0, .int .i64 b, .slice none 0 0, .slice none 0 0] 26) := ⟨_, rfl⟩
      have HWP : Hid (wp = wr.alloc (.cells #[.int .i64 (k : Int), .int .i64 dec, .int .i64 0, .int .i64 0, .int .i64 b, .slice none 0 0, .slice none 0 0] 26)) := hwp
      have Q0 : Hid (QB wr wp P k dec 0 0 b (.slice none 0 0) (.slice none 0 0) 0 []) := (by
        refine ⟨hP, ?_, ?_, ?_, nil_row _ _ _⟩
        · rw [hwp]; exact (Below.refl _ _).alloc (by omega) _
        · rw [hwp, hP]; unfold Box7; simp [go_sem]
        · intro j; rw [hwp, hP]; simp [go_sem])
      clear hwp
      go_upto_region 16 with fail
      rw [← HWP.out, ← hP]
      clear HWP hP
      obtain ⟨x0, x1, x2, x3, x4, x5, x6⟩ := Q0.out.bx
      have f5 := Q0.out.fz 5
      obtain ⟨wq, hwq⟩ : ∃ wq, wq = wr := ⟨_, rfl⟩
      have hcase : (wk < k ∧ ∃ tta ttn ttc thl, Value.slice tta ttn ttc = Value.slice ta k tc ∧ thl = ths L) ∨ (¬ wk < k ∧ ∃ tta ttn ttc thl, Value.slice tta ttn ttc = Value.slice none 0 0 ∧ thl = ([] : List Int)) := by
        by_cases c : wk < k
        · exact .inl ⟨c, _, _, _, _, rfl, rfl⟩
        · exact .inr ⟨c, _, _, _, _, rfl, rfl⟩
      rcases hcase with ⟨hc, tta, ttn, ttc, thl, hTT, hthl⟩ | ⟨hc, tta, ttn, ttc, thl, hTT, hthl⟩
      case' inl =>
        have hc3 : (wk : Int) < (k : Int) := by omega
        have Q1 : Hid (QB wr (wp.setCell ⟨P, 5, none⟩ (.slice ta k tc)) P k dec 0 0 b (.slice tta ttn ttc) (.slice none 0 0) 0 []) := (by show QB _ _ _ _ _ _ _ _ _ _ _ _; rw [hTT]; exact Q0.out.set5 _)
        have HTR : Hid (∀ wz, Below wr.heap.size wr wz → wz.ownsRow (w.heap.size + 1) 5 1 (.slice tta ttn ttc) thl.length (Bytes.bys thl)) := fun wz h => (by rw [hTT, hthl, ths_len, ← HN.out]; exact row_later MM.out.ot h (Nat.le_refl _))
        have HTH : Hid (thl = if (rl L).length < L.length then ths L else []) := (by show _ = _; rw [hthl, if_pos (by have := HWR.out; have := HN.out; omega)])
        have HTT : Hid (Value.slice tta ttn ttc = Value.slice ta k tc) := hTT
        clear hthl Q0 hTT
        go_upto_region 18 with fail
        generalize World.setCell wp _ _ = wv at Q1 ⊢
        clear x0 x1 x2 x3 x4 x5 x6 f5 HTT hc hc3
      case' inr =>
        have hc3 : (k : Int) ≤ (wk : Int) := by omega
        have Q1 : Hid (QB wr wp P k dec 0 0 b (.slice tta ttn ttc) (.slice none 0 0) 0 []) := (by show QB _ _ _ _ _ _ _ _ _ _ _ _; rw [hTT]; exact Q0.out)
        have HTR : Hid (∀ wz, Below wr.heap.size wr wz → wz.ownsRow (w.heap.size + 1) 5 1 (.slice tta ttn ttc) thl.length (Bytes.bys thl)) := fun wz h => (by rw [hTT, hthl]; exact nil_row _ _ _)
        have HTH : Hid (thl = if (rl L).length < L.length then ths L else []) := (by show _ = _; rw [hthl, if_neg (by have := HWR.out; have := HN.out; omega)])
        have HTT : Hid (Value.slice tta ttn ttc = Value.slice none 0 0) := hTT
        clear hthl Q0 hTT
        go_upto_region 18 with fail
        generalize wp = wv at Q1 ⊢
        clear x0 x1 x2 x3 x4 x5 x6 f5 HTT hc hc3
      all_goals (
        obtain ⟨wq, hwq⟩ : ∃ wq, wq = wr := ⟨_, rfl⟩
        have HQE : Hid (wq = wr) := hwq
        rw [← hwq] at MM LB LC HPE Q1 HTR
        clear hwq
        go_wp2_with fail
        go_loopw [14, 15] (fun mv iv wr => ∃ (j : Nat) (r m : Int), j ≤ wk ∧ iv = .int .i64 j ∧ mv = .int .i64 m ∧ Hid (QB wq wr P k dec r 0 b (.slice tta ttn ttc) (.slice none 0 0) 0 []) ∧ Hid ((j = 0 ∧ r = 0 ∧ m = 0) ∨ (0 < j ∧ IsMin r (W.take j) ∧ IsMax m (W.take j)))) (fun _ iv _ => wk - (intOf iv).toNat)
        case atStart => exact ⟨0, 0, 0, Nat.zero_le _, rfl, rfl, Q1, .inl ⟨rfl, rfl, rfl⟩⟩
        case round =>
          obtain ⟨j, r, m, hj, rfl, rfl, Q, MI⟩ := hrel
          by_cases hlt : j < wk
          · have hx := LX.out (by omega)
            subst hx
            have hlb := LB.out (by omega)
            have e0 := HPE.out
            have qz := (Q.out.bl.cell (p := ⟨lb, lo + j, none⟩) (by show lb < P; omega)).trans (LC.out j hlt)
            have j0 : (0 : Int) ≤ (j : Int) := by omega
            have j1 : (j : Int) < (wk : Int) := by omega
            have TK : Hid (W.take (j + 1) = W.take j ++ [W.getD j 0]) := take_one W j (by rw [← HWK.out]; exact hlt)
            generalize W.getD j 0 = u at *
            obtain ⟨x0, x1, x2, x3, x4, x5, x6⟩ := Q.out.bx
            have f2 := Q.out.fz 2
            have lne : ¬ lb = P := by omega
            clear e0
            by_cases c0 : j = 0
            · skip
              have hj0 : ((j : Int) == 0) = true := by simp; omega
              have C0 : Hid (j = 0) := c0
              clear c0
              have M1' : Hid (IsMin u (W.take (j + 1)) ∧ IsMax u (W.take (j + 1))) := (by
                have e := TK.out
                rw [C0.out, show W.take 0 = [] from rfl] at e
                show _ ∧ _
                rw [C0.out, e]
                exact ⟨min_one u, max_one u⟩)
              have Q2 : Hid (∀ q, QB wq ((wr.drewN q).setCell ⟨P, 2, none⟩ (.int .i64 u)) P k dec u 0 b (.slice tta ttn ttc) (.slice none 0 0) 0 []) := fun q => (Q.out.drewN q).set2 u
              clear Q
              go_wp2_with fail
              go_quiet (fail)
              have qz2 : ((wr.drewN nq).setCell ⟨P, 2, none⟩ (.int .i64 u)).cell? ⟨lb, lo + j, none⟩ = some (.int .i64 u) := (cell_far _ _ _ _ lne).trans qz
              have Q3 : Hid (QB wq ((wr.drewN nq).setCell ⟨P, 2, none⟩ (.int .i64 u)) P k dec u 0 b (.slice tta ttn ttc) (.slice none 0 0) 0 []) := Q2.out nq
              go_upto_region 24 with fail
              clear Q2 qz x0 x1 x2 x3 x4 x5 x6 f2
              generalize World.setCell (wr.drewN nq) _ _ = w5 at Q3 qz2 ⊢
              go_wp2_with fail
              go_roundw
              case rel => exact ⟨j + 1, u, u, by omega, by go_num, rfl, Q3, .inr ⟨by omega, M1'.out⟩⟩
              case measure => simp [intOf]; omega
            · have hmm : IsMin r (W.take j) ∧ IsMax m (W.take j) := by
                rcases MI.out with h | h
                · exact absurd h.1 c0
                · exact h.2
              obtain ⟨hmin, hmax⟩ := hmm
              have hj0 : ((j : Int) == 0) = false := by simpa using c0
              clear c0 MI
              by_cases ca : u < r
              · by_cases cb : m < u
                · skip
                  have hr : decide (u < r) = true := decide_eq_true ca
                  have hm : decide (m < u) = true := decide_eq_true cb
                  have M1' : Hid (IsMin u (W.take (j + 1)) ∧ IsMax u (W.take (j + 1))) := (by
                    show _ ∧ _
                    have h1 := hmin.more (z := u)
                    have h2 := hmax.more (z := u)
                    rw [if_pos ca] at h1
                    rw [if_pos cb] at h2
                    rw [TK.out]
                    exact ⟨h1, h2⟩)
                  clear hmin hmax
                  have Q2 : Hid (∀ q, QB wq ((wr.drewN q).setCell ⟨P, 2, none⟩ (.int .i64 u)) P k dec u 0 b (.slice tta ttn ttc) (.slice none 0 0) 0 []) := fun q => (Q.out.drewN q).set2 u
                  clear Q
                  go_wp2_with fail
                  go_quiet (fail)
                  have qz2 : ((wr.drewN nq).setCell ⟨P, 2, none⟩ (.int .i64 u)).cell? ⟨lb, lo + j, none⟩ = some (.int .i64 u) := (cell_far _ _ _ _ lne).trans qz
                  have Q3 : Hid (QB wq ((wr.drewN nq).setCell ⟨P, 2, none⟩ (.int .i64 u)) P k dec u 0 b (.slice tta ttn ttc) (.slice none 0 0) 0 []) := Q2.out nq
                  go_upto_region 24 with fail
                  clear Q2 qz x0 x1 x2 x3 x4 x5 x6 f2
                  generalize World.setCell (wr.drewN nq) _ _ = w5 at Q3 qz2 ⊢
                  go_wp2_with fail
                  go_roundw
                  case rel => exact ⟨j + 1, u, u, by omega, by go_num, rfl, Q3, .inr ⟨by omega, M1'.out⟩⟩
                  case measure => simp [intOf]; omega
                · skip
                  have hr : decide (u < r) = true := decide_eq_true ca
                  have hm : decide (m < u) = false := decide_eq_false cb
                  have M1' : Hid (IsMin u (W.take (j + 1)) ∧ IsMax m (W.take (j + 1))) := (by
                    show _ ∧ _
                    have h1 := hmin.more (z := u)
                    have h2 := hmax.more (z := u)
                    rw [if_pos ca] at h1
                    rw [if_neg cb] at h2
                    rw [TK.out]
                    exact ⟨h1, h2⟩)
                  clear hmin hmax
                  have Q2 : Hid (∀ q, QB wq ((wr.drewN q).setCell ⟨P, 2, none⟩ (.int .i64 u)) P k dec u 0 b (.slice tta ttn ttc) (.slice none 0 0) 0 []) := fun q => (Q.out.drewN q).set2 u
                  clear Q
                  go_wp2_with fail
                  go_quiet (fail)
                  have qz2 : ((wr.drewN nq).setCell ⟨P, 2, none⟩ (.int .i64 u)).cell? ⟨lb, lo + j, none⟩ = some (.int .i64 u) := (cell_far _ _ _ _ lne).trans qz
                  have Q3 : Hid (QB wq ((wr.drewN nq).setCell ⟨P, 2, none⟩ (.int .i64 u)) P k dec u 0 b (.slice tta ttn ttc) (.slice none 0 0) 0 []) := Q2.out nq
                  go_upto_region 24 with fail
                  clear Q2 qz x0 x1 x2 x3 x4 x5 x6 f2
                  generalize World.setCell (wr.drewN nq) _ _ = w5 at Q3 qz2 ⊢
                  go_wp2_with fail
                  go_roundw
                  case rel => exact ⟨j + 1, u, m, by omega, by go_num, rfl, Q3, .inr ⟨by omega, M1'.out⟩⟩
                  case measure => simp [intOf]; omega
              · by_cases cb : m < u
                · skip
                  have hr : decide (u < r) = false := decide_eq_false ca
                  have hm : decide (m < u) = true := decide_eq_true cb
                  have M1' : Hid (IsMin r (W.take (j + 1)) ∧ IsMax u (W.take (j + 1))) := (by
                    show _ ∧ _
                    have h1 := hmin.more (z := u)
                    have h2 := hmax.more (z := u)
                    rw [if_neg ca] at h1
                    rw [if_pos cb] at h2
                    rw [TK.out]
                    exact ⟨h1, h2⟩)
                  clear hmin hmax
                  have Q2 : Hid (∀ q, QB wq (wr.drewN q) P k dec r 0 b (.slice tta ttn ttc) (.slice none 0 0) 0 []) := fun q => Q.out.drewN q
                  clear Q
                  go_wp2_with fail
                  go_quiet (fail)
                  have qz2 : (wr.drewN nq).cell? ⟨lb, lo + j, none⟩ = some (.int .i64 u) := qz
                  have Q3 : Hid (QB wq (wr.drewN nq) P k dec r 0 b (.slice tta ttn ttc) (.slice none 0 0) 0 []) := Q2.out nq
                  clear Q2 qz x0 x1 x2 x3 x4 x5 x6 f2
                  generalize wr.drewN nq = w5 at Q3 qz2 ⊢
                  go_upto_region 24 with fail
                  go_wp2_with fail
                  go_roundw
                  case rel => exact ⟨j + 1, r, u, by omega, by go_num, rfl, Q3, .inr ⟨by omega, M1'.out⟩⟩
                  case measure => simp [intOf]; omega
                · skip
                  have hr : decide (u < r) = false := decide_eq_false ca
                  have hm : decide (m < u) = false := decide_eq_false cb
                  have M1' : Hid (IsMin r (W.take (j + 1)) ∧ IsMax m (W.take (j + 1))) := (by
                    show _ ∧ _
                    have h1 := hmin.more (z := u)
                    have h2 := hmax.more (z := u)
                    rw [if_neg ca] at h1
                    rw [if_neg cb] at h2
                    rw [TK.out]
                    exact ⟨h1, h2⟩)
                  clear hmin hmax
                  have Q2 : Hid (∀ q, QB wq (wr.drewN q) P k dec r 0 b (.slice tta ttn ttc) (.slice none 0 0) 0 []) := fun q => Q.out.drewN q
                  clear Q
                  go_wp2_with fail
                  go_quiet (fail)
                  have qz2 : (wr.drewN nq).cell? ⟨lb, lo + j, none⟩ = some (.int .i64 u) := qz
                  have Q3 : Hid (QB wq (wr.drewN nq) P k dec r 0 b (.slice tta ttn ttc) (.slice none 0 0) 0 []) := Q2.out nq
                  clear Q2 qz x0 x1 x2 x3 x4 x5 x6 f2
                  generalize wr.drewN nq = w5 at Q3 qz2 ⊢
                  go_upto_region 24 with fail
                  go_wp2_with fail
                  go_roundw
                  case rel => exact ⟨j + 1, r, m, by omega, by go_num, rfl, Q3, .inr ⟨by omega, M1'.out⟩⟩
                  case measure => simp [intOf]; omega
          · have hjk : j = wk := by omega
            subst hjk
            have ETW : W.take j = W := List.take_of_length_le (by rw [← HWK.out]; exact Nat.le_refl _)
            have MI2 := MI.out
            rw [ETW] at MI2
            have HMI : Hid ((j = 0 ∧ r = 0 ∧ m = 0) ∨ (0 < j ∧ IsMin r W ∧ IsMax m W)) := MI2
            clear MI MI2 ETW
            obtain ⟨bn, rfl⟩ : ∃ bn : Nat, b = (bn : Int) := ⟨b.toNat, by omega⟩
            obtain ⟨p1, p2⟩ := pow_b bn b1 b2
            rw [Int.toNat_natCast] at p1 p2
            obtain ⟨hh, hhh⟩ : ∃ hh, hh = m - r := ⟨_, rfl⟩
            have HH : Hid (hh = m - r) := hhh
            have hhb : 0 ≤ hh ∧ hh ≤ 2199023255552 ∧ -9223372036854775808 ≤ m - r ∧ m - r ≤ 9223372036854775807 := by
              rcases HMI.out with h | h
              · omega
              · have := HFA.out _ h.2.1.1
                have := HFA.out _ h.2.2.1
                have := h.2.1.2 _ h.2.2.1
                omega
            obtain ⟨hh0, hh1, hm0, hm1⟩ := hhb
            have ew : IntKind.i64.wrap (m - r) = hh := (IntWalk.i64_in _ (by omega)).trans hhh.symm
            have ep : IntKind.i64.wrap (2 ^ bn) = (2 : Int) ^ bn := IntWalk.i64_in _ (by omega)
            have ep' : wrap64 (2 ^ bn) = (2 : Int) ^ bn := IntWalk.wrap64_in _ (by omega)
            clear hhh hm0 hm1 hlt hj
            go_wp2_with fail
            go_loopw [] (fun wx => ∃ e : Nat, Hid (QB wq wx P k dec r e bn (.slice tta ttn ttc) (.slice none 0 0) 0 []) ∧ Hid (∀ d, d < e → 0 < j ∧ (2 : Int) ^ bn ≤ cod hh d)) (fun wx => 43 - expOf wx P)
            case atStart => exact ⟨0, Q, fun d hd => absurd hd (by omega)⟩
            case round =>
              obtain ⟨e, PE, HE⟩ := hrel
              have eo := expOf_eq PE.out.bx.2.2.2.1
              by_cases hj0 : j = 0
              · have he0 : e = 0 := (by
                  rcases Nat.eq_zero_or_pos e with h | h
                  · exact h
                  · have := (HE.out 0 h).1; omega)
                have hj1 : decide (0 < (j : Int)) = false := decide_eq_false (by omega)
                have hj2 : (j : Int) ≤ 0 := by omega
                have HEX : Hid ((j = 0 ∧ e = 0) ∨ (0 < j ∧ IsEx hh bn e)) := .inl ⟨hj0, he0⟩
                have P3 : Hid (QB wq wr P k dec r e bn (.slice tta ttn ttc) (.slice none 0 0) 0 []) := PE.out
                have HJ0 : Hid (j = 0) := hj0
                clear PE HE eo he0 hj0 ew ep ep'
                obtain ⟨x0, x1, x2, x3, x4, x5, x6⟩ := P3.out.bx
                go_upto_region 28 with fail
                clear x0 x1 x2 x3 x4 x5 x6 hj1
                go_wp2_with fail
                go_loopw [16] (fun iv wx => ∃ (i : Nat) (v : Value), i ≤ j ∧ iv = .int .i64 i ∧ Hid (QB wq wx P k dec r e bn (.slice tta ttn ttc) v i ((W.take i).map fun n => cod (n - r) e))) (fun iv _ => j - (intOf iv).toNat)
                case atStart => exact ⟨0, _, Nat.zero_le _, rfl, P3⟩
                case round =>
                  obtain ⟨i, v, hi', rfl, QQ⟩ := hrel
                  by_cases hlt : i < j
                  · exact absurd hlt (by have := HJ0.out; omega)
                  · clear hj2 HJ0
                    have hij : i = j := by omega
                    subst hij
                    obtain ⟨va, vc, ev⟩ := row_form QQ.out.row
                    subst ev
                    have ET : W.take i = W := List.take_of_length_le (by rw [← HWK.out]; exact Nat.le_refl _)
                    have U2 := QQ.out
                    rw [ET] at U2
                    have HQL : Hid (i = (W.map (fun n => cod (n - r) e)).length) := (by rw [List.length_map]; exact HWK.out)
                    have HPK : Hid (IsPk W bn r e (W.map (fun n => cod (n - r) e))) := (by
                      show IsPk _ _ _ _ _
                      rcases HEX.out with ⟨h1, h2⟩ | ⟨h1, h2⟩
                      · have hWn : W = [] := List.eq_nil_of_length_eq_zero (by rw [← HWK.out]; exact h1)
                        have hr0 : r = 0 := (by rcases HMI.out with h | h; · exact h.2.1
                                                · exact absurd h1 (by omega))
                        exact .inl ⟨hWn, hr0, h2, by rw [hWn]; rfl⟩
                      · rcases HMI.out with h | h
                        · exact absurd h.1 (by omega)
                        · exact .inr ⟨m, h.2.1, h.2.2, by rw [HH.out] at h2; exact h2, rfl⟩)
                    generalize W.map (fun n => cod (n - r) e) = Q at *
                    have e0 := HPE.out
                    have ltA := MM.out.lt
                    have bw : Below wq.heap.size wq wr := by rw [← e0]; exact U2.bl
                    have Z2 := MM.out.bx.on bw ltA
                    have F2 : ∀ j, wr.frozen? ⟨w.heap.size, j, none⟩ = false := fun j => (bw.frozen (p := ⟨w.heap.size, j, none⟩) ltA).trans (MM.out.fz j)
                    have BB : Below w.heap.size w wr := MM.out.bl.trans (bw.mono (by omega))
                    have FX : Hid (Box7 (((((((wr.setCell ⟨w.heap.size, 0, none⟩ (.int .i64 (k : Int))).setCell ⟨w.heap.size, 1, none⟩ (.int .i64 dec)).setCell ⟨w.heap.size, 2, none⟩ (.int .i64 r)).setCell ⟨w.heap.size, 3, none⟩ (.int .i64 (e : Int))).setCell ⟨w.heap.size, 4, none⟩ (.int .i64 (bn : Int))).setCell ⟨w.heap.size, 5, none⟩ (.slice tta ttn ttc)).setCell ⟨w.heap.size, 6, none⟩ (.slice va i vc)) w.heap.size (.int .i64 (k : Int)) (.int .i64 dec) (.int .i64 r) (.int .i64 (e : Int)) (.int .i64 (bn : Int)) (.slice tta ttn ttc) (.slice va i vc)) := put7_box _ _ _ _ _ _ _ Z2
                    have FO : Hid ((((((((wr.setCell ⟨w.heap.size, 0, none⟩ (.int .i64 (k : Int))).setCell ⟨w.heap.size, 1, none⟩ (.int .i64 dec)).setCell ⟨w.heap.size, 2, none⟩ (.int .i64 r)).setCell ⟨w.heap.size, 3, none⟩ (.int .i64 (e : Int))).setCell ⟨w.heap.size, 4, none⟩ (.int .i64 (bn : Int))).setCell ⟨w.heap.size, 5, none⟩ (.slice tta ttn ttc)).setCell ⟨w.heap.size, 6, none⟩ (.slice va i vc)).ownsRow w.heap.size 2 1 (.slice va i vc) i (ints Q)) := down_row (put7_row _ _ _ _ _ _ _ U2.row (by omega)) (by omega)
                    have FT : Hid ((((((((wr.setCell ⟨w.heap.size, 0, none⟩ (.int .i64 (k : Int))).setCell ⟨w.heap.size, 1, none⟩ (.int .i64 dec)).setCell ⟨w.heap.size, 2, none⟩ (.int .i64 r)).setCell ⟨w.heap.size, 3, none⟩ (.int .i64 (e : Int))).setCell ⟨w.heap.size, 4, none⟩ (.int .i64 (bn : Int))).setCell ⟨w.heap.size, 5, none⟩ (.slice tta ttn ttc)).setCell ⟨w.heap.size, 6, none⟩ (.slice va i vc)).ownsRow w.heap.size 5 1 (.slice tta ttn ttc) thl.length (Bytes.bys thl)) := down_row (put7_row _ _ _ _ _ _ _ (HTR.out _ bw) (by omega)) (by omega)
                    have FL : Hid (Below w.heap.size w (((((((wr.setCell ⟨w.heap.size, 0, none⟩ (.int .i64 (k : Int))).setCell ⟨w.heap.size, 1, none⟩ (.int .i64 dec)).setCell ⟨w.heap.size, 2, none⟩ (.int .i64 r)).setCell ⟨w.heap.size, 3, none⟩ (.int .i64 (e : Int))).setCell ⟨w.heap.size, 4, none⟩ (.int .i64 (bn : Int))).setCell ⟨w.heap.size, 5, none⟩ (.slice tta ttn ttc)).setCell ⟨w.heap.size, 6, none⟩ (.slice va i vc))) := put7_below _ _ _ _ _ _ _ BB (Nat.le_refl _)
                    have HR2 : Hid (Res L bn dec ⟨k, dec, r, (e : Nat), bn, thl, Q⟩ 0) := .inr (.inr ⟨HO.out, HAF.out, rfl, r, e, Q, by rw [← HWW.out]; exact HPK.out, by rw [← HTH.out, ← HN.out]⟩)
                    obtain ⟨x0, x1, x2, x3, x4, x5, x6⟩ := U2.bx
                    obtain ⟨y0, y1, y2, y3, y4, y5, y6⟩ := Z2
                    clear BB bw U2 QQ ET e0 ltA
                    go_wp2_with fail
                    generalize World.setCell _ _ _ = wz at FX FO FT FL ⊢
                    obtain ⟨z0, z1, z2, z3, z4, z5, z6⟩ := FX.out
                    refine bodyPost_ret (v := .tuple #[pkv ⟨k, dec, r, e, bn, thl, Q⟩ (.slice tta ttn ttc) (.slice va i vc), .int .i64 0]) (by simp [results, Try.results5, go_sem, pkv, z0, z1, z2, z3, z4, z5, z6]) rfl ⟨_, _, _, _, HR2.out, rfl, FT.out, by have := FO.out; rw [HQL.out] at this; rw [← HQL.out] at this ⊢; exact this, FL.out⟩
              · have hj1 : decide (0 < (j : Int)) = true := decide_eq_true (by omega)
                have hj2 : (0 : Int) < (j : Int) := by omega
                have he : e ≤ 41 := ex_le hh bn e hh0 hh1 b1 b2 (fun d hd => (HE.out d hd).2)
                obtain ⟨x0, x1, x2, x3, x4, x5, x6⟩ := PE.out.bx
                have f3 := PE.out.fz 3
                have CI : Hid (∀ w, Calls Try.prog 19 #[.int .i64 hh, .int .i64 (e : Int)] w fun x w' => x = .returned (.int .i64 (cod hh e)) ∧ w' = w) := fun w => scode hh e w hh0 (by omega) (by omega)
                have e1' : IntKind.i64.wrap ((e : Int) + 1) = (e : Int) + 1 := IntWalk.i64_in _ (by omega)
                by_cases hc : (2 : Int) ^ bn ≤ cod hh e
                · have hd : decide ((2 : Int) ^ bn ≤ cod hh e) = true := decide_eq_true hc
                  have PN : Hid (QB wq (wr.setCell ⟨P, 3, none⟩ (.int .i64 ((e : Int) + 1))) P k dec r ((e : Int) + 1) bn (.slice tta ttn ttc) (.slice none 0 0) 0 []) := PE.out.set3 _
                  have HEN : Hid (expOf (wr.setCell ⟨P, 3, none⟩ (.int .i64 ((e : Int) + 1))) P = e + 1) := expOf_eq (e := e + 1) PN.out.bx.2.2.2.1
                  have HE' : Hid (∀ d, d < e + 1 → 0 < j ∧ (2 : Int) ^ bn ≤ cod hh d) := fun d hd => by
                    by_cases c : d = e
                    · subst c; exact ⟨by omega, hc⟩
                    · exact HE.out d (by omega)
                  clear PE HE
                  go_wp2_with fail
                  refine (CI.out _).mono ?_
                  rintro x w' ⟨rfl, hw⟩; subst w'
                  go_wp2_with fail
                  go_roundw
                  case rel => exact ⟨e + 1, PN, HE'⟩
                  case measure => rw [eo]; have := HEN.out; omega
                · have hd : decide ((2 : Int) ^ bn ≤ cod hh e) = false := decide_eq_false hc
                  have HEX : Hid ((j = 0 ∧ e = 0) ∨ (0 < j ∧ IsEx hh bn e)) := .inr ⟨Nat.pos_of_ne_zero hj0, (by rw [Int.toNat_natCast]; exact Int.not_le.1 hc), fun d hd => (by rw [Int.toNat_natCast]; exact (HE.out d hd).2)⟩
                  have P3 : Hid (QB wq wr P k dec r e bn (.slice tta ttn ttc) (.slice none 0 0) 0 []) := PE.out
                  go_wp2_with fail
                  refine (CI.out _).mono ?_
                  rintro x w' ⟨rfl, hw⟩; subst w'
                  go_upto_region 28 with fail
                  clear x0 x1 x2 x3 x4 x5 x6 PE HE f3 CI hc hd eo hj1 hj2 e1' ew ep ep'
                  go_wp2_with fail
                  go_loopw [16] (fun iv wx => ∃ (i : Nat) (v : Value), i ≤ j ∧ iv = .int .i64 i ∧ Hid (QB wq wx P k dec r e bn (.slice tta ttn ttc) v i ((W.take i).map fun n => cod (n - r) e))) (fun iv _ => j - (intOf iv).toNat)
                  case atStart => exact ⟨0, _, Nat.zero_le _, rfl, P3⟩
                  case round =>
                    obtain ⟨i, v, hi', rfl, QQ⟩ := hrel
                    by_cases hlt : i < j
                    · skip
                      have j0 : (0 : Int) ≤ (i : Int) := by omega
                      have j1 : (i : Int) < (j : Int) := by omega
                      have hx := LX.out (by omega)
                      subst hx
                      have hlb := LB.out (by omega)
                      have e0 := HPE.out
                      have qw := (QQ.out.bl.cell (p := ⟨lb, lo + i, none⟩) (by show lb < P; omega)).trans (LC.out i hlt)
                      have lne : ¬ lb = P := by omega
                      have hlP : lb < P + 1 := by omega
                      have TK : Hid (W.take (i + 1) = W.take i ++ [W.getD i 0]) := take_one W i (by rw [← HWK.out]; exact hlt)
                      have hmm : IsMin r W ∧ IsMax m W := by
                        rcases HMI.out with h | h
                        · exact absurd h.1 (by omega)
                        · exact h.2
                      have hmem := mem_at W i (by rw [← HWK.out]; exact hlt)
                      have a1 := HFA.out _ hmem
                      have a2 := hmm.1.2 _ hmem
                      have a3 := hmm.2.2 _ hmem
                      have a4 := HFA.out _ hmm.1.1
                      have HE2 := HH.out
                      clear hmem hmm e0
                      generalize W.getD i 0 = u at *
                      obtain ⟨y, hy⟩ : ∃ y, y = u - r := ⟨_, rfl⟩
                      have ey : IntKind.i64.wrap (u - r) = y := (IntWalk.i64_in _ (by omega)).trans hy.symm
                      have y0 : 0 ≤ y := by omega
                      have y1 : y ≤ hh := by omega
                      have CI : Hid (∀ w, Calls Try.prog 19 #[.int .i64 y, .int .i64 (e : Int)] w fun x w' => x = .returned (.int .i64 (cod y e)) ∧ w' = w) := fun w => scode y e w y0 (by omega) (by omega)
                      have HSQ : Hid ((W.take (i + 1)).map (fun n => cod (n - r) e) = (W.take i).map (fun n => cod (n - r) e) ++ [cod y e]) := (by show _ = _; rw [TK.out, List.map_append, hy]; rfl)
                      clear hy HE2 TK a1 a2 a3 a4
                      obtain ⟨va, vc, ev⟩ := row_form QQ.out.row
                      subst ev
                      generalize (W.take i).map (fun n => cod (n - r) e) = Q at *
                      have RD : Hid (wr.drew.ownsRow (P + 1) 2 1 (.slice va i vc) i (ints Q)) := QQ.out.row
                      have UD : Hid (QB wq wr.drew P k dec r e bn (.slice tta ttn ttc) (.slice va i vc) i Q) := QQ.out.drewN 1
                      have BX : Hid (Box7 wr.drew P (.int .i64 k) (.int .i64 dec) (.int .i64 r) (.int .i64 e) (.int .i64 bn) (.slice tta ttn ttc) (.slice va i vc)) := QQ.out.bx
                      have FX : Hid (∀ j, wr.drew.frozen? ⟨P, j, none⟩ = false) := QQ.out.fz
                      have szA : P + 1 ≤ wr.heap.size := QQ.out.lt
                      obtain ⟨x0, x1, x2, x3, x4, x5, x6⟩ := QQ.out.bx
                      have hAlt : P < wr.heap.size := szA
                      have hAne : ¬ P = wr.heap.size := Nat.ne_of_lt szA
                      have hll : lb < wr.heap.size := by omega
                      have hlne2 : ¬ lb = wr.heap.size := by omega
                      clear QQ x0 x1 x4 x5
                      go_upto_region 31 with fail
                      refine wp_region_held_drew (S := fun w' => w'.cell? ⟨lb, lo + i, none⟩ = some (.int .i64 u) ∧ w'.cell? ⟨P, 2, none⟩ = some (.int .i64 r) ∧ w'.cell? ⟨P, 3, none⟩ = some (.int .i64 e)) (by kernel_rfl) ⟨qw, x2, x3⟩ (fun hHeld => ?_)
                      refine wpAnyH_take (i := 0) (oi := { dst := some 150, op := Go.Op.fieldAddr 26 (Go.Operand.tmp 13) 6, type := 0, pos := "l08_grids.go:57", after := #[], guard := none }) (v := ?_) rfl (by kernel_rfl) (by kernel_rfl) (by kernel_rfl) (fun _ _ _ h => h) (Or.inl ⟨by rfl, ?_⟩) (by assumption) ?_
                      rotate_left 1
                      · (intro w hSw; (try dsimp only at hSw); go_simp); all_goals (with_reducible rfl)
                      try simp only [Act.put, List.setIfInBounds_toArray, List.set_cons_zero, List.set_cons_succ]
                      refine wpAnyH_take (i := 2) (oi := { dst := some 152, op := Go.Op.move (Go.Operand.tmp 9), type := 24, pos := "l08_grids.go:57", after := #[], guard := none }) (v := ?_) rfl (by kernel_rfl) (by kernel_rfl) (by kernel_rfl) (fun _ _ _ h => h) (Or.inl ⟨by rfl, ?_⟩) (by assumption) ?_
                      rotate_left 1
                      · (intro w hSw; (try dsimp only at hSw); go_simp); all_goals (with_reducible rfl)
                      try simp only [Act.put, List.setIfInBounds_toArray, List.set_cons_zero, List.set_cons_succ]
                      refine wpAnyH_take (i := 3) (oi := { dst := some 153, op := Go.Op.move (Go.Operand.tmp 16), type := 3, pos := "l08_grids.go:57", after := #[], guard := none }) (v := ?_) rfl (by kernel_rfl) (by kernel_rfl) (by kernel_rfl) (fun _ _ _ h => h) (Or.inl ⟨by rfl, ?_⟩) (by assumption) ?_
                      rotate_left 1
                      · (intro w hSw; (try dsimp only at hSw); go_simp); all_goals (with_reducible rfl)
                      try simp only [Act.put, List.setIfInBounds_toArray, List.set_cons_zero, List.set_cons_succ]
                      refine wpAnyH_take (i := 4) (oi := { dst := some 154, op := Go.Op.indexAddr 24 (Go.Operand.tmp 152) (Go.Operand.tmp 153), type := 0, pos := "l08_grids.go:57", after := #[{ on := 2, ground := Go.Ground.data }, { on := 3, ground := Go.Ground.data }], guard := none }) (v := ?_) rfl (by kernel_rfl) (by kernel_rfl) (by kernel_rfl) (fun _ _ _ h => h) (Or.inl ⟨by rfl, ?_⟩) (by assumption) ?_
                      rotate_left 1
                      · (intro w hSw; (try dsimp only at hSw); go_simp); all_goals (with_reducible rfl)
                      try simp only [Act.put, List.setIfInBounds_toArray, List.set_cons_zero, List.set_cons_succ]
                      refine wpAnyH_take (i := 5) (oi := { dst := some 155, op := Go.Op.load 2 (Go.Operand.tmp 154), type := 2, pos := "l08_grids.go:57", after := #[{ on := 4, ground := Go.Ground.data }], guard := none }) (v := ?_) rfl (by kernel_rfl) (by kernel_rfl) (by kernel_rfl) (fun _ _ _ h => h) (Or.inl ⟨by rfl, ?_⟩) (by assumption) ?_
                      rotate_left 1
                      · (intro w hSw; (try dsimp only at hSw); go_simp); all_goals (with_reducible rfl)
                      try simp only [Act.put, List.setIfInBounds_toArray, List.set_cons_zero, List.set_cons_succ]
                      refine wpAnyH_take (i := 6) (oi := { dst := some 156, op := Go.Op.fieldAddr 26 (Go.Operand.tmp 13) 2, type := 0, pos := "l08_grids.go:57", after := #[], guard := none }) (v := ?_) rfl (by kernel_rfl) (by kernel_rfl) (by kernel_rfl) (fun _ _ _ h => h) (Or.inl ⟨by rfl, ?_⟩) (by assumption) ?_
                      rotate_left 1
                      · (intro w hSw; (try dsimp only at hSw); go_simp); all_goals (with_reducible rfl)
                      try simp only [Act.put, List.setIfInBounds_toArray, List.set_cons_zero, List.set_cons_succ]
                      refine wpAnyH_take (i := 7) (oi := { dst := some 157, op := Go.Op.load 2 (Go.Operand.tmp 156), type := 2, pos := "l08_grids.go:57", after := #[{ on := 6, ground := Go.Ground.data }], guard := none }) (v := ?_) rfl (by kernel_rfl) (by kernel_rfl) (by kernel_rfl) (fun _ _ _ h => h) (Or.inl ⟨by rfl, ?_⟩) (by assumption) ?_
                      rotate_left 1
                      · (intro w hSw; (try dsimp only at hSw); go_simp); all_goals (with_reducible rfl)
                      try simp only [Act.put, List.setIfInBounds_toArray, List.set_cons_zero, List.set_cons_succ]
                      refine wpAnyH_take (i := 8) (oi := { dst := some 158, op := Go.Op.binOp Go.BinOp.sub 2 (Go.Operand.tmp 155) (Go.Operand.tmp 157) 2, type := 2, pos := "l08_grids.go:57", after := #[{ on := 5, ground := Go.Ground.data }, { on := 7, ground := Go.Ground.data }], guard := none }) (v := ?_) rfl (by kernel_rfl) (by kernel_rfl) (by kernel_rfl) (fun _ _ _ h => h) (Or.inl ⟨by rfl, ?_⟩) (by assumption) ?_
                      rotate_left 1
                      · (intro w hSw; (try dsimp only at hSw); go_simp); all_goals (with_reducible rfl)
                      try simp only [Act.put, List.setIfInBounds_toArray, List.set_cons_zero, List.set_cons_succ]
                      refine wpAnyH_take (i := 9) (oi := { dst := some 159, op := Go.Op.fieldAddr 26 (Go.Operand.tmp 13) 3, type := 0, pos := "l08_grids.go:57", after := #[], guard := none }) (v := ?_) rfl (by kernel_rfl) (by kernel_rfl) (by kernel_rfl) (fun _ _ _ h => h) (Or.inl ⟨by rfl, ?_⟩) (by assumption) ?_
                      rotate_left 1
                      · (intro w hSw; (try dsimp only at hSw); go_simp); all_goals (with_reducible rfl)
                      try simp only [Act.put, List.setIfInBounds_toArray, List.set_cons_zero, List.set_cons_succ]
                      refine wpAnyH_take (i := 10) (oi := { dst := some 160, op := Go.Op.load 2 (Go.Operand.tmp 159), type := 2, pos := "l08_grids.go:57", after := #[{ on := 9, ground := Go.Ground.data }], guard := none }) (v := ?_) rfl (by kernel_rfl) (by kernel_rfl) (by kernel_rfl) (fun _ _ _ h => h) (Or.inl ⟨by rfl, ?_⟩) (by assumption) ?_
                      rotate_left 1
                      · (intro w hSw; (try dsimp only at hSw); go_simp); all_goals (with_reducible rfl)
                      try simp only [Act.put, List.setIfInBounds_toArray, List.set_cons_zero, List.set_cons_succ]
                      refine wpAnyH_ready (rs := [1, 11]) (by kernel_rfl) (by simp) ?_
                      refine AllReadyH.cons (o := { dst := some 151, op := Go.Op.load 24 (Go.Operand.tmp 150), type := 24, pos := "l08_grids.go:57", after := #[{ on := 0, ground := Go.Ground.data }], guard := none }) rfl (fun K hK => ?_) (AllReadyH.cons (o := { dst := some 161, op := Go.Op.call { callee := Go.Callee.value (Go.Operand.func 19), args := #[Go.Operand.tmp 158, Go.Operand.tmp 160], argTypes := #[2, 2] }, type := 2, pos := "l08_grids.go:57", after := #[{ on := 8, ground := Go.Ground.data }, { on := 10, ground := Go.Ground.data }], guard := none }) rfl (fun K hK => ?_) AllReadyH.nil)
                      · go_simp
                        refine hK.out _ _ (⟨qw, x2, x3⟩) (fun hHeld2 => ?_)
                        clear hK K hHeld
                        have hHeld := hHeld2
                        clear hHeld2
                        try simp only [Act.put, List.setIfInBounds_toArray, List.set_cons_zero, List.set_cons_succ]
                        refine wpAnyH_ready (rs := [11]) (by kernel_rfl) (by simp) ?_
                        refine AllReadyH.cons (o := { dst := some 161, op := Go.Op.call { callee := Go.Callee.value (Go.Operand.func 19), args := #[Go.Operand.tmp 158, Go.Operand.tmp 160], argTypes := #[2, 2] }, type := 2, pos := "l08_grids.go:57", after := #[{ on := 8, ground := Go.Ground.data }, { on := 10, ground := Go.Ground.data }], guard := none }) rfl (fun K hK => ?_) AllReadyH.nil
                        go_simp
                        refine (CI.out _).mono ?_
                        rintro x w' ⟨rfl, hw⟩
                        subst hw
                        go_wp2_with fail
                        refine hK.out _ _ (⟨qw, x2, x3⟩) (fun hHeld2 => ?_)
                        clear hK K hHeld
                        have hHeld := hHeld2
                        clear hHeld2
                        try simp only [Act.put, List.setIfInBounds_toArray, List.set_cons_zero, List.set_cons_succ]
                        refine wpAnyH_ready (rs := [12]) (by kernel_rfl) (by simp) ?_
                        refine AllReadyH.cons (o := { dst := some 162, op := Go.Op.buildSlice 24 1 #[(0, Go.Operand.tmp 161)], type := 24, pos := "l08_grids.go:57", after := #[{ on := 11, ground := Go.Ground.data }], guard := none }) rfl (fun K hK => ?_) AllReadyH.nil
                        go_simp
                        refine hK.out _ _ (⟨cell_al qw, cell_al x2, cell_al x3⟩) (fun hHeld2 => ?_)
                        clear hK K hHeld
                        have hHeld := hHeld2
                        clear hHeld2
                        try simp only [Act.put, List.setIfInBounds_toArray, List.set_cons_zero, List.set_cons_succ]
                        refine wpAnyH_ready (rs := [13]) (by kernel_rfl) (by simp) ?_
                        refine AllReadyH.cons (o := { dst := some 163, op := Go.Op.call { callee := Go.Callee.builtin Go.Builtin.append, args := #[Go.Operand.tmp 151, Go.Operand.tmp 162], argTypes := #[24, 24] }, type := 24, pos := "l08_grids.go:57", after := #[{ on := 1, ground := Go.Ground.data }, { on := 12, ground := Go.Ground.data }, { on := 11, ground := Go.Ground.chain }], guard := none }) rfl (fun K hK => ?_) AllReadyH.nil
                        refine step_append_lies _ (by rfl) _ _ 24 (by rfl) (P + 1) 2 i0 (.int .i64 0) 1 8 Try.underlying24 hi hz0 hz1 hz2 rfl (by decide) _ _ _ (by rfl) (RD.out.alloc _) ⟨wr.heap.size, 0, none⟩ 1 1 [.int .i64 (cod y e)] (by rfl) rfl (cell_one_at wr.drew (.int .i64 (cod y e)) 2) (by intro u hu; simp at hu; subst hu; rfl) (by decide) (by unfold maxLen; omega) (by omega) (by simp; omega) (wr.heap.size + 1) (by simp) ?_
                        intro g2 cap3 w5 hown hgrow hat hlt5
                        have q5 : Below (P + 1) wr.drew w5 := ((Below.refl (P + 1) wr.drew).alloc szA _).trans ((Below.refl _ _).grown hgrow (by simp; omega) (fun k hk => (RD.out.lt k hk).1))
                        have e0 := (q5.cell (p := ⟨lb, lo + i, none⟩) hlP).trans qw
                        obtain ⟨s0, s1, e2, e3, s4, s5, s6⟩ := BX.out.on q5 (Nat.lt_succ_self _)
                        have s7 := (q5.frozen (p := ⟨P, 6, none⟩) (Nat.lt_succ_self _)).trans (FX.out 6)
                        refine hK.out _ _ (⟨e0, e2, e3⟩) (fun hHeld2 => ?_)
                        clear hK K hHeld
                        have hHeld := hHeld2
                        clear hHeld2
                        try simp only [Act.put, List.setIfInBounds_toArray, List.set_cons_zero, List.set_cons_succ]
                        refine wpAnyH_take (i := 14) (oi := { dst := some 164, op := Go.Op.fieldAddr 26 (Go.Operand.tmp 13) 6, type := 0, pos := "l08_grids.go:57", after := #[{ on := 0, ground := Go.Ground.phase }, { on := 1, ground := Go.Ground.phase }, { on := 2, ground := Go.Ground.phase }, { on := 3, ground := Go.Ground.phase }, { on := 4, ground := Go.Ground.phase }, { on := 5, ground := Go.Ground.phase }, { on := 6, ground := Go.Ground.phase }, { on := 7, ground := Go.Ground.phase }, { on := 8, ground := Go.Ground.phase }, { on := 9, ground := Go.Ground.phase }, { on := 10, ground := Go.Ground.phase }, { on := 11, ground := Go.Ground.phase }, { on := 12, ground := Go.Ground.phase }, { on := 13, ground := Go.Ground.phase }], guard := none }) (v := ?_) rfl (by kernel_rfl) (by kernel_rfl) (by kernel_rfl) (fun _ _ _ h => h) (Or.inl ⟨by rfl, ?_⟩) (by assumption) ?_
                        rotate_left 1
                        · (intro w hSw; (try dsimp only at hSw); go_simp); all_goals (with_reducible rfl)
                        try simp only [Act.put, List.setIfInBounds_toArray, List.set_cons_zero, List.set_cons_succ]
                        refine wpAnyH_ready (rs := [15]) (by kernel_rfl) (by simp) ?_
                        refine AllReadyH.cons (o := { dst := none, op := Go.Op.store 24 (Go.Operand.tmp 164) (Go.Operand.tmp 163), type := 0, pos := "l08_grids.go:57", after := #[{ on := 14, ground := Go.Ground.data }, { on := 13, ground := Go.Ground.data }, { on := 13, ground := Go.Ground.chain }, { on := 0, ground := Go.Ground.phase }, { on := 1, ground := Go.Ground.phase }, { on := 2, ground := Go.Ground.phase }, { on := 3, ground := Go.Ground.phase }, { on := 4, ground := Go.Ground.phase }, { on := 5, ground := Go.Ground.phase }, { on := 6, ground := Go.Ground.phase }, { on := 7, ground := Go.Ground.phase }, { on := 8, ground := Go.Ground.phase }, { on := 9, ground := Go.Ground.phase }, { on := 10, ground := Go.Ground.phase }, { on := 11, ground := Go.Ground.phase }, { on := 12, ground := Go.Ground.phase }, { on := 13, ground := Go.Ground.phase }], guard := none }) rfl (fun K hK => ?_) AllReadyH.nil
                        go_simp
                        refine hK.out _ _ (⟨(cell_far _ _ _ _ lne).trans e0, by simp [go_sem, e2], by simp [go_sem, e3]⟩) (fun hHeld2 => ?_)
                        clear hK K hHeld
                        have hHeld := hHeld2
                        clear hHeld2
                        try simp only [Act.put, List.setIfInBounds_toArray, List.set_cons_zero, List.set_cons_succ]
                        refine wpAnyH_done (by kernel_rfl) ?_ _
                        have M5 : Hid (QB wq (w5.setCell ⟨P, 6, none⟩ (.slice (some ⟨g2, 0, none⟩) (i + 1) cap3)) P k dec r e bn (.slice tta ttn ttc) (.slice (some ⟨g2, 0, none⟩) (i + 1) cap3) (i + 1) ((W.take (i + 1)).map (fun n => cod (n - r) e))) := (by show QB _ _ _ _ _ _ _ _ _ _ _ _; rw [HSQ.out]; exact QB.more (wq := wq) UD.out hown hgrow)
                        generalize World.setCell w5 _ _ = w6 at M5 ⊢
                        clear hown hgrow hat q5 e0 s0 s1 e2 e3 s4 s5 s6 s7 hlt5 RD BX FX UD
                        go_wp2_with fail
                        go_roundw
                        case rel => exact ⟨i + 1, _, by omega, by go_num, M5⟩
                        case measure => simp [intOf]; omega
                      · go_simp
                        refine (CI.out _).mono ?_
                        rintro x w' ⟨rfl, hw⟩
                        subst hw
                        go_wp2_with fail
                        refine hK.out _ _ (⟨qw, x2, x3⟩) (fun hHeld2 => ?_)
                        clear hK K hHeld
                        have hHeld := hHeld2
                        clear hHeld2
                        try simp only [Act.put, List.setIfInBounds_toArray, List.set_cons_zero, List.set_cons_succ]
                        refine wpAnyH_ready (rs := [1, 12]) (by kernel_rfl) (by simp) ?_
                        refine AllReadyH.cons (o := { dst := some 151, op := Go.Op.load 24 (Go.Operand.tmp 150), type := 24, pos := "l08_grids.go:57", after := #[{ on := 0, ground := Go.Ground.data }], guard := none }) rfl (fun K hK => ?_) (AllReadyH.cons (o := { dst := some 162, op := Go.Op.buildSlice 24 1 #[(0, Go.Operand.tmp 161)], type := 24, pos := "l08_grids.go:57", after := #[{ on := 11, ground := Go.Ground.data }], guard := none }) rfl (fun K hK => ?_) AllReadyH.nil)
                        · go_simp
                          refine hK.out _ _ (⟨qw, x2, x3⟩) (fun hHeld2 => ?_)
                          clear hK K hHeld
                          have hHeld := hHeld2
                          clear hHeld2
                          try simp only [Act.put, List.setIfInBounds_toArray, List.set_cons_zero, List.set_cons_succ]
                          refine wpAnyH_ready (rs := [12]) (by kernel_rfl) (by simp) ?_
                          refine AllReadyH.cons (o := { dst := some 162, op := Go.Op.buildSlice 24 1 #[(0, Go.Operand.tmp 161)], type := 24, pos := "l08_grids.go:57", after := #[{ on := 11, ground := Go.Ground.data }], guard := none }) rfl (fun K hK => ?_) AllReadyH.nil
                          go_simp
                          refine hK.out _ _ (⟨cell_al qw, cell_al x2, cell_al x3⟩) (fun hHeld2 => ?_)
                          clear hK K hHeld
                          have hHeld := hHeld2
                          clear hHeld2
                          try simp only [Act.put, List.setIfInBounds_toArray, List.set_cons_zero, List.set_cons_succ]
                          refine wpAnyH_ready (rs := [13]) (by kernel_rfl) (by simp) ?_
                          refine AllReadyH.cons (o := { dst := some 163, op := Go.Op.call { callee := Go.Callee.builtin Go.Builtin.append, args := #[Go.Operand.tmp 151, Go.Operand.tmp 162], argTypes := #[24, 24] }, type := 24, pos := "l08_grids.go:57", after := #[{ on := 1, ground := Go.Ground.data }, { on := 12, ground := Go.Ground.data }, { on := 11, ground := Go.Ground.chain }], guard := none }) rfl (fun K hK => ?_) AllReadyH.nil
                          refine step_append_lies _ (by rfl) _ _ 24 (by rfl) (P + 1) 2 i0 (.int .i64 0) 1 8 Try.underlying24 hi hz0 hz1 hz2 rfl (by decide) _ _ _ (by rfl) (RD.out.alloc _) ⟨wr.heap.size, 0, none⟩ 1 1 [.int .i64 (cod y e)] (by rfl) rfl (cell_one_at wr.drew (.int .i64 (cod y e)) 2) (by intro u hu; simp at hu; subst hu; rfl) (by decide) (by unfold maxLen; omega) (by omega) (by simp; omega) (wr.heap.size + 1) (by simp) ?_
                          intro g2 cap3 w5 hown hgrow hat hlt5
                          have q5 : Below (P + 1) wr.drew w5 := ((Below.refl (P + 1) wr.drew).alloc szA _).trans ((Below.refl _ _).grown hgrow (by simp; omega) (fun k hk => (RD.out.lt k hk).1))
                          have e0 := (q5.cell (p := ⟨lb, lo + i, none⟩) hlP).trans qw
                          obtain ⟨s0, s1, e2, e3, s4, s5, s6⟩ := BX.out.on q5 (Nat.lt_succ_self _)
                          have s7 := (q5.frozen (p := ⟨P, 6, none⟩) (Nat.lt_succ_self _)).trans (FX.out 6)
                          refine hK.out _ _ (⟨e0, e2, e3⟩) (fun hHeld2 => ?_)
                          clear hK K hHeld
                          have hHeld := hHeld2
                          clear hHeld2
                          try simp only [Act.put, List.setIfInBounds_toArray, List.set_cons_zero, List.set_cons_succ]
                          refine wpAnyH_take (i := 14) (oi := { dst := some 164, op := Go.Op.fieldAddr 26 (Go.Operand.tmp 13) 6, type := 0, pos := "l08_grids.go:57", after := #[{ on := 0, ground := Go.Ground.phase }, { on := 1, ground := Go.Ground.phase }, { on := 2, ground := Go.Ground.phase }, { on := 3, ground := Go.Ground.phase }, { on := 4, ground := Go.Ground.phase }, { on := 5, ground := Go.Ground.phase }, { on := 6, ground := Go.Ground.phase }, { on := 7, ground := Go.Ground.phase }, { on := 8, ground := Go.Ground.phase }, { on := 9, ground := Go.Ground.phase }, { on := 10, ground := Go.Ground.phase }, { on := 11, ground := Go.Ground.phase }, { on := 12, ground := Go.Ground.phase }, { on := 13, ground := Go.Ground.phase }], guard := none }) (v := ?_) rfl (by kernel_rfl) (by kernel_rfl) (by kernel_rfl) (fun _ _ _ h => h) (Or.inl ⟨by rfl, ?_⟩) (by assumption) ?_
                          rotate_left 1
                          · (intro w hSw; (try dsimp only at hSw); go_simp); all_goals (with_reducible rfl)
                          try simp only [Act.put, List.setIfInBounds_toArray, List.set_cons_zero, List.set_cons_succ]
                          refine wpAnyH_ready (rs := [15]) (by kernel_rfl) (by simp) ?_
                          refine AllReadyH.cons (o := { dst := none, op := Go.Op.store 24 (Go.Operand.tmp 164) (Go.Operand.tmp 163), type := 0, pos := "l08_grids.go:57", after := #[{ on := 14, ground := Go.Ground.data }, { on := 13, ground := Go.Ground.data }, { on := 13, ground := Go.Ground.chain }, { on := 0, ground := Go.Ground.phase }, { on := 1, ground := Go.Ground.phase }, { on := 2, ground := Go.Ground.phase }, { on := 3, ground := Go.Ground.phase }, { on := 4, ground := Go.Ground.phase }, { on := 5, ground := Go.Ground.phase }, { on := 6, ground := Go.Ground.phase }, { on := 7, ground := Go.Ground.phase }, { on := 8, ground := Go.Ground.phase }, { on := 9, ground := Go.Ground.phase }, { on := 10, ground := Go.Ground.phase }, { on := 11, ground := Go.Ground.phase }, { on := 12, ground := Go.Ground.phase }, { on := 13, ground := Go.Ground.phase }], guard := none }) rfl (fun K hK => ?_) AllReadyH.nil
                          go_simp
                          refine hK.out _ _ (⟨(cell_far _ _ _ _ lne).trans e0, by simp [go_sem, e2], by simp [go_sem, e3]⟩) (fun hHeld2 => ?_)
                          clear hK K hHeld
                          have hHeld := hHeld2
                          clear hHeld2
                          try simp only [Act.put, List.setIfInBounds_toArray, List.set_cons_zero, List.set_cons_succ]
                          refine wpAnyH_done (by kernel_rfl) ?_ _
                          have M5 : Hid (QB wq (w5.setCell ⟨P, 6, none⟩ (.slice (some ⟨g2, 0, none⟩) (i + 1) cap3)) P k dec r e bn (.slice tta ttn ttc) (.slice (some ⟨g2, 0, none⟩) (i + 1) cap3) (i + 1) ((W.take (i + 1)).map (fun n => cod (n - r) e))) := (by show QB _ _ _ _ _ _ _ _ _ _ _ _; rw [HSQ.out]; exact QB.more (wq := wq) UD.out hown hgrow)
                          generalize World.setCell w5 _ _ = w6 at M5 ⊢
                          clear hown hgrow hat q5 e0 s0 s1 e2 e3 s4 s5 s6 s7 hlt5 RD BX FX UD
                          go_wp2_with fail
                          go_roundw
                          case rel => exact ⟨i + 1, _, by omega, by go_num, M5⟩
                          case measure => simp [intOf]; omega
                        · go_simp
                          refine hK.out _ _ (⟨cell_al qw, cell_al x2, cell_al x3⟩) (fun hHeld2 => ?_)
                          clear hK K hHeld
                          have hHeld := hHeld2
                          clear hHeld2
                          try simp only [Act.put, List.setIfInBounds_toArray, List.set_cons_zero, List.set_cons_succ]
                          refine wpAnyH_ready (rs := [1]) (by kernel_rfl) (by simp) ?_
                          refine AllReadyH.cons (o := { dst := some 151, op := Go.Op.load 24 (Go.Operand.tmp 150), type := 24, pos := "l08_grids.go:57", after := #[{ on := 0, ground := Go.Ground.data }], guard := none }) rfl (fun K hK => ?_) AllReadyH.nil
                          go_simp
                          refine hK.out _ _ (⟨cell_al qw, cell_al x2, cell_al x3⟩) (fun hHeld2 => ?_)
                          clear hK K hHeld
                          have hHeld := hHeld2
                          clear hHeld2
                          try simp only [Act.put, List.setIfInBounds_toArray, List.set_cons_zero, List.set_cons_succ]
                          refine wpAnyH_ready (rs := [13]) (by kernel_rfl) (by simp) ?_
                          refine AllReadyH.cons (o := { dst := some 163, op := Go.Op.call { callee := Go.Callee.builtin Go.Builtin.append, args := #[Go.Operand.tmp 151, Go.Operand.tmp 162], argTypes := #[24, 24] }, type := 24, pos := "l08_grids.go:57", after := #[{ on := 1, ground := Go.Ground.data }, { on := 12, ground := Go.Ground.data }, { on := 11, ground := Go.Ground.chain }], guard := none }) rfl (fun K hK => ?_) AllReadyH.nil
                          refine step_append_lies _ (by rfl) _ _ 24 (by rfl) (P + 1) 2 i0 (.int .i64 0) 1 8 Try.underlying24 hi hz0 hz1 hz2 rfl (by decide) _ _ _ (by rfl) (RD.out.alloc _) ⟨wr.heap.size, 0, none⟩ 1 1 [.int .i64 (cod y e)] (by rfl) rfl (cell_one_at wr.drew (.int .i64 (cod y e)) 2) (by intro u hu; simp at hu; subst hu; rfl) (by decide) (by unfold maxLen; omega) (by omega) (by simp; omega) (wr.heap.size + 1) (by simp) ?_
                          intro g2 cap3 w5 hown hgrow hat hlt5
                          have q5 : Below (P + 1) wr.drew w5 := ((Below.refl (P + 1) wr.drew).alloc szA _).trans ((Below.refl _ _).grown hgrow (by simp; omega) (fun k hk => (RD.out.lt k hk).1))
                          have e0 := (q5.cell (p := ⟨lb, lo + i, none⟩) hlP).trans qw
                          obtain ⟨s0, s1, e2, e3, s4, s5, s6⟩ := BX.out.on q5 (Nat.lt_succ_self _)
                          have s7 := (q5.frozen (p := ⟨P, 6, none⟩) (Nat.lt_succ_self _)).trans (FX.out 6)
                          refine hK.out _ _ (⟨e0, e2, e3⟩) (fun hHeld2 => ?_)
                          clear hK K hHeld
                          have hHeld := hHeld2
                          clear hHeld2
                          try simp only [Act.put, List.setIfInBounds_toArray, List.set_cons_zero, List.set_cons_succ]
                          refine wpAnyH_take (i := 14) (oi := { dst := some 164, op := Go.Op.fieldAddr 26 (Go.Operand.tmp 13) 6, type := 0, pos := "l08_grids.go:57", after := #[{ on := 0, ground := Go.Ground.phase }, { on := 1, ground := Go.Ground.phase }, { on := 2, ground := Go.Ground.phase }, { on := 3, ground := Go.Ground.phase }, { on := 4, ground := Go.Ground.phase }, { on := 5, ground := Go.Ground.phase }, { on := 6, ground := Go.Ground.phase }, { on := 7, ground := Go.Ground.phase }, { on := 8, ground := Go.Ground.phase }, { on := 9, ground := Go.Ground.phase }, { on := 10, ground := Go.Ground.phase }, { on := 11, ground := Go.Ground.phase }, { on := 12, ground := Go.Ground.phase }, { on := 13, ground := Go.Ground.phase }], guard := none }) (v := ?_) rfl (by kernel_rfl) (by kernel_rfl) (by kernel_rfl) (fun _ _ _ h => h) (Or.inl ⟨by rfl, ?_⟩) (by assumption) ?_
                          rotate_left 1
                          · (intro w hSw; (try dsimp only at hSw); go_simp); all_goals (with_reducible rfl)
                          try simp only [Act.put, List.setIfInBounds_toArray, List.set_cons_zero, List.set_cons_succ]
                          refine wpAnyH_ready (rs := [15]) (by kernel_rfl) (by simp) ?_
                          refine AllReadyH.cons (o := { dst := none, op := Go.Op.store 24 (Go.Operand.tmp 164) (Go.Operand.tmp 163), type := 0, pos := "l08_grids.go:57", after := #[{ on := 14, ground := Go.Ground.data }, { on := 13, ground := Go.Ground.data }, { on := 13, ground := Go.Ground.chain }, { on := 0, ground := Go.Ground.phase }, { on := 1, ground := Go.Ground.phase }, { on := 2, ground := Go.Ground.phase }, { on := 3, ground := Go.Ground.phase }, { on := 4, ground := Go.Ground.phase }, { on := 5, ground := Go.Ground.phase }, { on := 6, ground := Go.Ground.phase }, { on := 7, ground := Go.Ground.phase }, { on := 8, ground := Go.Ground.phase }, { on := 9, ground := Go.Ground.phase }, { on := 10, ground := Go.Ground.phase }, { on := 11, ground := Go.Ground.phase }, { on := 12, ground := Go.Ground.phase }, { on := 13, ground := Go.Ground.phase }], guard := none }) rfl (fun K hK => ?_) AllReadyH.nil
                          go_simp
                          refine hK.out _ _ (⟨(cell_far _ _ _ _ lne).trans e0, by simp [go_sem, e2], by simp [go_sem, e3]⟩) (fun hHeld2 => ?_)
                          clear hK K hHeld
                          have hHeld := hHeld2
                          clear hHeld2
                          try simp only [Act.put, List.setIfInBounds_toArray, List.set_cons_zero, List.set_cons_succ]
                          refine wpAnyH_done (by kernel_rfl) ?_ _
                          have M5 : Hid (QB wq (w5.setCell ⟨P, 6, none⟩ (.slice (some ⟨g2, 0, none⟩) (i + 1) cap3)) P k dec r e bn (.slice tta ttn ttc) (.slice (some ⟨g2, 0, none⟩) (i + 1) cap3) (i + 1) ((W.take (i + 1)).map (fun n => cod (n - r) e))) := (by show QB _ _ _ _ _ _ _ _ _ _ _ _; rw [HSQ.out]; exact QB.more (wq := wq) UD.out hown hgrow)
                          generalize World.setCell w5 _ _ = w6 at M5 ⊢
                          clear hown hgrow hat q5 e0 s0 s1 e2 e3 s4 s5 s6 s7 hlt5 RD BX FX UD
                          go_wp2_with fail
                          go_roundw
                          case rel => exact ⟨i + 1, _, by omega, by go_num, M5⟩
                          case measure => simp [intOf]; omega
                    · clear hj0
                      have hij : i = j := by omega
                      subst hij
                      obtain ⟨va, vc, ev⟩ := row_form QQ.out.row
                      subst ev
                      have ET : W.take i = W := List.take_of_length_le (by rw [← HWK.out]; exact Nat.le_refl _)
                      have U2 := QQ.out
                      rw [ET] at U2
                      have HQL : Hid (i = (W.map (fun n => cod (n - r) e)).length) := (by rw [List.length_map]; exact HWK.out)
                      have HPK : Hid (IsPk W bn r e (W.map (fun n => cod (n - r) e))) := (by
                        show IsPk _ _ _ _ _
                        rcases HEX.out with ⟨h1, h2⟩ | ⟨h1, h2⟩
                        · have hWn : W = [] := List.eq_nil_of_length_eq_zero (by rw [← HWK.out]; exact h1)
                          have hr0 : r = 0 := (by rcases HMI.out with h | h; · exact h.2.1
                                                  · exact absurd h1 (by omega))
                          exact .inl ⟨hWn, hr0, h2, by rw [hWn]; rfl⟩
                        · rcases HMI.out with h | h
                          · exact absurd h.1 (by omega)
                          · exact .inr ⟨m, h.2.1, h.2.2, by rw [HH.out] at h2; exact h2, rfl⟩)
                      generalize W.map (fun n => cod (n - r) e) = Q at *
                      have e0 := HPE.out
                      have ltA := MM.out.lt
                      have bw : Below wq.heap.size wq wr := by rw [← e0]; exact U2.bl
                      have Z2 := MM.out.bx.on bw ltA
                      have F2 : ∀ j, wr.frozen? ⟨w.heap.size, j, none⟩ = false := fun j => (bw.frozen (p := ⟨w.heap.size, j, none⟩) ltA).trans (MM.out.fz j)
                      have BB : Below w.heap.size w wr := MM.out.bl.trans (bw.mono (by omega))
                      have FX : Hid (Box7 (((((((wr.setCell ⟨w.heap.size, 0, none⟩ (.int .i64 (k : Int))).setCell ⟨w.heap.size, 1, none⟩ (.int .i64 dec)).setCell ⟨w.heap.size, 2, none⟩ (.int .i64 r)).setCell ⟨w.heap.size, 3, none⟩ (.int .i64 (e : Int))).setCell ⟨w.heap.size, 4, none⟩ (.int .i64 (bn : Int))).setCell ⟨w.heap.size, 5, none⟩ (.slice tta ttn ttc)).setCell ⟨w.heap.size, 6, none⟩ (.slice va i vc)) w.heap.size (.int .i64 (k : Int)) (.int .i64 dec) (.int .i64 r) (.int .i64 (e : Int)) (.int .i64 (bn : Int)) (.slice tta ttn ttc) (.slice va i vc)) := put7_box _ _ _ _ _ _ _ Z2
                      have FO : Hid ((((((((wr.setCell ⟨w.heap.size, 0, none⟩ (.int .i64 (k : Int))).setCell ⟨w.heap.size, 1, none⟩ (.int .i64 dec)).setCell ⟨w.heap.size, 2, none⟩ (.int .i64 r)).setCell ⟨w.heap.size, 3, none⟩ (.int .i64 (e : Int))).setCell ⟨w.heap.size, 4, none⟩ (.int .i64 (bn : Int))).setCell ⟨w.heap.size, 5, none⟩ (.slice tta ttn ttc)).setCell ⟨w.heap.size, 6, none⟩ (.slice va i vc)).ownsRow w.heap.size 2 1 (.slice va i vc) i (ints Q)) := down_row (put7_row _ _ _ _ _ _ _ U2.row (by omega)) (by omega)
                      have FT : Hid ((((((((wr.setCell ⟨w.heap.size, 0, none⟩ (.int .i64 (k : Int))).setCell ⟨w.heap.size, 1, none⟩ (.int .i64 dec)).setCell ⟨w.heap.size, 2, none⟩ (.int .i64 r)).setCell ⟨w.heap.size, 3, none⟩ (.int .i64 (e : Int))).setCell ⟨w.heap.size, 4, none⟩ (.int .i64 (bn : Int))).setCell ⟨w.heap.size, 5, none⟩ (.slice tta ttn ttc)).setCell ⟨w.heap.size, 6, none⟩ (.slice va i vc)).ownsRow w.heap.size 5 1 (.slice tta ttn ttc) thl.length (Bytes.bys thl)) := down_row (put7_row _ _ _ _ _ _ _ (HTR.out _ bw) (by omega)) (by omega)
                      have FL : Hid (Below w.heap.size w (((((((wr.setCell ⟨w.heap.size, 0, none⟩ (.int .i64 (k : Int))).setCell ⟨w.heap.size, 1, none⟩ (.int .i64 dec)).setCell ⟨w.heap.size, 2, none⟩ (.int .i64 r)).setCell ⟨w.heap.size, 3, none⟩ (.int .i64 (e : Int))).setCell ⟨w.heap.size, 4, none⟩ (.int .i64 (bn : Int))).setCell ⟨w.heap.size, 5, none⟩ (.slice tta ttn ttc)).setCell ⟨w.heap.size, 6, none⟩ (.slice va i vc))) := put7_below _ _ _ _ _ _ _ BB (Nat.le_refl _)
                      have HR2 : Hid (Res L bn dec ⟨k, dec, r, (e : Nat), bn, thl, Q⟩ 0) := .inr (.inr ⟨HO.out, HAF.out, rfl, r, e, Q, by rw [← HWW.out]; exact HPK.out, by rw [← HTH.out, ← HN.out]⟩)
                      obtain ⟨x0, x1, x2, x3, x4, x5, x6⟩ := U2.bx
                      obtain ⟨y0, y1, y2, y3, y4, y5, y6⟩ := Z2
                      clear BB bw U2 QQ ET e0 ltA
                      go_wp2_with fail
                      generalize World.setCell _ _ _ = wz at FX FO FT FL ⊢
                      obtain ⟨z0, z1, z2, z3, z4, z5, z6⟩ := FX.out
                      refine bodyPost_ret (v := .tuple #[pkv ⟨k, dec, r, e, bn, thl, Q⟩ (.slice tta ttn ttc) (.slice va i vc), .int .i64 0]) (by simp [results, Try.results5, go_sem, pkv, z0, z1, z2, z3, z4, z5, z6]) rfl ⟨_, _, _, _, HR2.out, rfl, FT.out, by have := FO.out; rw [HQL.out] at this; rw [← HQL.out] at this ⊢; exact this, FL.out⟩)

theorem spack_any (v : Value) (L : List Nat) (b dec : Int) (w : World) (hR : Fls.Reads w v L) :
    Calls Try.prog 5 #[v, .int .i64 b, .int .i64 dec] w (Post L b dec w) := by
  cases ho : okA L.length b dec
  · exact spack_args v L b dec w hR ho
  · exact spack_run v L b dec w hR ho

end Go.Proofs.Ytgajajpcjbpalaa.Pkd
