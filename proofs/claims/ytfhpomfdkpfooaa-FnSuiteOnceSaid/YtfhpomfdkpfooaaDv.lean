/- A suite drawn of a code. -/
import Derived.Test.YtfhpomfdkpfooaaDu
import Derived.Deep.Cut
import Derived.Deep.DeepMust
namespace Go.Proofs.Ytfhpomfdkpfooaa.Du
open Go.ChangeShapes Go.WideShapes Go.ChangeAt Go.RowKit
open Go.Proofs.Ytfhpomfdkpfooaa.Lists Go.Proofs.Ytfhpomfdkpfooaa.Tm Go.Proofs.Ytfhpomfdkpfooaa.Rk Go.Proofs.Ytfhpomfdkpfooaa.Ru Go.Proofs.Ytfhpomfdkpfooaa.Al Go.Proofs.Ytfhpomfdkpfooaa.Rd Go.Proofs.Ytfhpomfdkpfooaa.Ty Go.Proofs.Ytfhpomfdkpfooaa.Cp

theorem SB.drew {r : Nat} {w : World} {sT sL : Value} {R : Tk.Ls} {X : List Int} {wr : World} (h : SB r w sT sL R X wr) (hr : r < w.heap.size) : SB r w sT sL R X wr.drew := h.turn hr (h.rd.drewN 1) ((Turn.refl r wr).drewN 1)
theorem all_app {X : List Int} {d : Int} (h : X.all (fun d => inn d 1 60) = true) (h1 : 1 ≤ d) (h2 : d ≤ 60) : (X ++ [d]).all (fun d => inn d 1 60) = true := by
  rw [List.all_append, h, Bool.true_and]
  simp [inn, h1, h2]
theorem okS_of {R : Tk.Ls} {X : List Int} {m n : Nat} (hX : X.length = m) (h1 : 1 ≤ m ∧ m ≤ 3) (hR : R.length = n) (h2 : 1 ≤ n ∧ n ≤ 14) (hA : X.all (fun d => inn d 1 60) = true) (hT : So.oks R (m : Int) = true) : So.okS R X = true := by
  unfold So.okS
  rw [hX, hR, hA, hT, Bool.and_true, Bool.and_true, Bool.and_eq_true, inn_iff, inn_iff]
  omega

/-- a right suite, drawn -/
def DS (r : Nat) (w : World) (sT sL : Value) (w' : World) : Prop := ∃ R X, Tk.Row w' w.heap.size sT R ∧ w'.ownsRow w.heap.size 2 1 sL X.length (ints X) ∧ So.okS R X = true ∧ Rd r w' ∧ Turn r w w'

set_option maxRecDepth 20000 in
set_option maxHeartbeats 4000000 in
theorem suite_any (r : Nat) (w : World) (h : Rd r w) :
    Calls Try.prog 48 #[.pointer (some ⟨r, 0, none⟩)] w fun e w' => ∃ sT sL, e = .returned (Su.pv sT sL) ∧ DS r w sT sL w' := by
  have hr := h.lt
  obtain ⟨i0, hi, hz0, hz1, hz2⟩ := info_parts Lists.Try.info2
  obtain ⟨t0, ht, tz0, tz1, tz2⟩ := info_parts Try.infoT
  obtain ⟨w0, hw0⟩ : ∃ w0, w0 = (w.alloc (.cells #[.slice none 0 0, .slice none 0 0] 27)).alloc (.cells #[.slice none 0 0, .slice none 0 0] 27) := ⟨_, rfl⟩
  have HW0 : Hid (w0 = (w.alloc (.cells #[.slice none 0 0, .slice none 0 0] 27)).alloc (.cells #[.slice none 0 0, .slice none 0 0] 27)) := hw0
  have S0 : Hid (SB r w nilL nilL [] [] w0) := (by
    show SB _ _ _ _ _ _ _
    rw [hw0]
    refine ⟨(h.kept ((Below.refl w.heap.size w).alloc (Nat.le_refl _) _) hr).kept ((Below.refl w.heap.size _).alloc (by simp) _) hr, ((Turn.refl r w).alloc hr _).alloc hr _, (Bl.new w 27 _).on ((Below.refl _ _).alloc (Nat.le_refl _) _), ?_, ⟨rfl, .inl ⟨rfl, rfl⟩⟩, ⟨[], ⟨rfl, .inl ⟨rfl, rfl⟩⟩, fun i hi => absurd hi (by simp)⟩⟩
    have := Bl.new (w.alloc (.cells #[.slice none 0 0, .slice none 0 0] 27)) 27 #[.slice none 0 0, .slice none 0 0]
    simpa using this)
  clear hw0
  go_enter Try.func48, Try.ntmps48
  go_upto_region 2 with fail
  rw [← HW0.out]
  clear HW0 h
  go_wp2_with fail
  refine (below_all r w0 S0.out.rd 3 (by omega) (by omega)).mono ?_
  rintro e w1 ⟨⟨u, ⟨hu1, hu2⟩, rfl⟩, k1, t1⟩
  have S1 : Hid (SB r w nilL nilL [] [] w1) := S0.out.turn hr k1 t1
  clear k1 t1 S0
  go_upto_region 3 with fail
  obtain ⟨m, hm⟩ : ∃ m : Nat, 1 + u = (m : Int) := ⟨(1 + u).toNat, by omega⟩
  have hm1 : 1 ≤ m := by omega
  have hm3 : m ≤ 3 := by omega
  rw [hm]
  clear hm hu1 hu2
  go_wp2_with fail
  go_loopw [5] (fun c wr => ∃ (k : Nat) (v : Value) (X : List Int), k ≤ m ∧ c = .int .i64 k ∧ X.length = k ∧ Hid (X.all (fun d => inn d 1 60) = true) ∧ Hid (SB r w nilL v [] X wr)) (fun c _ => m - (intOf c).toNat)
  case atStart => exact ⟨0, nilL, [], Nat.zero_le _, rfl, rfl, rfl, S1⟩
  case round =>
    clear S1
    obtain ⟨k, v, X, hk, rfl, hX, AX, S⟩ := hrel
    subst hX
    by_cases hlt : X.length < m
    · obtain ⟨sa, sc, hv⟩ := row_form S.out.lx
      subst hv
      have g1 : wr.cell? ⟨w.heap.size + 1, 1, none⟩ = some (.slice sa X.length sc) := by rw [S.out.sb.cell]; rfl
      have i2 : (X.length : Int) < (m : Int) := by omega
      go_upto_region 6 with fail
      go_region_law (first | (refine step_append_lies _ (by rfl) _ _ 25 (by rfl) (w.heap.size + 2) 2 i0 (.int .i64 0) 1 8 Try.underlying25 hi hz0 hz1 hz2 rfl (by decide) _ _ _ (by rfl) (T1.out.lx.alloc _) ⟨w4.heap.size, 0, none⟩ 1 1 [.int .i64 (1 + u)] (by rfl) rfl (cell_new w4 (.int .i64 (1 + u)) 2) (one_int _) (by decide) (by unfold maxLen; omega) (by omega) (by simp; omega) (w4.heap.size + 1) (by simp) ?_; intro g5 c5 w5 hown hgrow hat hlt5; obtain ⟨⟨d1, d2⟩, T5'⟩ := SB.lim (X' := X ++ [1 + u]) T1.out hr hgrow (row_snoc rfl hown); have T5 : Hid (SB r w nilL (.slice (some ⟨g5, 0, none⟩) (X.length + 1) c5) [] (X ++ [1 + u]) (w5.setCell ⟨w.heap.size + 1, 1, none⟩ (.slice (some ⟨g5, 0, none⟩) (X.length + 1) c5))) := T5') | (go_simp; go_at_call 23; refine (below_any r _ (S.out.drew hr).rd 3 (by omega) (by omega)).mono ?_; rintro e w4 ⟨⟨u, ⟨hu1, hu2⟩, rfl⟩, k6, t4⟩; have T1 : Hid (SB r w nilL (.slice sa X.length sc) [] X w4) := (S.out.drew hr).turn hr k6 t4; have o1 : w4.cell? ⟨w.heap.size + 1, 1, none⟩ = some (.slice sa X.length sc) := (by rw [T1.out.sb.cell]; rfl); have o5 := T1.out.sb.lt; have wu : IntKind.i64.wrap (1 + u) = 1 + u := IntWalk.i64_in _ (by omega)))
      all_goals
        clear hown hgrow hat hlt5
        go_wp2_with fail
        go_roundw
        case rel => exact ⟨X.length + 1, _, X ++ [1 + u], by omega, by go_num, by simp, all_app AX.out (by omega) (by omega), T5⟩
        case measure => simp [intOf]; omega
    · have hXm : Hid (X.length = m) := Nat.le_antisymm hk (Nat.le_of_not_lt hlt)
      have i2 : ¬ (X.length : Int) < (m : Int) := by omega
      go_wp2_with fail
      refine (size_any r wr S.out.rd 5 14 (by omega) (by omega)).mono ?_
      rintro e w2 ⟨⟨un, ⟨hu1, hu2⟩, rfl⟩, k2, t2⟩
      obtain ⟨n, hn⟩ : ∃ n : Nat, un = (n : Int) := ⟨un.toNat, by omega⟩
      subst hn
      have hn1 : 1 ≤ n := by omega
      have hn14 : n ≤ 14 := by omega
      have S2 : Hid (SB r w nilL v [] X w2) := S.out.turn hr k2 t2
      clear k2 t2 S hu1 hu2 i2 hlt hk
      go_wp2_with fail
      go_loopw [7] (fun c wr => ∃ (k : Nat) (vT : Value) (R : Tk.Ls), k ≤ n ∧ c = .int .i64 k ∧ R.length = k ∧ Hid (So.oks R (m : Int) = true) ∧ Hid (SB r w vT v R X wr)) (fun c _ => n - (intOf c).toNat)
      case atStart => exact ⟨0, nilL, [], Nat.zero_le _, rfl, rfl, rfl, S2⟩
      case round =>
        clear S2
        obtain ⟨wo, hwo⟩ : ∃ x : World, x = wr := ⟨_, rfl⟩
        subst hwo
        obtain ⟨k, vT, R, hk, rfl, hR, AR, S⟩ := hrel
        subst hR
        by_cases hlt : R.length < n
        · have i2 : (R.length : Int) < (n : Int) := by omega
          have hro : r < wo.heap.size := S.out.rd.lt
          go_wp2_with fail
          refine (below_all r wo S.out.rd m (by omega) (by omega)).mono ?_
          rintro e w3 ⟨⟨ug, ⟨hg1, hg2⟩, rfl⟩, k3, t3⟩
          go_wp2_with fail
          refine (below_all r w3 k3 3 (by omega) (by omega)).mono ?_
          rintro e w4 ⟨⟨um, ⟨hm4, hm5⟩, rfl⟩, k4, t4⟩
          obtain ⟨tb, htb⟩ : ∃ y, y = w4.heap.size := ⟨_, rfl⟩
          have HTB : Hid (tb = w4.heap.size) := htb
          obtain ⟨w5, hw5⟩ : ∃ y, y = w4.alloc (.cells #[.slice none 0 0, .int .i64 (1 + ug), .int .i64 0, .int .i64 (1 + um)] 50) := ⟨_, rfl⟩
          have HW5 : Hid (w5 = w4.alloc (.cells #[.slice none 0 0, .int .i64 (1 + ug), .int .i64 0, .int .i64 (1 + um)] 50)) := hw5
          have T5 : Hid (TB r wo tb nilL (1 + ug) 0 (1 + um) [] w5) := (by show TB _ _ _ _ _ _ _ _ _; rw [hw5, htb]; exact TB.new hro k4 (t3.trans t4) _ _)
          clear hw5 htb k3 t3 k4 t4
          go_upto_region 12 with fail
          rw [← HW5.out, ← HTB.out]
          clear HW5 HTB
          have hz1' : 1 ≤ 1 + ug ∧ 1 + ug ≤ (m : Int) := by omega
          have hz3' : 1 ≤ 1 + um ∧ 1 + um ≤ 5 := by omega
          clear hg1 hg2 hm4 hm5
          generalize 1 + ug = z1 at *
          generalize 1 + um = z3 at *
          have HZ : Hid ((1 ≤ z1 ∧ z1 ≤ (m : Int)) ∧ (1 ≤ z3 ∧ z3 ≤ 5)) := ⟨hz1', hz3'⟩
          clear hz1' hz3' i2
          go_wp2_with fail
          go_loopw [9] (fun c wr => ∃ (q : Nat) (L : List Int) (u : Value), 1 ≤ q ∧ q ≤ R.length + 1 ∧ c = .int .i64 q ∧ Hid (Up L (q : Int)) ∧ L.length ≤ q ∧ Hid (TB r wo tb u z1 0 z3 L wr)) (fun c _ => R.length + 1 - (intOf c).toNat)
          case atStart => exact ⟨1, [], nilL, Nat.le_refl _, by omega, rfl, fun j hj => absurd hj (by simp), by simp, T5⟩
          case round =>
            clear T5
            obtain ⟨q, L, u, hq1, hq2, rfl, UL, LQ, T⟩ := hrel
            obtain ⟨ua, uc, hv⟩ := row_form T.out.row
            subst hv
            by_cases hq : q ≤ R.length
            · have i3 : (q : Int) ≤ (R.length : Int) := by omega
              go_wp2_with fail
              refine (once_any r wr T.out.rd 3 (by omega) (by omega)).mono ?_
              rintro e w6 ⟨⟨b, rfl⟩, k6, t6⟩
              have T6 : Hid (TB r wo tb (.slice ua L.length uc) z1 0 z3 L w6) := T.out.turn hro k6 t6
              clear k6 t6 T
              cases b
              · go_wp2_with fail
                go_roundw
                case rel => exact ⟨q + 1, L, .slice ua L.length uc, by omega, by omega, by go_num, UL.out.mono (by omega), by omega, T6⟩
                case measure => simp [intOf]; omega
              · have c0 : w6.cell? ⟨tb, 0, none⟩ = some (.slice ua L.length uc) := by rw [T6.out.bx.cell]; rfl
                have ctl : tb < w6.heap.size := T6.out.bx.lt
                go_wp2_with (at_builtin; refine wpList_append_own _ rfl _ _ 25 rfl (tb + 1) 2 i0 (.int .i64 0) 1 8 Try.underlying25 hi hz0 hz1 hz2 rfl (by decide) _ _ _ rfl (T6.out.row.alloc _) ⟨w6.heap.size, 0, none⟩ 1 1 [.int .i64 (q : Int)] rfl rfl (cell_new w6 _ 2) (one_int _) (by unfold maxLen; omega) (by omega) (by simp; omega) ?_)
                intro v' w7 hown hgrow hnil7
                obtain ⟨g7, c7, rfl, p1, p2, p3, p4⟩ := row_some hown (by first | exact hnil7 | (intro e; have := hnil7.1 e; simp at this))
                obtain ⟨⟨d1, d2⟩, T7'⟩ := TB.app (L' := L ++ [(q : Int)]) T6.out hro hgrow (row_snoc rfl hown)
                have T7 : Hid (TB r wo tb (.slice (some ⟨g7, 0, none⟩) (L.length + 1) c7) z1 0 z3 (L ++ [(q : Int)]) (w7.setCell ⟨tb, 0, none⟩ (.slice (some ⟨g7, 0, none⟩) (L.length + 1) c7))) := T7'
                clear hown hgrow hnil7 p1 p2 p3 p4 T7' c0 ctl T6
                go_wp2_with fail
                go_roundw
                case rel => exact ⟨q + 1, L ++ [(q : Int)], _, by omega, by omega, by go_num, (UL.out.snoc (by omega)).mono (by omega), by simp; omega, T7⟩
                case measure => simp [intOf]; omega
            · have hqe : q = R.length + 1 := by omega
              subst hqe
              have i3 : ¬ ((R.length + 1 : Nat) : Int) ≤ (R.length : Int) := by omega
              go_wp2_with fail
              refine (once_any r wr T.out.rd 2 (by omega) (by omega)).mono ?_
              rintro e w6 ⟨⟨b, rfl⟩, k6, t6⟩
              have T6 : Hid (TB r wo tb (.slice ua L.length uc) z1 0 z3 L w6) := T.out.turn hro k6 t6
              clear k6 t6 T i3
              go_upto_if 56 with fail
              go_cut [] (fun wx => ∃ z2 : Int, (0 ≤ z2 ∧ z2 ≤ 50) ∧ Hid (TB r wo tb (.slice ua L.length uc) z1 z2 z3 L wx))
              case first =>
                cases b
                · go_wp2_with fail
                  go_meet
                  exact ⟨0, by omega, T6⟩
                · go_wp2_with fail
                  refine (below_all r w6 T6.out.rd 50 (by omega) (by omega)).mono ?_
                  rintro e w7 ⟨⟨ul, ⟨hl1, hl2⟩, rfl⟩, k7, t7⟩
                  have T7 : Hid (TB r wo tb (.slice ua L.length uc) z1 0 z3 L w7) := T6.out.turn hro k7 t7
                  have c2 : w7.cell? ⟨tb, 2, none⟩ = some (.int .i64 0) := by rw [T7.out.bx.cell]; rfl
                  have f2 := T7.out.bx.fz 2
                  clear k7 t7 T6
                  go_wp2_with fail
                  go_meet
                  exact ⟨1 + ul, by omega, T7.out.late hro _⟩
              case rest =>
                obtain ⟨z2, hz2', T7⟩ := hcut
                obtain ⟨wx, hwx⟩ : ∃ x : World, x = wc := ⟨_, rfl⟩
                subst hwx
                have HZ2 : Hid (0 ≤ z2 ∧ z2 ≤ 50) := hz2'
                have SX : Hid (SB r w vT v R X wx) := S.out.turn hr T7.out.rd T7.out.tu
                have LO : Hid (w.heap.size + 2 ≤ tb) := (by have := S.out.sb.lt; have := T7.out.lo; show _ ≤ _; omega)
                obtain ⟨xs, hx, hgd⟩ := SX.out.rt
                obtain ⟨sa, sc, hv⟩ := row_form hx
                subst hv
                have HX : Hid (wx.ownsRow (w.heap.size + 2) 50 4 (.slice sa R.length sc) R.length xs) := hx
                have HG : Hid (Tk.Good wx (w.heap.size + 2) xs R R.length) := hgd
                have HU : Hid (wx.ownsRow (w.heap.size + 2) 2 1 (.slice ua L.length uc) L.length (ints L)) := Tk1.own_down T7.out.row (by have := LO.out; omega)
                have y0 : wx.cell? ⟨tb, 0, none⟩ = some (.slice ua L.length uc) := by rw [T7.out.bx.cell]; rfl
                have y1 : wx.cell? ⟨tb, 1, none⟩ = some (.int .i64 z1) := by rw [T7.out.bx.cell]; rfl
                have y2 : wx.cell? ⟨tb, 2, none⟩ = some (.int .i64 z2) := by rw [T7.out.bx.cell]; rfl
                have y3 : wx.cell? ⟨tb, 3, none⟩ = some (.int .i64 z3) := by rw [T7.out.bx.cell]; rfl
                have s0 : wx.cell? ⟨w.heap.size + 1, 0, none⟩ = some (.slice sa R.length sc) := by rw [SX.out.sb.cell]; rfl
                obtain ⟨wD, hwD⟩ : ∃ y, y = wx.alloc (Obj.cells #[.slice ua L.length uc, .int .i64 z1, .int .i64 z2, .int .i64 z3] 50) := ⟨_, rfl⟩
                have HWD : Hid (wD = wx.alloc (Obj.cells #[.slice ua L.length uc, .int .i64 z1, .int .i64 z2, .int .i64 z3] 50)) := hwD
                have ND : Hid (∀ j x, [Value.slice ua L.length uc, .int .i64 z1, .int .i64 z2, .int .i64 z3][j]? = some x → wD.cell? ((⟨wx.heap.size, 0, none⟩ : Addr).add j) = some x) := (by rw [hwD]; exact cell_four wx _ _ _ _ 50)
                have RD : Hid (wD.ownsRow (w.heap.size + 2) 50 4 (.slice sa R.length sc) R.length xs) := (by show World.ownsRow _ _ _ _ _ _ _; rw [hwD]; exact Tk.row_below hx ((Below.refl _ _).alloc (Nat.le_refl _) _))
                have ZD : Hid (w.heap.size + 2 ≤ wD.heap.size) := (by have := T7.out.bx.lt; have := LO.out; show _ ≤ _; rw [hwD]; simp; omega)
                clear hwD hx hgd hz2' T6 S
                go_wp2_with (at_builtin; rw [← HWD.out]; refine wpList_append_own _ rfl _ _ 24 rfl (w.heap.size + 2) 50 t0 (.agg #[.slice none 0 0, .int .i64 0, .int .i64 0, .int .i64 0]) 4 48 Try.underlying24 ht tz0 tz1 tz2 rfl (by decide) _ _ _ rfl RD.out ⟨wx.heap.size, 0, none⟩ 1 1 [.slice ua L.length uc, .int .i64 z1, .int .i64 z2, .int .i64 z3] rfl rfl ND.out (one_four _ rfl _ _ _) (by unfold maxLen; omega) (by omega) ZD.out ?_)
                intro v5 w5 hown hgrow hnil5
                obtain ⟨g5, c5, rfl, p1, p2, p3, p4⟩ := row_some hown (by first | exact hnil5 | (intro e; have := hnil5.1 e; simp at this))
                rw [HWD.out] at hgrow
                obtain ⟨⟨d1, d2⟩, S5'⟩ := SB.task (el := (fun j => if j = 1 then z1 else if j = 2 then z2 else z3, L)) SX.out hr HX.out HG.out HU.out hgrow hown
                have S5 : Hid (SB r w (.slice (some ⟨g5, 0, none⟩) (R.length + 1) c5) v (R ++ [(fun j => if j = 1 then z1 else if j = 2 then z2 else z3, L)]) X (w5.setCell ⟨w.heap.size + 1, 0, none⟩ (.slice (some ⟨g5, 0, none⟩) (R.length + 1) c5))) := S5'
                have A5 : Hid (So.oks (R ++ [((fun j => if j = 1 then z1 else if j = 2 then z2 else z3 : Nat → Int), L)]) (m : Int) = true) := oks_app AR.out UL.out HZ.out.1 (by have := HZ2.out; show 0 ≤ z2 ∧ z2 ≤ _; omega) HZ.out.2
                clear hown hgrow hnil5 p1 p2 p3 p4 S5' y0 y1 y2 y3 s0 SX HX HG HU ND RD ZD HWD T7
                go_wp2_with fail
                go_roundw
                case rel => exact ⟨R.length + 1, _, _, by omega, by go_num, by simp, A5, S5⟩
                case measure => simp [intOf]; omega
        · have hRn : R.length = n := by omega
          have i2 : ¬ (R.length : Int) < (n : Int) := by omega
          have OK : Hid (So.okS R X = true) := okS_of hXm.out ⟨hm1, hm3⟩ hRn ⟨hn1, hn14⟩ AX.out AR.out
          clear hRn
          have s0 : wo.cell? ⟨w.heap.size + 1, 0, none⟩ = some vT := by rw [S.out.sb.cell]; rfl
          have s1 : wo.cell? ⟨w.heap.size + 1, 1, none⟩ = some v := by rw [S.out.sb.cell]; rfl
          have q0 : wo.cell? ⟨w.heap.size, 0, none⟩ = some (.slice none 0 0) := by rw [S.out.rb.cell]; rfl
          have q1 : wo.cell? ⟨w.heap.size, 1, none⟩ = some (.slice none 0 0) := by rw [S.out.rb.cell]; rfl
          have f0 := S.out.rb.fz 0
          have f1 := S.out.rb.fz 1
          obtain ⟨ta, tc, hv⟩ := S.out.rt.reads.form
          obtain ⟨xa, xc, hv2⟩ := row_form S.out.lx
          subst hv hv2
          have KS : KB (fun b => b = w.heap.size) wo ((wo.setCell ⟨w.heap.size, 0, none⟩ (.slice ta R.length tc)).setCell ⟨w.heap.size, 1, none⟩ (.slice xa X.length xc)) := (kb_set wo _ _ _).trans (kb_set _ _ _ _)
          go_wp2_with fail
          refine bodyPost_ret (v := Su.pv (.slice ta R.length tc) (.slice xa X.length xc)) (by simp [results, Try.results48, go_sem, q0, q1]) rfl ⟨_, _, rfl, R, X, ?_, ?_, OK.out, ?_, ?_⟩
          · exact Su.row_down (row_at S.out.rt KS (fun b hb => by omega)) (by omega)
          · exact Tk1.own_down (row_kb S.out.lx KS (fun g hg q => by have := (S.out.lx.lt g hg).1; omega)) (by omega)
          · exact rd_kb S.out.rd KS (fun b hb => by omega)
          · exact kb_turn hr S.out.tu KS (fun b hb => by omega)
end Go.Proofs.Ytfhpomfdkpfooaa.Du
