/- A step drawn: the walk. -/
import Derived.Test.YtjhoagbcfpbelaaXf
import Derived.Deep.Cut
import Derived.Deep.DeepMust
import Derived.Deep.CutBlock
namespace Go.Proofs.Ytjhoagbcfpbelaa.Xa
open Go.ChangeShapes Go.WideShapes Go.ChangeAt Go.RowKit
open Go.Proofs.Ytjhoagbcfpbelaa.Lists Go.Proofs.Ytjhoagbcfpbelaa.Gd Go.Proofs.Ytjhoagbcfpbelaa.Rd

theorem told_out (wx : World) (A : Nat) (x y z : Value) : Wn.Out (fun k => k = A) wx (put3 wx.drew A x y z) :=
  have o := put3_out wx.drew A x y z
  ⟨o.os, o.tape, o.output, o.size, fun k hk hn => o.block k hk hn⟩
theorem PS.reint {r : Nat} {w1 w : World} {B : Nat} {nv v2 v3 : Value} {n m : Nat} {o z : Int} {wr : World} (h : PS r w1 w B nv v2 v3 n m o z wr) (q : Int) : PS r w1 w B nv v2 v3 n m q z (wr.setCell ⟨B, 1, none⟩ (.int .i64 q)) := by
  obtain ⟨b0, b1, b2⟩ := h.bx
  exact h.rebox (out_set _ _ _ _) (by unfold Bk.Box; simp [go_sem, b0, b1, b2]) (fun j => by rw [World.frozen?_setCell]; exact h.fz j) h.a2 h.n2 h.m6 h.q1 h.q3
theorem AI.cap {wx : World} {b n c : Nat} {a : Option Addr} (h : AI wx b (.slice a n c) n) : n ≤ c := by
  obtain ⟨L, hl, hr⟩ := h
  rcases hr.2 with ⟨e, h0⟩ | ⟨g', cap, cur, e, _, _, h3, h4, _⟩
  · cases e; omega
  · cases e; exact h3
set_option maxRecDepth 20000 in
set_option maxHeartbeats 2000000 in
theorem flow_draw (ca : Option Addr) (cn cc : Nat) (w : World) (hc : Rd.Code w ca cn cc) (hn : cn ≤ 1048576) : Calls Try.prog 5 #[.slice ca cn cc] w (FP w) := by
  obtain ⟨w0, hw0⟩ : ∃ w0, w0 = w.alloc (.cells #[.slice none 0 0, .int .i64 0, .int .i64 0] 26) := ⟨_, rfl⟩
  have HW0 : Hid (w0 = w.alloc (.cells #[.slice none 0 0, .int .i64 0, .int .i64 0] 26)) := hw0
  have s0 : Hid (w0.heap.size = w.heap.size + 1) := (by show _ = _; rw [hw0]; simp)
  have B0 : Hid (Below w.heap.size w w0) := (by show Below _ _ _; rw [hw0]; exact (Below.refl _ _).alloc (Nat.le_refl _) _)
  have R0 : Hid (w0.heap[w.heap.size]? = some (.cells #[.slice none 0 0, .int .i64 0, .int .i64 0] 26)) := (by show _ = _; rw [hw0]; exact World.alloc_heap_new w _)
  have HC : Hid (Rd.Code w ca cn cc) := hc
  clear hw0 hc
  go_enter Try.func5, Try.ntmps5
  go_upto_region 1 with fail
  rw [← HW0.out]
  go_wp2_with fail
  refine (open_any _ ca cn cc rfl w0).mono ?_
  rintro e w1 ⟨rfl, hw1⟩
  obtain ⟨r, hr⟩ : ∃ r, r = w0.heap.size := ⟨_, rfl⟩
  have K1 : Hid (Rd.Rd r w1) := (by show Rd.Rd _ _; rw [hr, hw1]; exact Rd.new HC.out hn B0.out)
  have b01 : Below w0.heap.size w0 w1 := by rw [hw1]; exact (Below.refl _ _).alloc (Nat.le_refl _) _
  have B1 : Hid (Below w.heap.size w w1) := B0.out.trans (b01.mono B0.out.size)
  have R1 : Hid (w1.heap[w.heap.size]? = some (.cells #[.slice none 0 0, .int .i64 0, .int .i64 0] 26)) := (b01.block w.heap.size (by have := s0.out; omega)).trans R0.out
  have LR : Hid (w.heap.size < r ∧ r < w1.heap.size) := ⟨by have := s0.out; omega, K1.out.lt⟩
  rw [← hr]
  clear hr hw1 b01 R0 B0 s0 HW0 HC hn
  go_wp2_with fail
  refine (next_draw r w1 K1.out).mono ?_
  rintro e w2 ⟨⟨nv, n, rfl, hA, hn6⟩, k2, t2⟩
  have A2 : Hid (AI w2 w1.heap.size nv n) := hA
  have K2 : Hid (KT r w1 w2) := ⟨k2, t2⟩
  clear hA k2 t2 K1
  obtain ⟨N, lN, rN⟩ := A2.out.reads
  obtain ⟨na, nc, rfl⟩ := A2.out.form
  have NE : ∀ g o, na = some ⟨g, o, none⟩ → g ≠ r := fun g o e x => by
    subst e
    have := (A2.out.lt g rfl).1
    have := LR.out
    omega
  have CB := book_draw r w2 K2.out.rd N na nc (by rw [lN]; exact rN) NE (by omega)
  rw [lN] at CB
  clear lN rN NE
  go_wp2_with fail
  refine CB.mono ?_
  rintro e w3 ⟨⟨v2, m, o, z, rfl, hA3, hm6⟩, k3, t3⟩
  obtain ⟨va, vc, rfl⟩ := hA3.form
  have S3 : Hid (PS r w1 w w3.heap.size (.slice na n nc) (.slice va m vc) (.slice na n nc) n m o z (w3.alloc (.cells #[.slice va m vc, .int .i64 o, .int .i64 z] 26))) := (by
    have l := LR.out
    have b3 : Below w3.heap.size w3 (w3.alloc (.cells #[.slice va m vc, .int .i64 o, .int .i64 z] 26)) := (Below.refl _ _).alloc (Nat.le_refl _) _
    have K3 := K2.out.call k3 t3
    have s1 := K2.out.tn.size
    have s2 := K3.tn.size
    have nw := box_of (World.alloc_heap_new w3 (Obj.cells #[.slice va m vc, .int .i64 o, .int .i64 z] 26))
    have A3 : AI w3 w1.heap.size (.slice na n nc) n := A2.out.turn l.2 t3
    have e1 := (b3.block w.heap.size (by omega)).trans (((Dr.turn_out K3.tn).block w.heap.size (by omega) (by omega)).trans R1.out)
    have q := box_of e1
    have A4 : AI w3 w1.heap.size (.slice va m vc) m := hA3.down (by omega)
    refine ⟨K3.up l.2 b3, B1.out, ⟨⟨_, _, _, q.1⟩, q.2⟩, nw.1, nw.2, A3.on b3, A4.on b3, A3.on b3, ?_, ?_, ?_, l, ⟨s2, by simp⟩, hn6, hm6, ?_, ?_⟩
    · intro e; have := (A3.lt _ e).2; omega
    · intro e; have := (A4.lt _ e).2; omega
    · intro e; have := (A3.lt _ e).2; omega
    · intro g e1 e2; have := (hA3.lt _ e1).1; have := (A2.out.lt _ e2).2; omega
    · intro g e1 e2; have := (hA3.lt _ e1).1; have := (A2.out.lt _ e2).2; omega)
  clear CB hA3 k3 t3 A2 K2 R1 B1
  go_wp2_with fail
  refine (rain_any r _ S3.out.kt.rd na n nc (by omega)).mono ?_
  rintro e w4 ⟨⟨v3, rfl, hA4⟩, k4, t4⟩
  have S4 : Hid (PS r w1 w w3.heap.size (.slice na n nc) (.slice va m vc) v3 n m o z w4) := (by
    have q := S3.out.turn k4 t4
    have l := S3.out.lt
    exact { q with a3 := hA4.down (by have := S3.out.kt.tn.size; omega), n3 := fun e => (by have := (hA4.lt _ e).1; omega), q3 := fun g e1 e2 => (by have := (hA4.lt _ e2).1; have := (S3.out.a2.lt _ e1).2; omega) })
  clear S3 hA4 k4 t4
  generalize w3.heap.size = B at *
  obtain ⟨ra, rc, rfl⟩ := S4.out.a3.form
  obtain ⟨b0, b1, b2⟩ := id S4.out.bx
  obtain ⟨⟨u0, u1, u2, c0, c1, c2⟩, cf⟩ := S4.out.rc
  have f0 := cf 0
  have f1 := cf 1
  have f2 := cf 2
  have lB := S4.out.lt
  have lR := S4.out.lr
  have nAB : ¬ w.heap.size = B := by omega
  have nBA : ¬ B = w.heap.size := by omega
  by_cases h0 : n = 0
  · subst h0
    go_upto_region 6 with fail
    go_region
    all_goals
      go_wp2_with fail
      refine bodyPost_ret (v := .tuple #[.slice na 0 nc, Bk.sv o z (.slice va m vc), .slice ra 0 rc]) (by simp [results, Try.results5, go_sem, c0, c1, c2]) rfl (S4.out.fl.told ?_)
      exact told_out _ _ _ _ _
  · have h0' : ((n : Int) == 0) = false := by simp [h0]
    have h1 : 0 < n := Nat.pos_of_ne_zero h0
    obtain ⟨g3, c3, eg3, lg3, _⟩ := S4.out.a3.at h1
    cases eg3
    have ng3 : g3 ≠ B := fun e => S4.out.n3 (by rw [← e]; rfl)
    clear b0 b1 b2 u0 u1 u2 c0 c1 c2 cf f0 f1 f2 h0
    go_wp2_with fail
    refine (below_any r _ S4.out.kt.rd 20 (by omega) (by omega)).mono ?_
    rintro e w5 ⟨⟨u, ⟨hu1, hu2⟩, rfl⟩, k5, t5⟩
    have S5 : Hid (PS r w1 w B (.slice na n nc) (.slice va m vc) (sl g3 n rc) n m o z w5) := S4.out.turn k5 t5
    clear S4 k5 t5
    obtain ⟨b0, b1, b2⟩ := id S5.out.bx
    go_upto_block 0 with fail
    go_cut [8] (fun v wx => ∃ (v2 : Value) (o' z' : Int), Hid (FL w B (.slice na n nc) v2 v o' z' wx))
    case first =>
      obtain ⟨i0, hi, hz0, hz1, hz2⟩ := info_parts Lists.Try.info2
      have rb : r < w5.heap.size := S5.out.kt.rd.lt
      have n0 : (0 : Int) < (n : Int) := by omega
      by_cases u0 : u = 0
      · subst u0
        have KA : Hid (PS r w1 w B (.slice na n nc) (.slice va m vc) (sl g3 n rc) n m o z (w5.alloc (Obj.cells #[.int .i64 (-1), .int .i64 1000000000000, .int .i64 1000000000001] 2))) := S5.out.alloc _
        go_wp2_with fail
        refine (below_any r _ KA.out.kt.rd 3 (by omega) (by omega)).mono ?_
        rintro e w6 ⟨⟨y, ⟨hy1, hy2⟩, rfl⟩, k6, t6⟩
        have hy3 : y < 3 := hy2
        obtain ⟨q, hq⟩ := pick3 y hy1 hy3
        have c0 : w6.cell? ⟨w5.heap.size, y.toNat, none⟩ = some (.int .i64 q) := (t6.cell _ (by simp) (by omega)).trans (hq w5)
        have S6 := KA.out.turn k6 t6
        obtain ⟨x, cx, fx⟩ := S6.a3.get 0 h1
        have S7 : Hid (FL w B (.slice na n nc) (.slice va m vc) (sl g3 n rc) o z (w6.setCell ⟨g3, 0, none⟩ (.int .i64 q))) := (S6.put lg3 ng3 0 q).fl
        clear KA k6 t6 S6 hq hy2 S5
        go_wp2_with fail
        go_meet
        exact ⟨_, _, _, S7⟩
      · by_cases u1 : u = 1
        · subst u1
          have KA : Hid (PS r w1 w B (.slice na n nc) (.slice va m vc) (sl g3 n rc) n m o z (w5.alloc (Obj.cells #[.int .i64 (IntKind.i64.wrap (o + 1)), .int .i64 (-1)] 2)).drew) := (S5.out.alloc _).drew
          have fb := S5.out.fz 1
          have lB5 := S5.out.lt.2
          go_upto_region 11 with fail
          go_region_with (go_at_call 13; first
            | (refine (below_any r _ KA.out.kt.rd 2 (by omega) (by omega)).mono ?_; rintro e w6 ⟨⟨y, ⟨hy1, hy2⟩, rfl⟩, k6, t6⟩; have hy3 : y < 2 := hy2; obtain ⟨q, hq⟩ := pick2 (IntKind.i64.wrap (o + 1)) y hy1 hy3; have T1 : Hid (PS r w1 w B (.slice na n nc) (.slice va m vc) (sl g3 n rc) n m o z w6) := KA.out.turn k6 t6; have c0 : w6.cell? ⟨w5.heap.size, y.toNat, none⟩ = some (.int .i64 q) := (t6.cell _ (by simp) (by omega)).trans (hq w5); obtain ⟨o0, o1, o2⟩ := id T1.out.bx; have o3 := T1.out.fz 1; have o5 := T1.out.lt.2; clear hq hy2)
            | (refine (below_any r _ S5.out.drew.kt.rd 2 (by omega) (by omega)).mono ?_; rintro e w6 ⟨⟨y, ⟨hy1, hy2⟩, rfl⟩, k6, t6⟩; have hy3 : y < 2 := hy2; obtain ⟨q, hq⟩ := pick2 (IntKind.i64.wrap (o + 1)) y hy1 hy3; have c0 := hq w6; have T0 : Hid (PS r w1 w B (.slice na n nc) (.slice va m vc) (sl g3 n rc) n m o z w6) := S5.out.drew.turn k6 t6; have T1 : Hid (PS r w1 w B (.slice na n nc) (.slice va m vc) (sl g3 n rc) n m o z (w6.alloc (Obj.cells #[.int .i64 (IntKind.i64.wrap (o + 1)), .int .i64 (-1)] 2))) := T0.out.alloc _; obtain ⟨o0, o1, o2⟩ := id T0.out.bx; have o3 := T0.out.fz 1; have o5 := T0.out.lt.2; clear hq hy2))
          all_goals
            go_wp2_with fail
            go_meet
            first
              | exact ⟨_, q, z, (T1.out.reint q).fl⟩
              | exact ⟨_, q, z, ((T0.out.reint q).alloc _).fl⟩
        · by_cases u2 : u = 2
          · subst u2
            obtain ⟨p, rfl⟩ : ∃ p, n = p + 1 := ⟨n - 1, by omega⟩
            have hcap := S5.out.a3.cap
            have lr := S5.out.lr
            by_cases c1 : rc = 1
            · subst c1
              have p0 : p = 0 := by omega
              subst p0
              have F := S5.out.fl
              have F2 : Hid (FL w B (.slice na 1 nc) (.slice va m vc) (.slice (some ⟨g3, 0, none⟩) 0 0) o z w5) := { F with r3 := RV.none0 (by omega) }
              clear F
              go_wp2_with fail
              go_meet
              exact ⟨_, _, _, F2⟩
            · have F := S5.out.fl
              have F2 : Hid (FL w B (.slice na (p + 1) nc) (.slice va m vc) (.slice (some ⟨g3, 1, none⟩) p (rc - 1)) o z w5) := { F with r3 := RV.tail S5.out.a3 (by omega) (by omega) }
              clear F
              have c2 : ¬ rc - 1 = 0 := by omega
              have c3 : 1 ≤ rc := by omega
              have c4 : (1 : Int) ≤ (rc : Int) := by omega
              go_wp2_with fail
              go_meet
              exact ⟨_, _, _, F2⟩
          · by_cases u3 : u = 3
            · subst u3
              have sz : w1.heap.size ≤ w5.heap.size := S5.out.kt.tn.size
              have m6 := S5.out.m6
              obtain ⟨XL, xl, xr⟩ := S5.out.a2
              go_wp2_with (at_builtin; refine wpList_append_own_at _ rfl _ _ 24 rfl w1.heap.size 2 i0 (.int .i64 0) 1 8 Try.underlying24 hi hz0 hz1 hz2 rfl (by decide) _ _ _ rfl (xr.alloc _) ⟨w5.heap.size, 0, none⟩ 1 1 [.int .i64 0] rfl rfl (cell_one_new w5 (.int .i64 0) 2) (one_int _) (by unfold maxLen; omega) (by omega) (by simp; omega) ?_)
              intro v' w7 hown hgrow _ hat
              obtain ⟨va', vc', hv'⟩ := Gd.row_form hown
              subst hv'
              obtain ⟨⟨d0, d1⟩, F2'⟩ := S5.out.more xl hgrow hown hat
              have F2 : Hid (FL w B (.slice na n nc) (.slice va' (m + 1) vc') (sl g3 n rc) o z (w7.setCell ⟨B, 0, none⟩ (.slice va' (m + 1) vc'))) := F2'
              clear F2' hgrow hown hat xr xl S5
              go_wp2_with fail
              go_meet
              exact ⟨_, _, _, F2⟩
            · by_cases u4 : u = 4
              · subst u4
                have sz : w1.heap.size ≤ w5.heap.size := S5.out.kt.tn.size
                have n6 := S5.out.n6
                have lB := S5.out.lt.2
                obtain ⟨ZL, hZL⟩ : ∃ ZL, ZL = Ct.zeros n := ⟨_, rfl⟩
                have zl : ZL.length = n := by rw [hZL]; exact Ct.zeros_len n
                have ZM : Hid (∀ k, (madeCells (Value.int .i64 0).cells (k * 1)).toList = ints (Ct.zeros k)) := Ct.zeros_made
                go_upto_region 18 with (at_make; refine wpList_make_full _ rfl _ _ 24 rfl w5.heap.size 2 i0 (.int .i64 0) 1 Try.underlying24 hi hz0 hz1 .i64 .i64 (n : Int) (n : Int) n rfl rfl rfl rfl (by rw [hz2]; omega) (by unfold maxLen; omega) (Nat.le_refl _) ?_; intro w6 hown hgrow; rw [Ct.zeros_made] at hown; have A6 : AI w6 w5.heap.size (sl w5.heap.size n n) n := ⟨Ct.zeros n, Ct.zeros_len n, hown⟩; have G6 : Below w5.heap.size w5 w6 := (Below.refl _ _).grown hgrow (Nat.le_refl _) (fun k hk => by cases hk); have S6 : Hid (PS r w1 w B (.slice na n nc) (.slice va m vc) (sl g3 n rc) n m o z w6) := S5.out.up G6; obtain ⟨e0, e1, e2⟩ := id S6.out.bx; have e3 := S6.out.fz 0; have e4 := S6.out.fz 1; have e5 := S6.out.fz 2)
                have S7 : Hid (PS r w1 w B (.slice na n nc) (sl w5.heap.size n n) (sl g3 n rc) n n 999999999995 999999999995 (put3 w6 B (sl w5.heap.size n n) (.int .i64 999999999995) (.int .i64 999999999995))) := S6.out.rebox (put3_out _ _ _ _ _) (put3_box S6.out.bx _ _ _) (fun j => by unfold put3; simp [S6.out.fz]) (A6.down sz) (fun e => by have := (A6.lt _ e).1; omega) n6 (fun g x1 x2 => by have := (A6.lt _ x1).1; have := (S5.out.an.lt _ x2).2; omega) (fun g x1 x2 => by have := (A6.lt _ x1).1; have := (S5.out.a3.lt _ x2).2; omega)
                obtain ⟨w7, hw7⟩ : ∃ q : World, q = ((w6.setCell ⟨B, 0, none⟩ (.slice (some ⟨w5.heap.size, 0, none⟩) n n)).setCell ⟨B, 1, none⟩ (.int .i64 999999999995)).setCell ⟨B, 2, none⟩ (.int .i64 999999999995) := ⟨_, rfl⟩
                have S7' : Hid (PS r w1 w B (.slice na n nc) (sl w5.heap.size n n) (sl g3 n rc) n n 999999999995 999999999995 w7) := (by show PS _ _ _ _ _ _ _ _ _ _ _ _; rw [hw7]; exact S7.out)
                rw [← hw7]
                clear hw7 S7 S6 A6 G6 hown hgrow e0 e1 e2 e3 e4 e5 b0 b1 b2
                go_upto_region 19 with (at_make; refine wpList_make_full _ rfl _ _ 24 rfl w7.heap.size 2 i0 (.int .i64 0) 1 Try.underlying24 hi hz0 hz1 .i64 .i64 (n : Int) (n : Int) n rfl rfl rfl rfl (by rw [hz2]; omega) (by unfold maxLen; omega) (Nat.le_refl _) ?_; intro w8 hown hgrow)
                rw [Ct.zeros_made] at hown
                have S8 : Hid (PS r w1 w B (.slice na n nc) (sl w5.heap.size n n) (sl w7.heap.size n n) n n 999999999995 999999999995 w8) := (by
                  have A8 : AI w8 w7.heap.size (sl w7.heap.size n n) n := ⟨Ct.zeros n, Ct.zeros_len n, hown⟩
                  have G8 : Below w7.heap.size w7 w8 := (Below.refl _ _).grown hgrow (Nat.le_refl _) (fun k hk => by cases hk)
                  have q := S7'.out.up G8
                  have l7 := S7'.out.lt
                  exact { q with a3 := A8.down S7'.out.kt.tn.size, n3 := fun e => (by have := (A8.lt _ e).1; omega), q3 := fun g x1 x2 => (by have := (A8.lt _ x2).1; have := (S7'.out.a2.lt _ x1).2; omega) })
                have l7 := S7'.out.lt
                have t7 := S7'.out.kt.tn.size
                clear S7' hown hgrow
                go_wp2_with fail
                refine (below_any r _ S8.out.kt.rd 2 (by omega) (by omega)).mono ?_
                rintro e w9 ⟨⟨y, ⟨hy1, hy2⟩, rfl⟩, k9, t9⟩
                have S9 := S8.out.turn k9 t9
                obtain ⟨x, cx, fx⟩ := S9.a3.get 0 h1
                have SA : Hid (∀ q, FL w B (.slice na n nc) (sl w5.heap.size n n) (sl w7.heap.size n n) 999999999995 999999999995 (w9.setCell ⟨w7.heap.size, 0, none⟩ (.int .i64 q))) := fun q => (S9.put t7 (by omega) 0 q).fl
                clear S8 S9 k9 t9 S5
                go_wp2_with fail
                go_meet
                exact ⟨_, _, _, SA.out _⟩
              · have d0 : (u == 0) = false := by simpa using u0
                have d1 : (u == 1) = false := by simpa using u1
                have d2 : (u == 2) = false := by simpa using u2
                have d3 : (u == 3) = false := by simpa using u3
                have d4 : (u == 4) = false := by simpa using u4
                go_wp2_with fail
                go_meet
                exact ⟨_, _, _, S5.out.fl⟩
    case rest =>
      obtain ⟨v2', o', z', F⟩ := hcut
      obtain ⟨b0, b1, b2⟩ := id F.out.bx
      obtain ⟨⟨u0, u1, u2, c0, c1, c2⟩, cf⟩ := F.out.rc
      have f0 := cf 0
      have f1 := cf 1
      have f2 := cf 2
      obtain ⟨WL, _, wr2, _⟩ := F.out.r2
      obtain ⟨va2, vc2, rfl⟩ := wr2.form
      obtain ⟨RL, _, rr2, _⟩ := F.out.r3
      obtain ⟨ra2, rc2, rfl⟩ := rr2.form
      go_upto_region 20 with fail
      go_region
      all_goals
        go_wp2_with fail
        refine bodyPost_ret (v := .tuple #[.slice na n nc, Bk.sv o' z' (.slice va2 WL.length vc2), .slice ra2 RL.length rc2]) (by simp [results, Try.results5, go_sem, c0, c1, c2]) rfl (F.out.told ?_)
        exact told_out _ _ _ _ _
end Go.Proofs.Ytjhoagbcfpbelaa.Xa
