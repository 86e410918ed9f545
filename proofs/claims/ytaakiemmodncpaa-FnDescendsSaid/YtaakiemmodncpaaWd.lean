/- A problem and a point drawn of a code. -/
import Derived.Test.YtaakiemmodncpaaWc
namespace Go.Proofs.Ytaakiemmodncpaa.Wa
open Go.ChangeShapes Go.WideShapes Go.ChangeAt Go.RowKit
open Go.Proofs.Ytaakiemmodncpaa.Lists Go.Proofs.Ytaakiemmodncpaa.Mk Go.Proofs.Ytaakiemmodncpaa.Rd Go.Proofs.Ytaakiemmodncpaa.Cf

theorem ri_first {w : World} {B n g c : Nat} {us : Nat → Value} {ls : Nat → Nat} (h : RI w B (.slice (some ⟨g, 0, none⟩) n c) n us ls) (h0 : 0 < n) : (∃ z : Int, w.cell? ⟨g, 2, none⟩ = some (.int .i64 z)) ∧ w.frozen? ⟨g, 2, none⟩ = false ∧ w.cell? ⟨g, 0, none⟩ = some (us 0) ∧ (∃ z : Int, w.cell? ⟨g, 1, none⟩ = some (.int .i64 z)) ∧ g < w.heap.size := by
  obtain ⟨⟨xs, h1, h2⟩, _⟩ := h
  obtain ⟨a, ⟨y, hy⟩, ⟨z, hz⟩⟩ := h2 0 h0
  exact ⟨⟨z, by rw [h1.cellAt 2 (by omega)]; exact hz⟩, h1.frozenAt 2, by rw [h1.cellAt 0 (by omega)]; exact a, ⟨y, by rw [h1.cellAt 1 (by omega)]; exact hy⟩, (h1.lt g rfl).2⟩
/-- a drawn problem with its point, behind the draw -/
structure DQ (r : Nat) (w : World) (n : Int) (g t rv x : Value) (w' : World) : Prop where
  rd : Rd r w'
  tu : Turn r w w'
  ag : ∃ k, AI w' w.heap.size g k
  at' : ∃ k, AI w' w.heap.size t k
  rm : ∃ k us ls, RI w' w.heap.size rv k us ls
  ax : ∃ k, AI w' w.heap.size x k
def lenAt (w : World) (b : Nat) : Nat := match w.cell? ⟨b, 3, none⟩ with
  | some (.slice _ n _) => n
  | _ => 0
def QR (r : Nat) (w : World) (qb : Nat) (v : Value) (wx : World) : Prop := ∃ n g t rv ng nt nr nx us ls, 1 ≤ nr ∧ QB r w qb n g t rv v ng nt nr nx us ls wx
/-- what the walk keeps behind the first draws -/
def QE (r : Nat) (w : World) (qb : Nat) (v : Value) (wx : World) : Prop := ∃ n g t rv ng nt nr nx us ls, QB r w qb n g t rv v ng nt nr nx us ls wx
set_option maxRecDepth 20000 in
set_option maxHeartbeats 4000000 in
theorem draw_any (r : Nat) (w : World) (h : Rd r w) :
    Calls Try.prog 40 #[.pointer (some ⟨r, 0, none⟩)] w fun e w' => ∃ n g t rv x, e = .returned (.tuple #[Pb.pv n g t rv, x]) ∧ DQ r w n g t rv x w' := by
  have hr := h.lt
  obtain ⟨i0, hi, hz0, hz1, hz2⟩ := info_parts Lists.Try.info2
  obtain ⟨t0, ht, tz0, tz1, tz2⟩ := info_parts infoM
  obtain ⟨w0, hw0⟩ : ∃ w0, w0 = w.alloc (.cells #[.int .i64 0, .slice none 0 0, .slice none 0 0, .slice none 0 0] 32) := ⟨_, rfl⟩
  have HW0 : Hid (w0 = w.alloc (.cells #[.int .i64 0, .slice none 0 0, .slice none 0 0, .slice none 0 0] 32)) := hw0
  have R0 : Hid (Bl w0 w.heap.size 32 #[.int .i64 0, nilL, nilL, nilL]) := (by show Bl _ _ _ _; rw [hw0]; exact Bl.new w 32 _)
  have B0 : Below w.heap.size w w0 := by rw [hw0]; exact (Below.refl _ _).alloc (Nat.le_refl _) _
  have K0 : Hid (Rd r w0 ∧ Turn r w w0 ∧ w0.heap.size = w.heap.size + 1) := ⟨h.kept B0 hr, Turn.of B0 (Nat.le_refl _) (Nat.le_of_lt hr), by rw [hw0]; simp⟩
  clear hw0 B0
  go_enter Try.func40, Try.ntmps40
  go_upto_region 1 with fail
  rw [← HW0.out]
  clear HW0 h
  go_wp2_with fail
  refine (problem_any r w0 K0.out.1).mono ?_
  rintro e w1 ⟨n, g, t, rv, rfl, ng, nr, us, ls, D⟩
  have hn1 := D.n1
  have hn4 := D.n4
  have hr1 := D.r1
  have hr8 := D.r8
  have HN : Hid (n = (ng : Int)) := D.hn
  have HL : Hid (∀ i, i < nr → ls i = ng) := D.l1
  obtain ⟨qb, hqb⟩ : ∃ y, y = w1.heap.size := ⟨_, rfl⟩
  have HQB : Hid (qb = w1.heap.size) := hqb
  obtain ⟨w2, hw2⟩ : ∃ y, y = (w1.alloc (.cells #[.int .i64 n, g, t, rv] 32)).alloc (.cells #[] 2) := ⟨_, rfl⟩
  have HW2 : Hid (w2 = (w1.alloc (.cells #[.int .i64 n, g, t, rv] 32)).alloc (.cells #[] 2)) := hw2
  have S2 : Hid (QB r w qb n g t rv (.slice (some ⟨qb + 1, 0, none⟩) 0 0) ng ng nr 0 us ls w2) := (by
    have z1 := D.tu.size
    have z0 := K0.out.2.2
    have b2 : Below w1.heap.size w1 w2 := by rw [hw2]; exact ((Below.refl _ _).alloc (Nat.le_refl _) _).alloc (by simp) _
    refine ⟨D.rd.kept b2 D.rd.lt, (K0.out.2.1.trans D.tu).trans (Turn.of b2 (Nat.le_refl _) (Nat.le_of_lt D.rd.lt)), by omega, (R0.out.kv (turn_kv D.tu) (by omega)).on b2, ?_, (D.ag.down (by omega)).on b2, (D.at'.down (by omega)).on b2, (D.rm.down (by omega)).on b2, ?_, fun b hb => by have := (D.ag.lt b hb).2; omega, fun b hb => by have := (D.at'.lt b hb).2; omega, fun i hi b hb => by have := ((D.rm.2 i hi).lt b hb).2; omega⟩
    · rw [hw2, hqb]
      exact (Bl.new w1 32 _).on ((Below.refl _ _).alloc (Nat.le_refl _) _)
    · rw [hw2, hqb, show w1.heap.size + 1 = (w1.alloc (.cells #[.int .i64 n, g, t, rv] 32)).heap.size by simp]
      exact ⟨[], rfl, empty_row 2⟩)
  obtain ⟨ga, gc, hg⟩ := AI.form D.ag
  obtain ⟨ta, tc, ht'⟩ := AI.form D.at'
  obtain ⟨sa, sc, hv⟩ : ∃ sa sc, rv = .slice sa nr sc := by obtain ⟨⟨xs, hx, _⟩, _⟩ := D.rm; exact row_form hx
  subst hg ht' hv
  clear hw2 hqb K0 R0 D
  go_upto_region 3 with fail
  rw [← HW2.out, ← HQB.out]
  clear HW2 HQB
  go_wp2_with fail
  go_loopw [5, 6] (fun v c wr => ∃ (k : Nat), k ≤ ng ∧ c = .int .i64 k ∧ Hid (QB r w qb n (.slice ga ng gc) (.slice ta ng tc) (.slice sa nr sc) v ng ng nr k us ls wr)) (fun _ c _ => ng - (intOf c).toNat)
  case atStart => exact ⟨0, Nat.zero_le _, rfl, S2⟩
  case round =>
    clear S2
    obtain ⟨k, hk, rfl, S⟩ := hrel
    have g0 : wr.cell? ⟨qb, 0, none⟩ = some (.int .i64 n) := by rw [S.out.bx.cell]; rfl
    rw [HN.out] at g0
    by_cases hlt : k < ng
    · have i2 : (k : Int) < (ng : Int) := by omega
      go_wp2_with fail
      refine (below_any r wr S.out.rd 600 (by omega) (by omega)).mono ?_
      rintro e w4 ⟨⟨u, ⟨hu1, hu2⟩, rfl⟩, k4, t4⟩
      have S4 : Hid (QB r w qb n (.slice ga ng gc) (.slice ta ng tc) (.slice sa nr sc) u5 ng ng nr k us ls w4) := S.out.turn hr k4 t4
      have wu : IntKind.i64.wrap (u - 300) = u - 300 := IntWalk.i64_in _ (by omega)
      obtain ⟨LX, lx, ox⟩ := S4.out.ax
      have LXH : Hid (LX.length = k) := lx
      have OX : Hid (w4.ownsRow (qb + 1) 2 1 u5 k (ints LX)) := ox
      have z4 := S4.out.bx.lt
      obtain ⟨xa, xc, hx⟩ := AI.form S4.out.ax
      subst hx
      clear k4 t4 S lx ox hu1 hu2 g0
      go_wp2_with (at_builtin; refine wpList_append_own _ rfl _ _ 22 rfl (qb + 1) 2 i0 (.int .i64 0) 1 8 Try.underlying22 hi hz0 hz1 hz2 rfl (by decide) _ _ _ rfl (OX.out.alloc _) ⟨w4.heap.size, 0, none⟩ 1 1 [.int .i64 (u - 300)] rfl rfl (cell_new w4 _ 2) (one_int _) (by unfold maxLen; omega) (by omega) (by simp; omega) ?_)
      intro v' w7 hown hgrow hnil7
      have S7 : Hid (QB r w qb n (.slice ga ng gc) (.slice ta ng tc) (.slice sa nr sc) v' ng ng nr (k + 1) us ls w7) := S4.out.appX hr LXH.out hgrow hown
      clear hown hgrow hnil7
      go_wp2_with fail
      go_roundw
      case rel => exact ⟨k + 1, by omega, by go_num, S7⟩
      case measure => simp [intOf]; omega
    · have hkn : k = ng := by omega
      subst hkn
      have i2 : ¬ (k : Int) < (k : Int) := by omega
      go_wp2_with fail
      refine (below_any r wr S.out.rd 30 (by omega) (by omega)).mono ?_
      rintro e w4 ⟨⟨u, ⟨hu1, hu2⟩, rfl⟩, k4, t4⟩
      have S1 : Hid (QB r w qb n (.slice ga k gc) (.slice ta k tc) (.slice sa nr sc) u5 k k nr k us ls w4) := S.out.turn hr k4 t4
      clear k4 t4 S g0
      obtain ⟨bg, cg, hg', gl1, gl2⟩ := ai_some S1.out.ag hn1
      obtain ⟨bt, ct, ht', tl1, tl2⟩ := ai_some S1.out.at' hn1
      obtain ⟨bx, cx, hx', xl1, xl2⟩ := ai_some S1.out.ax hn1
      obtain ⟨br, cr, hv', _, _, rl1, rl2⟩ : ∃ br cr, Value.slice sa nr sc = .slice (some ⟨br, 0, none⟩) nr cr ∧ True ∧ True ∧ nr ≤ cr ∧ cr ≤ maxLen := by
        obtain ⟨⟨xs, hx, _⟩, _⟩ := S1.out.rm
        rcases Mo.row_cases hx with ⟨h, _⟩ | ⟨b, c, h1, _, _, h2, h3⟩
        · omega
        · exact ⟨b, c, h1, trivial, trivial, h2, h3⟩
      rw [hg', ht', hv'] at S1
      subst hx'
      clear hg' ht' hv'
      have QW : Hid (∀ wx, QB r w qb n (.slice (some ⟨bg, 0, none⟩) k cg) (.slice (some ⟨bt, 0, none⟩) k ct) (.slice (some ⟨br, 0, none⟩) nr cr) (.slice (some ⟨bx, 0, none⟩) k cx) k k nr k us ls wx → wx.cell? ⟨qb, 0, none⟩ = some (.int .i64 n) ∧ wx.cell? ⟨qb, 1, none⟩ = some (.slice (some ⟨bg, 0, none⟩) k cg) ∧ wx.cell? ⟨qb, 2, none⟩ = some (.slice (some ⟨bt, 0, none⟩) k ct) ∧ wx.cell? ⟨qb, 3, none⟩ = some (.slice (some ⟨br, 0, none⟩) nr cr) ∧ qb < wx.heap.size) := fun wx hq => ⟨by rw [hq.bx.cell]; rfl, by rw [hq.bx.cell]; rfl, by rw [hq.bx.cell]; rfl, by rw [hq.bx.cell]; rfl, hq.bx.lt⟩
      have rb : r < w4.heap.size := S1.out.rd.lt
      obtain ⟨g0, g1, g2, g3, g4⟩ := QW.out w4 S1.out
      have wN : ∀ z : Int, True := fun _ => trivial
      go_upto_block 2 with fail
      go_cut [5] (fun v wx => Hid (QE r w qb v wx))
      case first =>
        by_cases hu : u = 0
        · subst hu
          have wn : IntKind.i64.wrap (n + 1) = n + 1 := IntWalk.i64_in _ (by have := HN.out; omega)
          have KA : Hid (QB r w qb n (.slice (some ⟨bg, 0, none⟩) k cg) (.slice (some ⟨bt, 0, none⟩) k ct) (.slice (some ⟨br, 0, none⟩) nr cr) (.slice (some ⟨bx, 0, none⟩) k cx) k k nr k us ls (w4.alloc (Obj.cells #[.int .i64 0, .int .i64 7, .int .i64 (n + 1)] 2)).drew) := (S1.out.alloc hr _).drew hr
          go_upto_region 9 with fail
          go_region_with ((go_at_call 41; first
            | (refine (below_any r _ KA.out.rd 3 (by omega) (by omega)).mono ?_; rintro e w5 ⟨⟨z, ⟨hz1, hz2⟩, rfl⟩, k6, t5⟩; have hz3 : z < 3 := hz2; obtain ⟨q, hq⟩ := pick3 (0) (7) ((n + 1)) z hz1 hz3; have T1 : Hid (QB r w qb n (.slice (some ⟨bg, 0, none⟩) k cg) (.slice (some ⟨bt, 0, none⟩) k ct) (.slice (some ⟨br, 0, none⟩) nr cr) (.slice (some ⟨bx, 0, none⟩) k cx) k k nr k us ls w5) := KA.out.turn hr k6 t5; have c0 : w5.cell? ⟨w4.heap.size, z.toNat, none⟩ = some (.int .i64 q) := (t5.cell _ (by simp) (by omega)).trans (hq w4); obtain ⟨p0, p1, p2, p3, p4⟩ := QW.out w5 T1.out; have f0 := T1.out.bx.fz 0; clear hq hz2)
            | (refine (below_any r _ (S1.out.drew hr).rd 3 (by omega) (by omega)).mono ?_; rintro e w5 ⟨⟨z, ⟨hz1, hz2⟩, rfl⟩, k6, t5⟩; have hz3 : z < 3 := hz2; obtain ⟨q, hq⟩ := pick3 (0) (7) ((n + 1)) z hz1 hz3; have c0 := hq w5; have T0 : Hid (QB r w qb n (.slice (some ⟨bg, 0, none⟩) k cg) (.slice (some ⟨bt, 0, none⟩) k ct) (.slice (some ⟨br, 0, none⟩) nr cr) (.slice (some ⟨bx, 0, none⟩) k cx) k k nr k us ls w5) := (S1.out.drew hr).turn hr k6 t5; obtain ⟨p0, p1, p2, p3, p4⟩ := QW.out w5 T0.out; have f0 := T0.out.bx.fz 0; clear hq hz2)))
          all_goals
            go_wp2_with fail
            go_meet
            first
              | exact ⟨_, _, _, _, _, _, _, _, _, _, T1.out.setN hr q⟩
              | exact ⟨_, _, _, _, _, _, _, _, _, _, (T0.out.setN hr q).alloc hr _⟩
        by_cases hu : u = 1
        · subst hu
          obtain ⟨⟨zx, x0⟩, x1, x2⟩ := ai_first S1.out.at' hn1
          have KA : Hid (QB r w qb n (.slice (some ⟨bg, 0, none⟩) k cg) (.slice (some ⟨bt, 0, none⟩) k ct) (.slice (some ⟨br, 0, none⟩) nr cr) (.slice (some ⟨bx, 0, none⟩) k cx) k k nr k us ls (w4.alloc (Obj.cells #[.int .i64 0, .int .i64 5, .int .i64 6] 2)).drew) := (S1.out.alloc hr _).drew hr
          go_upto_region 11 with fail
          go_region_with ((go_at_call 41; first
            | (refine (below_any r _ KA.out.rd 3 (by omega) (by omega)).mono ?_; rintro e w5 ⟨⟨z, ⟨hz1, hz2⟩, rfl⟩, k6, t5⟩; have hz3 : z < 3 := hz2; obtain ⟨q, hq⟩ := pick3 (0) (5) (6) z hz1 hz3; have T1 : Hid (QB r w qb n (.slice (some ⟨bg, 0, none⟩) k cg) (.slice (some ⟨bt, 0, none⟩) k ct) (.slice (some ⟨br, 0, none⟩) nr cr) (.slice (some ⟨bx, 0, none⟩) k cx) k k nr k us ls w5) := KA.out.turn hr k6 t5; have c0 : w5.cell? ⟨w4.heap.size, z.toNat, none⟩ = some (.int .i64 q) := (t5.cell _ (by simp) (by omega)).trans (hq w4); obtain ⟨p0, p1, p2, p3, p4⟩ := QW.out w5 T1.out; obtain ⟨⟨zz, y0⟩, y1, y2⟩ := ai_first T1.out.at' hn1; clear hq hz2)
            | (refine (below_any r _ (S1.out.drew hr).rd 3 (by omega) (by omega)).mono ?_; rintro e w5 ⟨⟨z, ⟨hz1, hz2⟩, rfl⟩, k6, t5⟩; have hz3 : z < 3 := hz2; obtain ⟨q, hq⟩ := pick3 (0) (5) (6) z hz1 hz3; have c0 := hq w5; have T0 : Hid (QB r w qb n (.slice (some ⟨bg, 0, none⟩) k cg) (.slice (some ⟨bt, 0, none⟩) k ct) (.slice (some ⟨br, 0, none⟩) nr cr) (.slice (some ⟨bx, 0, none⟩) k cx) k k nr k us ls w5) := (S1.out.drew hr).turn hr k6 t5; obtain ⟨p0, p1, p2, p3, p4⟩ := QW.out w5 T0.out; obtain ⟨⟨zz, y0⟩, y1, y2⟩ := ai_first T0.out.at' hn1; clear hq hz2)))
          all_goals
            go_wp2_with fail
            go_meet
            first
              | exact ⟨_, _, _, _, _, _, _, _, _, _, T1.out.int hr T1.out.at' (Nat.le_refl _) rfl 0 q⟩
              | exact ⟨_, _, _, _, _, _, _, _, _, _, (T0.out.int hr T0.out.at' (Nat.le_refl _) rfl 0 q).alloc hr _⟩
        by_cases hu : u = 2
        · subst hu
          obtain ⟨⟨zx, x0⟩, x1, x2⟩ := ai_first S1.out.ag hn1
          have KA : Hid (QB r w qb n (.slice (some ⟨bg, 0, none⟩) k cg) (.slice (some ⟨bt, 0, none⟩) k ct) (.slice (some ⟨br, 0, none⟩) nr cr) (.slice (some ⟨bx, 0, none⟩) k cx) k k nr k us ls (w4.alloc (Obj.cells #[.int .i64 500, .int .i64 501, .int .i64 (-501)] 2)).drew) := (S1.out.alloc hr _).drew hr
          go_upto_region 13 with fail
          go_region_with ((go_at_call 41; first
            | (refine (below_any r _ KA.out.rd 3 (by omega) (by omega)).mono ?_; rintro e w5 ⟨⟨z, ⟨hz1, hz2⟩, rfl⟩, k6, t5⟩; have hz3 : z < 3 := hz2; obtain ⟨q, hq⟩ := pick3 (500) (501) ((-501)) z hz1 hz3; have T1 : Hid (QB r w qb n (.slice (some ⟨bg, 0, none⟩) k cg) (.slice (some ⟨bt, 0, none⟩) k ct) (.slice (some ⟨br, 0, none⟩) nr cr) (.slice (some ⟨bx, 0, none⟩) k cx) k k nr k us ls w5) := KA.out.turn hr k6 t5; have c0 : w5.cell? ⟨w4.heap.size, z.toNat, none⟩ = some (.int .i64 q) := (t5.cell _ (by simp) (by omega)).trans (hq w4); obtain ⟨p0, p1, p2, p3, p4⟩ := QW.out w5 T1.out; obtain ⟨⟨zz, y0⟩, y1, y2⟩ := ai_first T1.out.ag hn1; clear hq hz2)
            | (refine (below_any r _ (S1.out.drew hr).rd 3 (by omega) (by omega)).mono ?_; rintro e w5 ⟨⟨z, ⟨hz1, hz2⟩, rfl⟩, k6, t5⟩; have hz3 : z < 3 := hz2; obtain ⟨q, hq⟩ := pick3 (500) (501) ((-501)) z hz1 hz3; have c0 := hq w5; have T0 : Hid (QB r w qb n (.slice (some ⟨bg, 0, none⟩) k cg) (.slice (some ⟨bt, 0, none⟩) k ct) (.slice (some ⟨br, 0, none⟩) nr cr) (.slice (some ⟨bx, 0, none⟩) k cx) k k nr k us ls w5) := (S1.out.drew hr).turn hr k6 t5; obtain ⟨p0, p1, p2, p3, p4⟩ := QW.out w5 T0.out; obtain ⟨⟨zz, y0⟩, y1, y2⟩ := ai_first T0.out.ag hn1; clear hq hz2)))
          all_goals
            go_wp2_with fail
            go_meet
            first
              | exact ⟨_, _, _, _, _, _, _, _, _, _, T1.out.int hr T1.out.ag (Nat.le_refl _) rfl 0 q⟩
              | exact ⟨_, _, _, _, _, _, _, _, _, _, (T0.out.int hr T0.out.ag (Nat.le_refl _) rfl 0 q).alloc hr _⟩
        by_cases hu : u = 3
        · subst hu
          obtain ⟨⟨zx, x0⟩, x1, x2, x3, x4⟩ := ri_first S1.out.rm hr1
          have KA : Hid (QB r w qb n (.slice (some ⟨bg, 0, none⟩) k cg) (.slice (some ⟨bt, 0, none⟩) k ct) (.slice (some ⟨br, 0, none⟩) nr cr) (.slice (some ⟨bx, 0, none⟩) k cx) k k nr k us ls (w4.alloc (Obj.cells #[.int .i64 0, .int .i64 5, .int .i64 6] 2)).drew) := (S1.out.alloc hr _).drew hr
          go_upto_region 15 with fail
          go_region_with ((go_at_call 41; first
            | (refine (below_any r _ KA.out.rd 3 (by omega) (by omega)).mono ?_; rintro e w5 ⟨⟨z, ⟨hz1, hz2⟩, rfl⟩, k6, t5⟩; have hz3 : z < 3 := hz2; obtain ⟨q, hq⟩ := pick3 (0) (5) (6) z hz1 hz3; have T1 : Hid (QB r w qb n (.slice (some ⟨bg, 0, none⟩) k cg) (.slice (some ⟨bt, 0, none⟩) k ct) (.slice (some ⟨br, 0, none⟩) nr cr) (.slice (some ⟨bx, 0, none⟩) k cx) k k nr k us ls w5) := KA.out.turn hr k6 t5; have c0 : w5.cell? ⟨w4.heap.size, z.toNat, none⟩ = some (.int .i64 q) := (t5.cell _ (by simp) (by omega)).trans (hq w4); obtain ⟨p0, p1, p2, p3, p4⟩ := QW.out w5 T1.out; obtain ⟨⟨zz, y0⟩, y1, y2, y3, y4⟩ := ri_first T1.out.rm hr1; clear hq hz2)
            | (refine (below_any r _ (S1.out.drew hr).rd 3 (by omega) (by omega)).mono ?_; rintro e w5 ⟨⟨z, ⟨hz1, hz2⟩, rfl⟩, k6, t5⟩; have hz3 : z < 3 := hz2; obtain ⟨q, hq⟩ := pick3 (0) (5) (6) z hz1 hz3; have c0 := hq w5; have T0 : Hid (QB r w qb n (.slice (some ⟨bg, 0, none⟩) k cg) (.slice (some ⟨bt, 0, none⟩) k ct) (.slice (some ⟨br, 0, none⟩) nr cr) (.slice (some ⟨bx, 0, none⟩) k cx) k k nr k us ls w5) := (S1.out.drew hr).turn hr k6 t5; obtain ⟨p0, p1, p2, p3, p4⟩ := QW.out w5 T0.out; obtain ⟨⟨zz, y0⟩, y1, y2, y3, y4⟩ := ri_first T0.out.rm hr1; clear hq hz2)))
          all_goals
            go_wp2_with fail
            go_meet
            first
              | exact ⟨_, _, _, _, _, _, _, _, _, _, T1.out.setW hr q⟩
              | exact ⟨_, _, _, _, _, _, _, _, _, _, (T0.out.setW hr q).alloc hr _⟩
        by_cases hu : u = 4
        · subst hu
          obtain ⟨bu, cu, hu', ul1, ul2⟩ := ai_some (n := k) (by have := S1.out.rm.2 0 hr1; rw [HL.out 0 hr1] at this; exact this) hn1
          have HU : Hid (us 0 = .slice (some ⟨bu, 0, none⟩) k cu) := hu'
          have HU1 : Hid (∀ wx, QB r w qb n (.slice (some ⟨bg, 0, none⟩) k cg) (.slice (some ⟨bt, 0, none⟩) k ct) (.slice (some ⟨br, 0, none⟩) nr cr) (.slice (some ⟨bx, 0, none⟩) k cx) k k nr k us ls wx → AI wx (w.heap.size + 1) (.slice (some ⟨bu, 0, none⟩) k cu) k) := fun wx hq => by have := hq.rm.2 0 hr1; rw [HL.out 0 hr1, HU.out] at this; exact this
          obtain ⟨⟨zx, x0⟩, x1, x2⟩ := ai_first (HU1.out w4 S1.out) hn1
          obtain ⟨_, _, x5, _, x6⟩ := ri_first S1.out.rm hr1
          rw [hu'] at x5
          have hr1' : 0 < nr := hr1
          have hn1' : 0 < k := hn1
          clear hu'
          have KA : Hid (QB r w qb n (.slice (some ⟨bg, 0, none⟩) k cg) (.slice (some ⟨bt, 0, none⟩) k ct) (.slice (some ⟨br, 0, none⟩) nr cr) (.slice (some ⟨bx, 0, none⟩) k cx) k k nr k us ls (w4.alloc (Obj.cells #[.int .i64 5, .int .i64 6, .int .i64 (-6)] 2)).drew) := (S1.out.alloc hr _).drew hr
          go_upto_region 17 with fail
          go_region_with ((go_at_call 41; first
            | (refine (below_any r _ KA.out.rd 3 (by omega) (by omega)).mono ?_; rintro e w5 ⟨⟨z, ⟨hz1, hz2⟩, rfl⟩, k6, t5⟩; have hz3 : z < 3 := hz2; obtain ⟨q, hq⟩ := pick3 (5) (6) ((-6)) z hz1 hz3; have T1 : Hid (QB r w qb n (.slice (some ⟨bg, 0, none⟩) k cg) (.slice (some ⟨bt, 0, none⟩) k ct) (.slice (some ⟨br, 0, none⟩) nr cr) (.slice (some ⟨bx, 0, none⟩) k cx) k k nr k us ls w5) := KA.out.turn hr k6 t5; have c0 : w5.cell? ⟨w4.heap.size, z.toNat, none⟩ = some (.int .i64 q) := (t5.cell _ (by simp) (by omega)).trans (hq w4); obtain ⟨p0, p1, p2, p3, p4⟩ := QW.out w5 T1.out; obtain ⟨⟨zz, y0⟩, y1, y2⟩ := ai_first (HU1.out w5 T1.out) hn1; obtain ⟨_, _, v2, _, v4⟩ := ri_first T1.out.rm hr1; rw [HU.out] at v2; clear hq hz2)
            | (refine (below_any r _ (S1.out.drew hr).rd 3 (by omega) (by omega)).mono ?_; rintro e w5 ⟨⟨z, ⟨hz1, hz2⟩, rfl⟩, k6, t5⟩; have hz3 : z < 3 := hz2; obtain ⟨q, hq⟩ := pick3 (5) (6) ((-6)) z hz1 hz3; have c0 := hq w5; have T0 : Hid (QB r w qb n (.slice (some ⟨bg, 0, none⟩) k cg) (.slice (some ⟨bt, 0, none⟩) k ct) (.slice (some ⟨br, 0, none⟩) nr cr) (.slice (some ⟨bx, 0, none⟩) k cx) k k nr k us ls w5) := (S1.out.drew hr).turn hr k6 t5; obtain ⟨p0, p1, p2, p3, p4⟩ := QW.out w5 T0.out; obtain ⟨⟨zz, y0⟩, y1, y2⟩ := ai_first (HU1.out w5 T0.out) hn1; obtain ⟨_, _, v2, _, v4⟩ := ri_first T0.out.rm hr1; rw [HU.out] at v2; clear hq hz2)))
          all_goals
            go_wp2_with fail
            go_meet
            first
              | exact ⟨_, _, _, _, _, _, _, _, _, _, T1.out.int hr (HU1.out w5 T1.out) (Nat.le_refl _) rfl 0 q⟩
              | exact ⟨_, _, _, _, _, _, _, _, _, _, (T0.out.int hr (HU1.out w5 T0.out) (Nat.le_refl _) rfl 0 q).alloc hr _⟩
        by_cases hu : u = 5
        · subst hu
          have KA : Hid (QB r w qb n (.slice (some ⟨bg, 0, none⟩) k cg) (.slice (some ⟨bt, 0, none⟩) k ct) (.slice (some ⟨br, 0, none⟩) nr cr) (.slice (some ⟨bx, 0, none⟩) k cx) k k nr k us ls (w4.alloc (Obj.cells #[.int .i64 500, .int .i64 501, .int .i64 200000, .int .i64 200001, .int .i64 (-500)] 2))) := S1.out.alloc hr _
          go_wp2_with fail
          refine (below_any r _ KA.out.rd 5 (by omega) (by omega)).mono ?_
          rintro e w5 ⟨⟨z, ⟨hz1, hz2⟩, rfl⟩, k6, t5⟩
          have hz3 : z < 5 := hz2
          obtain ⟨q, hq⟩ := pick5 500 501 200000 200001 (-500) z hz1 hz3
          have T1 : Hid (QB r w qb n (.slice (some ⟨bg, 0, none⟩) k cg) (.slice (some ⟨bt, 0, none⟩) k ct) (.slice (some ⟨br, 0, none⟩) nr cr) (.slice (some ⟨bx, 0, none⟩) k cx) k k nr k us ls w5) := KA.out.turn hr k6 t5
          have c0 : w5.cell? ⟨w4.heap.size, z.toNat, none⟩ = some (.int .i64 q) := (t5.cell _ (by simp) (by omega)).trans (hq w4)
          obtain ⟨⟨zz, y0⟩, y1, y2⟩ := ai_first T1.out.ax hn1
          clear hq hz2 k6 t5
          go_wp2_with fail
          go_meet
          exact ⟨_, _, _, _, _, _, _, _, _, _, T1.out.int hr T1.out.ax (by have := S1.out.lo; omega) rfl 0 q⟩
        by_cases hu : u = 6
        · subst hu
          obtain ⟨LX, lx, ox⟩ := S1.out.ax
          have LXH : Hid (LX.length = k) := lx
          have OX : Hid (w4.ownsRow (qb + 1) 2 1 (.slice (some ⟨bx, 0, none⟩) k cx) k (ints LX)) := ox
          clear lx ox
          go_wp2_with (at_builtin; refine wpList_append_own _ rfl _ _ 22 rfl (qb + 1) 2 i0 (.int .i64 0) 1 8 Try.underlying22 hi hz0 hz1 hz2 rfl (by decide) _ _ _ rfl (OX.out.alloc _) ⟨w4.heap.size, 0, none⟩ 1 1 [.int .i64 0] rfl rfl (cell_new w4 _ 2) (one_int _) (by unfold maxLen; omega) (by omega) (by simp; omega) ?_)
          intro v' w7 hown hgrow hnil7
          have S7 := S1.out.appX hr LXH.out hgrow hown
          clear hown hgrow hnil7
          go_wp2_with fail
          go_meet
          exact ⟨_, _, _, _, _, _, _, _, _, _, S7⟩
        by_cases hu : u = 7
        · subst hu
          clear hu1 hu2
          go_wp2_with fail
          refine (below_any r _ S1.out.rd 2 (by omega) (by omega)).mono ?_
          rintro e w5 ⟨⟨z, ⟨hz1, hz2⟩, rfl⟩, k6, t5⟩
          obtain ⟨m, hm⟩ : ∃ m : Nat, 20 + z = (m : Int) := ⟨(20 + z).toNat, by omega⟩
          have hm21 : m ≤ 21 := by omega
          have T1 : Hid (QB r w qb n (.slice (some ⟨bg, 0, none⟩) k cg) (.slice (some ⟨bt, 0, none⟩) k ct) (.slice (some ⟨br, 0, none⟩) nr cr) (.slice (some ⟨bx, 0, none⟩) k cx) k k nr k us ls w5) := S1.out.turn hr k6 t5
          clear k6 t5
          have T7 : Hid (QR r w qb (.slice (some ⟨bx, 0, none⟩) k cx) w5) := ⟨_, _, _, _, _, _, _, _, _, _, hr1, T1.out⟩
          clear T1 S1 g0 g1 g2 g3 g4 QW HL HN hr1 hr8 gl1 gl2 tl1 tl2 rl1 rl2
          go_wp2_with fail
          go_loopw [] (fun wr => Hid (QR r w qb (.slice (some ⟨bx, 0, none⟩) k cx) wr)) (fun wr => m - lenAt wr qb)
          case atStart => exact T7
          case round =>
            clear T7
            obtain ⟨n', g', t', rv, ng', nt', nr', nx', us', ls', h0, S⟩ := hrel.out
            have SH : Hid (QB r w qb n' g' t' rv (.slice (some ⟨bx, 0, none⟩) k cx) ng' nt' nr' nx' us' ls' wr) := S
            have H0 : Hid (1 ≤ nr') := h0
            obtain ⟨⟨xs, hx, hgd⟩, hai⟩ := S.rm
            obtain ⟨br', cr', rfl, _, _, q1, q2⟩ : ∃ br' cr', rv = .slice (some ⟨br', 0, none⟩) nr' cr' ∧ True ∧ True ∧ nr' ≤ cr' ∧ cr' ≤ maxLen := by
              rcases Mo.row_cases hx with ⟨h, _⟩ | ⟨b, c, h1, _, _, h2, h3⟩
              · omega
              · exact ⟨b, c, h1, trivial, trivial, h2, h3⟩
            have g3 : wr.cell? ⟨qb, 3, none⟩ = some (.slice (some ⟨br', 0, none⟩) nr' cr') := by rw [S.bx.cell]; rfl
            have LA : Hid (lenAt wr qb = nr') := (by show lenAt wr qb = _; unfold lenAt; rw [g3])
            by_cases hlt : nr' < m
            · have i2 : (nr' : Int) < (m : Int) := by omega
              have i0' : 0 < nr' := h0
              obtain ⟨_, _, y0, ⟨zy, y1⟩, yl⟩ := ri_first S.rm h0
              obtain ⟨⟨zz, y2⟩, _⟩ := ri_first S.rm h0
              have hx0 := (hgd 0 h0).1
              have HX : Hid (wr.ownsRow (w.heap.size + 1) 51 3 (.slice (some ⟨br', 0, none⟩) nr' cr') nr' xs) := hx
              have HG : Hid (∀ i, i < nr' → xs[i * 3]? = some (us' i) ∧ (∃ z : Int, xs[i * 3 + 1]? = some (.int .i64 z)) ∧ ∃ z : Int, xs[i * 3 + 2]? = some (.int .i64 z)) := hgd
              obtain ⟨ua, ul, uc, hu'⟩ : ∃ ua ul uc, us' 0 = .slice ua ul uc := by
                obtain ⟨a, c, h⟩ := AI.form (hai 0 h0)
                exact ⟨a, _, c, h⟩
              have HU : Hid (us' 0 = .slice ua ul uc) := hu'
              rw [hu'] at y0
              have z4 := S.bx.lt
              have lo := S.lo
              have HXA : Hid (∀ o, (wr.alloc o).drew.ownsRow (w.heap.size + 1) 51 3 (.slice (some ⟨br', 0, none⟩) nr' cr') nr' xs) := fun o => Mo.row_below (Mo.row_below hx ((Below.refl _ _).alloc (Nat.le_refl _) o)) (Rd.below_drewN (Below.refl _ _) 1)
              have HXN : Hid (∀ j u, [Value.slice ua ul uc, .int .i64 zy, .int .i64 zz][j]? = some u → (wr.alloc (Obj.cells #[.slice ua ul uc, .int .i64 zy, .int .i64 zz] 51)).drew.cell? ((⟨wr.heap.size, 0, none⟩ : Addr).add j) = some u) := fun j u hj => by have := cell_three wr (.slice ua ul uc) (.int .i64 zy) (.int .i64 zz) 51 j u hj; exact this
              have HAP : Hid (∀ (g5 c5 : Nat) (w5 : World), (wr.alloc (Obj.cells #[.slice ua ul uc, .int .i64 zy, .int .i64 zz] 51)).drew.grownBy w5 (Value.slice (some ⟨br', 0, none⟩) nr' cr').ownBlock → w5.ownsRow (w.heap.size + 1) 51 3 (.slice (some ⟨g5, 0, none⟩) (nr' + 1) c5) (nr' + 1) (xs ++ [.slice ua ul uc, .int .i64 zy, .int .i64 zz]) → (w5.cell? ⟨qb, 3, none⟩ = some (.slice (some ⟨br', 0, none⟩) nr' cr') ∧ w5.frozen? ⟨qb, 3, none⟩ = false) ∧ QR r w qb (.slice (some ⟨bx, 0, none⟩) k cx) (w5.setCell ⟨qb, 3, none⟩ (.slice (some ⟨g5, 0, none⟩) (nr' + 1) c5)) ∧ lenAt (w5.setCell ⟨qb, 3, none⟩ (.slice (some ⟨g5, 0, none⟩) (nr' + 1) c5)) qb = nr' + 1) := fun g5 c5 w5 hg ho => by
                have hg' : (wr.drew.alloc (Obj.cells #[.slice ua ul uc, .int .i64 zy, .int .i64 zz] 51)).grownBy w5 (Value.slice (some ⟨br', 0, none⟩) nr' cr').ownBlock := hg
                have XE' : wr.drew.ownsRow (w.heap.size + 1) 51 3 (.slice (some ⟨br', 0, none⟩) nr' cr') nr' xs := Mo.row_below HX.out (Rd.below_drewN (Below.refl _ _) 1)
                obtain ⟨d, q⟩ := QB.appR (SH.out.drew hr) hr (by have := H0.out; omega) XE' HG.out hg' (by rw [HU.out]; exact ho)
                refine ⟨d, ⟨_, _, _, _, _, _, _, _, _, _, by omega, q⟩, ?_⟩
                unfold lenAt
                rw [q.bx.cell]
                rfl
              clear hx hgd hai hx0 S
              go_upto_region 25 with fail
              go_region_law (refine step_append_lies _ (by rfl) _ _ 30 (by rfl) (w.heap.size + 1) 51 t0 (.agg #[.slice none 0 0, .int .i64 0, .int .i64 0]) 3 40 Try.underlying30 ht tz0 tz1 tz2 rfl (by decide) _ _ _ (by rfl) (HXA.out _) ⟨wr.heap.size, 0, none⟩ 1 1 [.slice ua ul uc, .int .i64 zy, .int .i64 zz] (by rfl) rfl (HXN.out) (by intro u hu; simp at hu; rcases hu with rfl | rfl | rfl <;> rfl) (by decide) (by unfold maxLen; omega) (by omega) (by simp; omega) (wr.heap.size + 1) (by simp) ?_; intro g5 c5 w5 hown hgrow hat hlt5; obtain ⟨⟨d1, d2⟩, T5'⟩ := HAP.out _ _ _ hgrow hown; have T5 : Hid (QR r w qb (.slice (some ⟨bx, 0, none⟩) k cx) (w5.setCell ⟨qb, 3, none⟩ (.slice (some ⟨g5, 0, none⟩) (nr' + 1) c5)) ∧ lenAt (w5.setCell ⟨qb, 3, none⟩ (.slice (some ⟨g5, 0, none⟩) (nr' + 1) c5)) qb = nr' + 1) := T5')
              all_goals
                clear hown hgrow hat hlt5
                go_wp2_with fail
                go_roundw
                case rel => exact T5.out.1
                case measure => have e1 := LA.out; have e2 := T5.out.2; omega
            · have hnm : ¬ (nr' : Int) < (m : Int) := by omega
              have QEE : Hid (QE r w qb (.slice (some ⟨bx, 0, none⟩) k cx) wr) := ⟨_, _, _, _, _, _, _, _, _, _, SH.out⟩
              clear hx hgd hai S
              go_wp2_with fail
              go_meet
              exact QEE
        · go_wp2_with fail
          go_meet
          exact ⟨_, _, _, _, _, _, _, _, _, _, S1.out⟩
      case rest =>
        clear S1 QW g0 g1 g2 g3 g4 HL HN
        obtain ⟨n', g', t', rv, ng', nt', nr', nx', us', ls', S⟩ := hcut.out
        obtain ⟨xa, xc, hx⟩ := AI.form S.ax
        subst hx
        obtain ⟨ga', gc', hg'⟩ := AI.form S.ag
        obtain ⟨ta', tc', ht'⟩ := AI.form S.at'
        obtain ⟨sa', sc', hv'⟩ : ∃ sa sc, rv = .slice sa nr' sc := by obtain ⟨⟨xs, hx, _⟩, _⟩ := S.rm; exact row_form hx
        subst hg' ht' hv'
        have s0 : wc.cell? ⟨qb, 0, none⟩ = some (.int .i64 n') := by rw [S.bx.cell]; rfl
        have s1 : wc.cell? ⟨qb, 1, none⟩ = some (.slice ga' ng' gc') := by rw [S.bx.cell]; rfl
        have s2 : wc.cell? ⟨qb, 2, none⟩ = some (.slice ta' nt' tc') := by rw [S.bx.cell]; rfl
        have s3 : wc.cell? ⟨qb, 3, none⟩ = some (.slice sa' nr' sc') := by rw [S.bx.cell]; rfl
        have q0 : wc.cell? ⟨w.heap.size, 0, none⟩ = some (.int .i64 0) := by rw [S.rb.cell]; rfl
        have q1 : wc.cell? ⟨w.heap.size, 1, none⟩ = some nilL := by rw [S.rb.cell]; rfl
        have q2 : wc.cell? ⟨w.heap.size, 2, none⟩ = some nilL := by rw [S.rb.cell]; rfl
        have q3 : wc.cell? ⟨w.heap.size, 3, none⟩ = some nilL := by rw [S.rb.cell]; rfl
        have f0 := S.rb.fz 0
        have f1 := S.rb.fz 1
        have f2 := S.rb.fz 2
        have f3 := S.rb.fz 3
        have PE : Hid (DQ r w n' (.slice ga' ng' gc') (.slice ta' nt' tc') (.slice sa' nr' sc') (.slice xa nx' xc) ((((wc.setCell ⟨w.heap.size, 0, none⟩ (.int .i64 n')).setCell ⟨w.heap.size, 1, none⟩ (.slice ga' ng' gc')).setCell ⟨w.heap.size, 2, none⟩ (.slice ta' nt' tc')).setCell ⟨w.heap.size, 3, none⟩ (.slice sa' nr' sc'))) := (by
          have lo := S.lo
          have kp := put4_kv wc w.heap.size (.int .i64 n') (.slice ga' ng' gc') (.slice ta' nt' tc') (.slice sa' nr' sc')
          exact ⟨rd_kv S.rd kp (fun b hb => by omega), kv_turn hr S.tu kp (fun b hb => by omega), ⟨_, (S.ag.kv kp (fun b hb x => by have := (S.ag.lt b hb).1; omega)).down (by omega)⟩, ⟨_, (S.at'.kv kp (fun b hb x => by have := (S.at'.lt b hb).1; omega)).down (by omega)⟩, ⟨_, _, _, (S.rm.kv kp (fun b hb => by omega)).down (by omega)⟩, ⟨_, (S.ax.kv kp (fun b hb x => by have := (S.ax.lt b hb).1; omega)).down (by omega)⟩⟩)
        clear S
        go_wp2_with fail
        refine bodyPost_ret (v := .tuple #[Pb.pv n' (.slice ga' ng' gc') (.slice ta' nt' tc') (.slice sa' nr' sc'), .slice xa nx' xc]) (by simp [results, Try.results40, go_sem, q0, q1, q2, q3]) rfl ⟨_, _, _, _, _, rfl, ?_⟩
        exact PE.out
end Go.Proofs.Ytaakiemmodncpaa.Wa
