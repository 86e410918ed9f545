/- DrawDescend. -/
import Derived.Test.YtaakiemmodncpaaWd
namespace Go.Proofs.Ytaakiemmodncpaa.Wa
open Go.ChangeShapes Go.WideShapes Go.ChangeAt Go.RowKit
open Go.Proofs.Ytaakiemmodncpaa.Lists Go.Proofs.Ytaakiemmodncpaa.Mk Go.Proofs.Ytaakiemmodncpaa.Rd Go.Proofs.Ytaakiemmodncpaa.Cf

/-- what DrawDescend keeps behind its first draw -/
structure FB (w : World) (r pb B : Nat) (n : Int) (g t rv x : Value) (wr : World) : Prop where
  rd : Rd r wr
  bel : Below w.heap.size w wr
  rb : Bl wr w.heap.size 32 #[.int .i64 0, nilL, nilL, nilL]
  bx : Bl wr pb 32 #[.int .i64 n, g, t, rv]
  ag : ∃ k, AI wr B g k
  at' : ∃ k, AI wr B t k
  rm : ∃ k us ls, RI wr B rv k us ls
  ax : ∃ k, AI wr B x k
  hr : w.heap.size < r
  hb : r < B
  hp : r < pb
theorem FB.turn {w : World} {r pb B : Nat} {n : Int} {g t rv x : Value} {wr w' : World} (h : FB w r pb B n g t rv x wr) (k : Rd r w') (q : Turn r wr w') : FB w r pb B n g t rv x w' := by
  obtain ⟨kg, ag⟩ := h.ag
  obtain ⟨kt, at'⟩ := h.at'
  obtain ⟨kr, us, ls, rm⟩ := h.rm
  obtain ⟨kx, ax⟩ := h.ax
  have hr := h.hr
  have hb := h.hb
  have hp := h.hp
  exact ⟨k, h.bel.trans (q.bel.mono (by omega)), h.rb.kv (turn_kv q) (by omega), h.bx.kv (turn_kv q) (by omega), ⟨kg, ag.kv (turn_kv q) (fun b hb x => by have := (ag.lt b hb).1; omega)⟩, ⟨kt, at'.kv (turn_kv q) (fun b hb x => by have := (at'.lt b hb).1; omega)⟩, ⟨kr, us, ls, rm.kv (turn_kv q) (fun b hb => by omega)⟩, ⟨kx, ax.kv (turn_kv q) (fun b hb x => by have := (ax.lt b hb).1; omega)⟩, h.hr, h.hb, h.hp⟩
theorem FB.up {w : World} {r pb B : Nat} {n : Int} {g t rv x : Value} {wr w' : World} (h : FB w r pb B n g t rv x wr) (hb : Below wr.heap.size wr w') : FB w r pb B n g t rv x w' :=
  h.turn (h.rd.kept hb h.rd.lt) (Turn.of hb (Nat.le_refl _) (Nat.le_of_lt h.rd.lt))
/-- a drawn problem, point and count, as they read -/
def DD (g t rv x : Value) (w' : World) : Prop := ∃ G T R X, LawCsL.PR w' G T R g t rv ∧ Lists.Reads w' x X

set_option maxRecDepth 20000 in
set_option maxHeartbeats 4000000 in
theorem drawd_any (w : World) (a : Option Addr) (l cap : Nat) (hc : Rd.Code w a l cap) (hn : l ≤ 1048576) :
    Calls Try.prog 18 #[.slice a l cap] w fun e w' => ∃ n g t rv x most, e = .returned (.tuple #[Pb.pv n g t rv, x, .int .i64 most]) ∧ DD g t rv x w' ∧ Below w.heap.size w w' := by
  obtain ⟨w0, hw0⟩ : ∃ w0, w0 = w.alloc (.cells #[.int .i64 0, .slice none 0 0, .slice none 0 0, .slice none 0 0] 32) := ⟨_, rfl⟩
  have HW0 : Hid (w0 = w.alloc (.cells #[.int .i64 0, .slice none 0 0, .slice none 0 0, .slice none 0 0] 32)) := hw0
  have R0 : Bl w0 w.heap.size 32 #[.int .i64 0, nilL, nilL, nilL] := by rw [hw0]; exact Bl.new w 32 _
  have B0 : Below w.heap.size w w0 := by rw [hw0]; exact (Below.refl _ _).alloc (Nat.le_refl _) _
  have z0 : w0.heap.size = w.heap.size + 1 := by rw [hw0]; simp
  obtain ⟨w1, hw1⟩ : ∃ w1, w1 = w0.alloc (.cells #[.slice a l cap, .int .i64 0] 81) := ⟨_, rfl⟩
  have HW1 : Hid (w1 = w0.alloc (.cells #[.slice a l cap, .int .i64 0] 81)) := hw1
  have D1 : Hid (Rd w0.heap.size w1) := (by show Rd _ _; rw [hw1]; exact Rd.new hc hn B0)
  have b1 : Below w0.heap.size w0 w1 := by rw [hw1]; exact (Below.refl _ _).alloc (Nat.le_refl _) _
  have z1 : w1.heap.size = w0.heap.size + 1 := by rw [hw1]; simp
  have R1 : Hid (Bl w1 w.heap.size 32 #[.int .i64 0, nilL, nilL, nilL]) := R0.on b1
  have B1 : Hid (Below w.heap.size w w1) := B0.trans (b1.mono (by omega))
  have OP : Hid (Calls Try.prog 39 #[.slice a l cap] w0 fun e w' => e = .returned (.pointer (some ⟨w0.heap.size, 0, none⟩)) ∧ w' = w1) := (by show Calls _ _ _ _ _; rw [hw1]; exact open_any _ a l cap rfl w0)
  obtain ⟨r, hr⟩ : ∃ r, r = w0.heap.size := ⟨_, rfl⟩
  have HR : Hid (r = w.heap.size + 1 ∧ w1.heap.size = r + 1) := ⟨by omega, by omega⟩
  rw [← hr] at D1 OP
  clear hw0 hw1 R0 B0 z0 b1 z1 hr hc
  go_enter Try.func18, Try.ntmps18
  go_upto_region 1 with fail
  rw [← HW0.out]
  clear HW0
  go_wp2_with fail
  refine (Calls.mono OP.out) ?_
  rintro e wq ⟨rfl, hwq⟩
  subst hwq
  go_wp2_with fail
  refine (draw_any r wq D1.out).mono ?_
  rintro e w2 ⟨n, g, t, rv, x, rfl, D⟩
  obtain ⟨pb, hpb⟩ : ∃ y, y = w2.heap.size := ⟨_, rfl⟩
  have HPB : Hid (pb = w2.heap.size) := hpb
  obtain ⟨w3, hw3⟩ : ∃ y, y = w2.alloc (.cells #[.int .i64 n, g, t, rv] 32) := ⟨_, rfl⟩
  have HW3 : Hid (w3 = w2.alloc (.cells #[.int .i64 n, g, t, rv] 32)) := hw3
  have S3 : Hid (FB w r pb wq.heap.size n g t rv x w3) := (by
    have b3 : Below w2.heap.size w2 w3 := by rw [hw3]; exact (Below.refl _ _).alloc (Nat.le_refl _) _
    obtain ⟨kg, ag⟩ := D.ag
    obtain ⟨kt, at'⟩ := D.at'
    obtain ⟨kr, us, ls, rm⟩ := D.rm
    obtain ⟨kx, ax⟩ := D.ax
    have z2 := D.tu.size
    have h1 := HR.out.1
    have h2 := HR.out.2
    refine ⟨D.rd.kept b3 D.rd.lt, (B1.out.trans (D.tu.bel.mono (by omega))).trans (b3.mono (by have := B1.out.size; omega)), (R1.out.kv (turn_kv D.tu) (by omega)).on b3, ?_, ⟨kg, ag.on b3⟩, ⟨kt, at'.on b3⟩, ⟨kr, us, ls, rm.on b3⟩, ⟨kx, ax.on b3⟩, by omega, by omega, by omega⟩
    rw [hw3, hpb]
    exact Bl.new w2 32 _)
  obtain ⟨xa, xl, xc, hx⟩ : ∃ xa xl xc, x = .slice xa xl xc := by obtain ⟨k, h⟩ := D.ax; obtain ⟨a, c, e⟩ := AI.form h; exact ⟨a, k, c, e⟩
  obtain ⟨ga, gl, gc, hg⟩ : ∃ xa xl xc, g = .slice xa xl xc := by obtain ⟨k, h⟩ := D.ag; obtain ⟨a, c, e⟩ := AI.form h; exact ⟨a, k, c, e⟩
  obtain ⟨ta, tl, tc, ht⟩ : ∃ xa xl xc, t = .slice xa xl xc := by obtain ⟨k, h⟩ := D.at'; obtain ⟨a, c, e⟩ := AI.form h; exact ⟨a, k, c, e⟩
  obtain ⟨ra, rl, rc, hrv⟩ : ∃ xa xl xc, rv = .slice xa xl xc := by obtain ⟨k, us, ls, ⟨⟨xs, h, _⟩, _⟩⟩ := D.rm; obtain ⟨a, c, e⟩ := row_form h; exact ⟨a, k, c, e⟩
  subst hx hg ht hrv
  clear hpb hw3 D D1 R1 B1 OP HR
  go_upto_region 3 with fail
  rw [← HW3.out, ← HPB.out]
  clear HW3 HPB
  go_wp2_with fail
  refine (below_any r w3 S3.out.rd 12 (by omega) (by omega)).mono ?_
  rintro e w4 ⟨⟨u, ⟨hu1, hu2⟩, rfl⟩, k4, t4⟩
  have S4 : Hid (FB w r pb wq.heap.size n (.slice ga gl gc) (.slice ta tl tc) (.slice ra rl rc) (.slice xa xl xc) w4) := S3.out.turn k4 t4
  clear k4 t4 S3 hu1 hu2
  go_wp2_with fail
  refine (once_any r w4 S4.out.rd 2 (by omega) (by omega)).mono ?_
  rintro e w5 ⟨⟨b1, rfl⟩, k5, t5⟩
  have S5 : Hid (FB w r pb wq.heap.size n (.slice ga gl gc) (.slice ta tl tc) (.slice ra rl rc) (.slice xa xl xc) w5) := S4.out.turn k5 t5
  clear k5 t5 S4
  go_upto_if 19 with fail
  go_cut [8] (fun m wx => (∃ z : Int, m = .int .i64 z) ∧ Hid (FB w r pb wq.heap.size n (.slice ga gl gc) (.slice ta tl tc) (.slice ra rl rc) (.slice xa xl xc) wx))
  case first =>
    cases b1
    · go_wp2_with fail
      go_meet
      exact ⟨⟨_, rfl⟩, S5⟩
    · go_wp2_with fail
      go_meet
      exact ⟨⟨_, rfl⟩, S5⟩
  case rest =>
    obtain ⟨⟨z, rfl⟩, S⟩ := hcut
    clear S5
    go_wp2_with fail
    refine (once_any r wc S.out.rd 20 (by omega) (by omega)).mono ?_
    rintro e w6 ⟨⟨b2, rfl⟩, k6, t6⟩
    have S6 : Hid (FB w r pb wq.heap.size n (.slice ga gl gc) (.slice ta tl tc) (.slice ra rl rc) (.slice xa xl xc) w6) := S.out.turn k6 t6
    clear k6 t6 S
    go_upto_if 21 with fail
    go_cut [8] (fun m wx => (∃ z : Int, m = .int .i64 z) ∧ Hid (FB w r pb wq.heap.size n (.slice ga gl gc) (.slice ta tl tc) (.slice ra rl rc) (.slice xa xl xc) wx))
    case first =>
      cases b2
      · go_wp2_with fail
        go_meet
        exact ⟨⟨_, rfl⟩, S6⟩
      · have KA : Hid (FB w r pb wq.heap.size n (.slice ga gl gc) (.slice ta tl tc) (.slice ra rl rc) (.slice xa xl xc) (w6.alloc (Obj.cells #[.int .i64 (-1), .int .i64 501, .int .i64 0] 2))) := S6.out.up ((Below.refl _ _).alloc (Nat.le_refl _) _)
        have rb : r < w6.heap.size := S6.out.rd.lt
        go_wp2_with fail
        refine (below_any r _ KA.out.rd 3 (by omega) (by omega)).mono ?_
        rintro e w7 ⟨⟨y, ⟨hy1, hy2⟩, rfl⟩, k7, t7⟩
        have hy3 : y < 3 := hy2
        obtain ⟨q, hq⟩ := pick3 (-1) 501 0 y hy1 hy3
        have S7 : Hid (FB w r pb wq.heap.size n (.slice ga gl gc) (.slice ta tl tc) (.slice ra rl rc) (.slice xa xl xc) w7) := KA.out.turn k7 t7
        have c0 : w7.cell? ⟨w6.heap.size, y.toNat, none⟩ = some (.int .i64 q) := (t7.cell _ (by simp) (by omega)).trans (hq w6)
        clear k7 t7 hq hy2 S6 KA
        go_wp2_with fail
        go_meet
        exact ⟨⟨_, rfl⟩, S7⟩
    case rest =>
      obtain ⟨⟨z2, rfl⟩, S⟩ := hcut
      clear S6
      obtain ⟨wx, hwx⟩ : ∃ x : World, x = wc := ⟨_, rfl⟩
      subst hwx
      have SL := S.out
      have s0 : wx.cell? ⟨pb, 0, none⟩ = some (.int .i64 n) := by rw [SL.bx.cell]; rfl
      have s1 : wx.cell? ⟨pb, 1, none⟩ = some (.slice ga gl gc) := by rw [SL.bx.cell]; rfl
      have s2 : wx.cell? ⟨pb, 2, none⟩ = some (.slice ta tl tc) := by rw [SL.bx.cell]; rfl
      have s3 : wx.cell? ⟨pb, 3, none⟩ = some (.slice ra rl rc) := by rw [SL.bx.cell]; rfl
      have q0 : wx.cell? ⟨w.heap.size, 0, none⟩ = some (.int .i64 0) := by rw [SL.rb.cell]; rfl
      have q1 : wx.cell? ⟨w.heap.size, 1, none⟩ = some nilL := by rw [SL.rb.cell]; rfl
      have q2 : wx.cell? ⟨w.heap.size, 2, none⟩ = some nilL := by rw [SL.rb.cell]; rfl
      have q3 : wx.cell? ⟨w.heap.size, 3, none⟩ = some nilL := by rw [SL.rb.cell]; rfl
      have f0 := SL.rb.fz 0
      have f1 := SL.rb.fz 1
      have f2 := SL.rb.fz 2
      have f3 := SL.rb.fz 3
      have PE : Hid (DD (.slice ga gl gc) (.slice ta tl tc) (.slice ra rl rc) (.slice xa xl xc) ((((wx.setCell ⟨w.heap.size, 0, none⟩ (.int .i64 n)).setCell ⟨w.heap.size, 1, none⟩ (.slice ga gl gc)).setCell ⟨w.heap.size, 2, none⟩ (.slice ta tl tc)).setCell ⟨w.heap.size, 3, none⟩ (.slice ra rl rc)) ∧ Below w.heap.size w ((((wx.setCell ⟨w.heap.size, 0, none⟩ (.int .i64 n)).setCell ⟨w.heap.size, 1, none⟩ (.slice ga gl gc)).setCell ⟨w.heap.size, 2, none⟩ (.slice ta tl tc)).setCell ⟨w.heap.size, 3, none⟩ (.slice ra rl rc))) := (by
        have kp := put4_kv wx w.heap.size (.int .i64 n) (.slice ga gl gc) (.slice ta tl tc) (.slice ra rl rc)
        have h1 := SL.hr
        have h2 := SL.hb
        obtain ⟨kg, ag⟩ := SL.ag
        obtain ⟨kt, at'⟩ := SL.at'
        obtain ⟨kr, us, ls, rm⟩ := SL.rm
        obtain ⟨kx, ax⟩ := SL.ax
        obtain ⟨G, _, rG⟩ := (ag.kv kp (fun b hb x => by have := (ag.lt b hb).1; omega)).reads
        obtain ⟨T, _, rT⟩ := (at'.kv kp (fun b hb x => by have := (at'.lt b hb).1; omega)).reads
        obtain ⟨R, _, rR⟩ := (rm.kv kp (fun b hb => by omega)).reads
        obtain ⟨X, _, rX⟩ := (ax.kv kp (fun b hb x => by have := (ax.lt b hb).1; omega)).reads
        exact ⟨⟨G, T, R, X, ⟨rG, rT, rR⟩, rX⟩, SL.bel.trans (kp.below SL.bel.size (fun b hb => by omega))⟩)
      clear SL S
      go_wp2_with fail
      refine bodyPost_ret (v := .tuple #[Pb.pv n (.slice ga gl gc) (.slice ta tl tc) (.slice ra rl rc), .slice xa xl xc, .int .i64 z2]) (by simp [results, Try.results18, go_sem, q0, q1, q2, q3]) rfl ⟨_, _, _, _, _, _, rfl, ?_⟩
      exact PE.out
end Go.Proofs.Ytaakiemmodncpaa.Wa
