/- FnReportsAnyway: the law. -/
import Derived.Test.YtfhpomfdkpfooaaSj
namespace Go.Proofs.Ytfhpomfdkpfooaa.Ty
open Go.ChangeShapes Go.WideShapes Go.ChangeAt Go.RowKit
open Go.Proofs.Ytfhpomfdkpfooaa.Lists Go.Proofs.Ytfhpomfdkpfooaa.Tm Go.Proofs.Ytfhpomfdkpfooaa.Rk Go.Proofs.Ytfhpomfdkpfooaa.Ru Go.Proofs.Ytfhpomfdkpfooaa.Al Go.Proofs.Ytfhpomfdkpfooaa.Rd Go.Proofs.Ytfhpomfdkpfooaa.Cp

/-- a run's box in the law -/
structure LB (nb : Nat) (vr vx vj : Value) (now : Int) (R : Tk.Ls) (X : List Int) (J : Jb.Ls) (W : World) : Prop where
  bx : Bl W nb 30 #[vr, vx, .int .i64 now, vj]
  rr : RR W vr vx vj R X J
theorem RR.on {w w' : World} {vr vx vj : Value} {R : Tk.Ls} {X : List Int} {J : Jb.Ls} (h : RR w vr vx vj R X J) (hb : Below w.heap.size w w') : RR w' vr vx vj R X J := ⟨h.1.on hb, h.2.1.on hb, h.2.2.on hb⟩
theorem LB.on {nb : Nat} {vr vx vj : Value} {now : Int} {R : Tk.Ls} {X : List Int} {J : Jb.Ls} {W W' : World} (h : LB nb vr vx vj now R X J W) (hb : Below W.heap.size W W') : LB nb vr vx vj now R X J W' := ⟨h.bx.on hb, h.rr.on hb⟩
theorem LB.new {vr vx vj : Value} {R : Tk.Ls} {X : List Int} {J : Jb.Ls} {W : World} (h : RR W vr vx vj R X J) (now : Int) : LB W.heap.size vr vx vj now R X J (W.alloc (.cells #[vr, vx, .int .i64 now, vj] 30)) := ⟨Bl.new W 30 _, h.on ((Below.refl _ _).alloc (Nat.le_refl _) _)⟩
theorem LB.cells {nb : Nat} {vr vx vj : Value} {now : Int} {R : Tk.Ls} {X : List Int} {J : Jb.Ls} {W : World} (h : LB nb vr vx vj now R X J W) : W.cell? ⟨nb, 0, none⟩ = some vr ∧ W.cell? ⟨nb, 1, none⟩ = some vx ∧ W.cell? ⟨nb, 2, none⟩ = some (.int .i64 now) ∧ W.cell? ⟨nb, 3, none⟩ = some vj := by
  refine ⟨?_, ?_, ?_, ?_⟩ <;> rw [h.bx.cell] <;> rfl
theorem LB.free {nb : Nat} {vr vx vj : Value} {now : Int} {R : Tk.Ls} {X : List Int} {J : Jb.Ls} {W : World} (h : LB nb vr vx vj now R X J W) : W.frozen? ⟨nb, 0, none⟩ = false ∧ W.frozen? ⟨nb, 1, none⟩ = false ∧ W.frozen? ⟨nb, 2, none⟩ = false ∧ W.frozen? ⟨nb, 3, none⟩ = false := ⟨h.bx.fz 0, h.bx.fz 1, h.bx.fz 2, h.bx.fz 3⟩
/-- a new run kept in the box -/
theorem LB.put {nb : Nat} {vr vx vj ur ux uj : Value} {now now' : Int} {R R' : Tk.Ls} {X X' : List Int} {J J' : Jb.Ls} {W W' : World} {xs : List Value} (h : LB nb vr vx vj now R X J W) (hb : Below W.heap.size W W') (ro : RO W' W.heap.size ur ux uj xs R' X' J') : LB nb ur ux uj now' R' X' J' (put4 W' nb ur ux (.int .i64 now') uj) ∧ Below nb W' (put4 W' nb ur ux (.int .i64 now') uj) := by
  have ks : KB (fun b => b = nb) W' (put4 W' nb ur ux (.int .i64 now') uj) := (((kb_set W' nb 0 _).trans (kb_set _ nb 1 _)).trans (kb_set _ nb 2 _)).trans (kb_set _ nb 3 _)
  have hl := h.bx.lt
  have z := hb.size
  exact ⟨⟨((((h.bx.on hb).set 0 ur).set 1 ux).set 2 (.int .i64 now')).set 3 uj, (ro.kb ks (fun g hg e => by have := (ro.bs g hg).1; omega)).reads⟩, ks.below (by omega) (fun b hb => by omega)⟩
/-- the last two that run, of the first k -/
def LAST (J : Jb.Ls) (k : Nat) (x y : Int) : Prop := (0 ≤ x ∧ 0 ≤ y ∧ y ≤ (k : Int)) ∧ (x ≠ 0 → x < y) ∧ (y ≠ 0 → hw J (y - 1).toNat = 1) ∧ (x ≠ 0 → hw J (x - 1).toNat = 1)
theorem LAST.hit {J : Jb.Ls} {k : Nat} {x y : Int} (h : LAST J k x y) (hk : hw J k = 1) : LAST J (k + 1) y ((k : Int) + 1) := by
  obtain ⟨⟨h1, h2, h3⟩, h4, h5, h6⟩ := h
  refine ⟨⟨h2, by omega, by omega⟩, fun _ => by omega, fun _ => by rw [show ((k : Int) + 1 - 1).toNat = k by omega]; exact hk, h5⟩
theorem LAST.off {J : Jb.Ls} {k : Nat} {x y : Int} (h : LAST J k x y) : LAST J (k + 1) x y := by
  obtain ⟨⟨h1, h2, h3⟩, h4, h5, h6⟩ := h
  exact ⟨⟨h1, h2, by omega⟩, h4, h5, h6⟩
/-- what a report of the program gives -/
def PR (R : Tk.Ls) (X : List Int) (now : Int) (n : Nat) (C : Jb.Ls) (W : World) (e : Ending) (w' : World) : Prop := ∃ ra rc xa xc ja jc, e = .returned (.tuple #[rv (.slice ra R.length rc) (.slice xa X.length xc) now (.slice ja n jc), .bool true]) ∧ (∃ xs, RO w' W.heap.size (.slice ra R.length rc) (.slice xa X.length xc) (.slice ja n jc) xs R X C) ∧ Below W.heap.size W w'
theorem prep {R : Tk.Ls} {X : List Int} {now : Int} {J : Jb.Ls} {i : Nat} {ok : Bool} {n : Nat} (hk : okR R X now J = true) (hi : i < J.length) (h : hw J i = 1) (hn : J.length = n) (W : World) (vr vx vj : Value) (hh : RR W vr vx vj R X J) : Calls Try.prog 9 #[rv vr vx now vj, .int .i64 ((i : Int) + 1), .bool ok] W (PR R X now n (rps R J ((i : Int) + 1) ok) W) := by
  have := irep_any R X now J vr vx vj ((i : Int) + 1) ok W hh hk
  rw [(rps_at (R := R) hi h ok).2, hn] at this
  exact this

set_option maxRecDepth 20000 in
set_option maxHeartbeats 4000000 in
theorem repLaw (a : Option Addr) (len cap : Nat) (w : World) (hc : Rd.Code w a len cap) (hn : len < 9223372036854775808) : Calls Try.prog 3 #[.slice a len cap] w fun e w' => e = .returned (.bool true) ∧ Below w.heap.size w w' := by
  by_cases hl : 1048576 < len
  · have C : Hid (Calls Try.prog 6 #[.slice a len cap] w fun e w' => e = .returned (.bool true) ∧ w' = w) := big_yes a len cap w hl hn
    clear hc
    go_enter Try.func3, Try.ntmps3
    go_wp2_with fail
    refine C.out.mono ?_
    rintro e w1 ⟨rfl, hw⟩
    have hw' := hw.symm
    subst hw'
    go_wp2_with fail
    go_ret
    exact ⟨rfl, Below.refl _ _⟩
  have C : Hid (Calls Try.prog 6 #[.slice a len cap] w fun e w' => e = .returned (.bool false) ∧ w' = w) := big_no a len cap w (by omega)
  have D : Hid (Calls Try.prog 7 #[.slice a len cap] w fun e w' => ∃ vr vx vj now k ok, e = .returned (.tuple #[rv vr vx now vj, .int .i64 k, .bool ok]) ∧ DZ w vr vx vj w') := drep_any a len cap w hc (by omega)
  clear hc hl
  go_enter Try.func3, Try.ntmps3
  go_wp2_with fail
  refine C.out.mono ?_
  rintro e w1 ⟨rfl, hw⟩
  have hw' := hw.symm
  subst hw'
  clear C hw
  go_wp2_with fail
  refine D.out.mono ?_
  rintro e w2 ⟨vr, vx, vj, now, kq, ok, rfl, R, X, J, h2, hj60, b2⟩
  clear D
  obtain ⟨ra, rc, e1⟩ := h2.1.form
  obtain ⟨xa, xc, e2⟩ := h2.2.1.form
  obtain ⟨ja, jc, e3⟩ := h2.2.2.form
  subst e1 e2 e3
  obtain ⟨nb, hnb⟩ : ∃ y, y = w2.heap.size := ⟨_, rfl⟩
  have HNB : Hid (nb = w2.heap.size) := hnb
  obtain ⟨w3, hw3⟩ : ∃ y, y = w2.alloc (.cells #[.slice ra R.length rc, .slice xa X.length xc, .int .i64 now, .slice ja J.length jc] 30) := ⟨_, rfl⟩
  have HW3 : Hid (w3 = w2.alloc (.cells #[.slice ra R.length rc, .slice xa X.length xc, .int .i64 now, .slice ja J.length jc] 30)) := hw3
  have S3 : Hid (LB nb (.slice ra R.length rc) (.slice xa X.length xc) (.slice ja J.length jc) now R X J w3) := (by show LB _ _ _ _ _ _ _ _ _; rw [hw3, hnb]; exact LB.new h2 now)
  have B3 : Hid (Below w.heap.size w w3 ∧ w.heap.size ≤ nb) := (by
    have b3 : Below w2.heap.size w2 w3 := by rw [hw3]; exact (Below.refl _ _).alloc (Nat.le_refl _) _
    exact ⟨b2.trans (b3.mono b2.size), by rw [hnb]; exact b2.size⟩)
  clear h2 b2 hnb hw3
  go_upto_region 4 with fail
  rw [← HW3.out, ← HNB.out]
  clear HW3 HNB
  go_wp2_with fail
  go_loopw [6, 7, 8] (fun qa qb c wr => ∃ (k : Nat) (x y : Int), k ≤ J.length ∧ c = .int .i64 k ∧ qa = .int .i64 x ∧ qb = .int .i64 y ∧ Hid (LAST J k x y) ∧ wr = w3) (fun _ _ c _ => J.length - (intOf c).toNat)
  case atStart => exact ⟨0, 0, 0, Nat.zero_le _, rfl, rfl, rfl, ⟨⟨by omega, by omega, by omega⟩, by omega, by omega, by omega⟩, rfl⟩
  case round =>
    obtain ⟨k, x, y, hk, rfl, rfl, rfl, LA, hw⟩ := hrel
    have hw' := hw.symm
    subst hw'
    clear hw
    obtain ⟨c0, c1, c2, c3⟩ := S3.out.cells
    by_cases hlt : k < J.length
    · have i1 : (0 : Int) ≤ (k : Int) := by omega
      have i2 : (k : Int) < (J.length : Int) := by omega
      obtain ⟨jb, jo, cap', e1, _, _, _, hcs⟩ : ∃ b o cap, (Value.slice ja J.length jc) = .slice (some ⟨b, o, none⟩) J.length cap ∧ J.length ≤ cap ∧ cap ≤ maxLen ∧ b < w3.heap.size ∧ ∀ i, i < J.length → Jb.Cs w3 b o J i := by
        rcases S3.out.rr.2.2 with ⟨e, _⟩ | q
        · rw [e] at hlt; simp at hlt
        · exact q
      simp at e1
      obtain ⟨rfl, rfl⟩ := e1
      obtain ⟨j0, _⟩ := hcs k hlt
      clear hcs
      by_cases h1 : Jb.c0 J k = 1
      · rw [h1] at j0
        have LH : Hid (LAST J (k + 1) y ((k : Int) + 1)) := LA.out.hit h1
        clear h1
        go_wp2_with fail
        go_roundw
        case rel => exact ⟨k + 1, y, (k : Int) + 1, by omega, by go_num, rfl, by go_num, LH, trivial⟩
        case measure => simp [intOf]; omega
      · have h1' : (Jb.c0 J k == 1) = false := by simpa using h1
        generalize Jb.c0 J k = zz at *
        go_wp2_with fail
        go_roundw
        case rel => exact ⟨k + 1, x, y, by omega, by go_num, rfl, rfl, LA.out.off, trivial⟩
        case measure => simp [intOf]; omega
    · have ek : k = J.length := by omega
      subst ek
      have i2 : ¬ (J.length : Int) < (J.length : Int) := by omega
      cases hok : okR R X now J
      · have NO : Hid (Calls Try.prog 8 #[rv (.slice ra R.length rc) (.slice xa X.length xc) now (.slice ja J.length jc), .int .i64 x, .bool ok] w3 fun e w' => e = .returned (.tuple #[rv nilS nilS 0 nilS, .bool false]) ∧ Below w3.heap.size w3 w') := srep_no R X now J _ _ _ x ok w3 S3.out.rr hok
        clear hok
        go_wp2_with fail
        refine NO.out.mono ?_
        rintro e w4 ⟨rfl, b4⟩
        have B4 : Hid (Below w.heap.size w w4) := B3.out.1.trans (b4.mono B3.out.1.size)
        clear b4
        go_wp2_with fail
        go_ret
        exact ⟨rfl, B4.out.alloc B4.out.size _⟩
      · have YES : Hid (Calls Try.prog 8 #[rv (.slice ra R.length rc) (.slice xa X.length xc) now (.slice ja J.length jc), .int .i64 x, .bool ok] w3 fun e w' => ∃ ra rc xa xc ja jc, e = .returned (.tuple #[rv (.slice ra R.length rc) (.slice xa X.length xc) now (.slice ja J.length jc), .bool (rpb J x)]) ∧ Below w3.heap.size w3 w') := (srep_any R X now J _ _ _ x ok w3 S3.out.rr hok).mono (by
          rintro e w4 ⟨a1, a2, a3, a4, a5, a6, rfl, _, hb⟩
          exact ⟨a1, a2, a3, a4, a5, a6, rfl, hb⟩)
        have OK : Hid (okR R X now J = true) := hok
        clear hok
        cases hp : rpb J x
        · rw [hp] at YES
          go_wp2_with fail
          refine YES.out.mono ?_
          rintro e w4 ⟨a1, a2, a3, a4, a5, a6, rfl, b4⟩
          have B4 : Hid (Below w.heap.size w w4) := B3.out.1.trans (b4.mono B3.out.1.size)
          clear b4
          go_wp2_with fail
          go_ret
          exact ⟨rfl, B4.out.alloc B4.out.size _⟩
        · rw [hp] at YES
          obtain ⟨i, j, hij, hi, hj, hx, hy, h1, h2⟩ : ∃ i j : Nat, i ≠ j ∧ i < J.length ∧ j < J.length ∧ x = (i : Int) + 1 ∧ y = (j : Int) + 1 ∧ hw J i = 1 ∧ hw J j = 1 := by
            unfold rpb at hp
            rw [decide_eq_true_eq] at hp
            obtain ⟨⟨l1, l2, l3⟩, l4, l5, l6⟩ := LA.out
            have l7 := l4 (by omega)
            exact ⟨(x - 1).toNat, (y - 1).toNat, by omega, by omega, by omega, by omega, by omega, hp.2.2, l5 (by omega)⟩
          subst hx hy
          obtain ⟨sw, s1, s2⟩ := rps_swap (R := R) hij hi hj h1 h2 ok (!ok)
          obtain ⟨C1, hC1⟩ : ∃ C, C = rps R J ((i : Int) + 1) ok := ⟨_, rfl⟩
          obtain ⟨C2, hC2⟩ : ∃ C, C = rps R J ((j : Int) + 1) (!ok) := ⟨_, rfl⟩
          obtain ⟨C3, hC3⟩ : ∃ C, C = rps R C1 ((j : Int) + 1) (!ok) := ⟨_, rfl⟩
          have l1 : C1.length = J.length := by rw [hC1, rps_len]
          have l2 : C2.length = J.length := by rw [hC2, rps_len]
          have l3 : C3.length = J.length := by rw [hC3, rps_len, l1]
          have A1 : Hid (∀ (W : World) (vr vx vj : Value), RR W vr vx vj R X J → Calls Try.prog 9 #[rv vr vx now vj, .int .i64 ((i : Int) + 1), .bool ok] W (PR R X now J.length C1 W)) := fun W vr vx vj hh => (by rw [hC1]; exact prep OK.out hi h1 rfl W vr vx vj hh)
          have A2 : Hid (∀ (W : World) (vr vx vj : Value), RR W vr vx vj R X C1 → Calls Try.prog 9 #[rv vr vx now vj, .int .i64 ((j : Int) + 1), .bool !ok] W (PR R X now J.length C3 W)) := fun W vr vx vj hh => (by rw [hC3]; exact prep (by rw [hC1]; exact rps_ok OK.out _ _) (by rw [l1]; exact hj) (by rw [hC1]; exact s1) l1 W vr vx vj hh)
          have A3 : Hid (∀ (W : World) (vr vx vj : Value), RR W vr vx vj R X J → Calls Try.prog 9 #[rv vr vx now vj, .int .i64 ((j : Int) + 1), .bool !ok] W (PR R X now J.length C2 W)) := fun W vr vx vj hh => (by rw [hC2]; exact prep OK.out hj h2 rfl W vr vx vj hh)
          have A4 : Hid (∀ (W : World) (vr vx vj : Value), RR W vr vx vj R X C2 → Calls Try.prog 9 #[rv vr vx now vj, .int .i64 ((i : Int) + 1), .bool ok] W (PR R X now J.length C3 W)) := fun W vr vx vj hh => (by rw [hC3, hC1, sw, ← hC2]; exact prep (by rw [hC2]; exact rps_ok OK.out _ _) (by rw [l2]; exact hi) (by rw [hC2]; exact s2) l2 W vr vx vj hh)
          have LEN : Hid (C3.length = J.length) := l3
          have nz : ¬ ((i : Int) + 1 = 0) := by omega
          have nz' : ((i : Int) + 1 == 0) = false := by simp; omega
          clear sw s1 s2 hC1 hC2 hC3 l1 l2 l3 h1 h2 hij hi hj hp LA OK
          generalize (i : Int) + 1 = zi at *
          generalize (j : Int) + 1 = zj at *
          go_wp2_with fail
          refine YES.out.mono ?_
          rintro e w4 ⟨a1, a2, a3, a4, a5, a6, rfl, b4⟩
          obtain ⟨w5, hw5⟩ : ∃ y, y = w4.alloc (.cells #[.slice a1 R.length a2, .slice a3 X.length a4, .int .i64 now, .slice a5 J.length a6] 30) := ⟨_, rfl⟩
          have HW5 : Hid (w5 = w4.alloc (.cells #[.slice a1 R.length a2, .slice a3 X.length a4, .int .i64 now, .slice a5 J.length a6] 30)) := hw5
          have Q5 : Hid (Below w3.heap.size w3 w5) := (by show Below _ _ _; rw [hw5]; exact b4.alloc b4.size _)
          clear b4 hw5 c0 c1 c2 c3 YES
          obtain ⟨c0, c1, c2, c3⟩ := (S3.out.on Q5.out).cells
          go_upto_region 13 with fail
          rw [← HW5.out]
          clear HW5
          go_wp2_with fail
          refine (A1.out w5 _ _ _ (S3.out.on Q5.out).rr).mono ?_
          rintro e w6 ⟨p1, p2, p3, p4, p5, p6, rfl, ⟨xs6, ro6⟩, b6⟩
          obtain ⟨nx, hnx⟩ : ∃ y, y = w6.heap.size := ⟨_, rfl⟩
          have HNX : Hid (nx = w6.heap.size) := hnx
          obtain ⟨w7, hw7⟩ : ∃ y, y = w6.alloc (.cells #[.slice p1 R.length p2, .slice p3 X.length p4, .int .i64 now, .slice p5 J.length p6] 30) := ⟨_, rfl⟩
          have HW7 : Hid (w7 = w6.alloc (.cells #[.slice p1 R.length p2, .slice p3 X.length p4, .int .i64 now, .slice p5 J.length p6] 30)) := hw7
          have S7 : Hid (LB nx (.slice p1 R.length p2) (.slice p3 X.length p4) (.slice p5 J.length p6) now R X C1 w7) := (by show LB _ _ _ _ _ _ _ _ _; rw [hw7, hnx]; exact LB.new ro6.reads now)
          have Q7 : Hid (Below w3.heap.size w3 w7 ∧ w3.heap.size ≤ nx) := (by
            have z5 := Q5.out.size
            have z6 := b6.size
            have q := Q5.out.trans (b6.mono z5)
            exact ⟨by rw [hw7]; exact q.alloc q.size _, by rw [hnx]; exact q.size⟩)
          clear ro6 b6 hnx hw7 c0 c1 c2 c3 Q5 A1
          obtain ⟨c0, c1, c2, c3⟩ := S7.out.cells
          go_upto_region 16 with fail
          rw [← HW7.out, ← HNX.out]
          clear HW7 HNX
          go_wp2_with fail
          refine (A2.out w7 _ _ _ S7.out.rr).mono ?_
          rintro e w8 ⟨q1, q2, q3, q4, q5, q6, rfl, ⟨xs8, ro8⟩, b8⟩
          obtain ⟨T8, T8b⟩ := S7.out.put (now' := now) b8 ro8
          obtain ⟨d0, d1, d2, d3⟩ := (S7.out.on b8).cells
          obtain ⟨f0, f1, f2, f3⟩ := (S7.out.on b8).free
          obtain ⟨w9, hw9⟩ : ∃ y, y = put4 w8 nx (.slice q1 R.length q2) (.slice q3 X.length q4) (.int .i64 now) (.slice q5 J.length q6) := ⟨_, rfl⟩
          have HW9 : Hid (w9 = (((w8.setCell ⟨nx, 0, none⟩ (.slice q1 R.length q2)).setCell ⟨nx, 1, none⟩ (.slice q3 X.length q4)).setCell ⟨nx, 2, none⟩ (.int .i64 now)).setCell ⟨nx, 3, none⟩ (.slice q5 J.length q6)) := hw9
          rw [← hw9] at T8 T8b
          have S9 : Hid (LB nx (.slice q1 R.length q2) (.slice q3 X.length q4) (.slice q5 J.length q6) now R X C3 w9) := T8
          have Q9 : Hid (Below w3.heap.size w3 w9) := (Q7.out.1.trans (b8.mono Q7.out.1.size)).trans (T8b.mono Q7.out.2)
          clear T8 T8b ro8 b8 hw9 c0 c1 c2 c3 A2 S7
          go_upto_region 17 with fail
          rw [← HW9.out]
          clear HW9 d0 d1 d2 d3 f0 f1 f2 f3
          obtain ⟨c0, c1, c2, c3⟩ := (S3.out.on Q9.out).cells
          go_wp2_with fail
          refine (A3.out w9 _ _ _ (S3.out.on Q9.out).rr).mono ?_
          rintro e w10 ⟨p1, p2, p3, p4, p5, p6, rfl, ⟨xs10, ro10⟩, b10⟩
          obtain ⟨ny, hny⟩ : ∃ y, y = w10.heap.size := ⟨_, rfl⟩
          have HNY : Hid (ny = w10.heap.size) := hny
          obtain ⟨w11, hw11⟩ : ∃ y, y = w10.alloc (.cells #[.slice p1 R.length p2, .slice p3 X.length p4, .int .i64 now, .slice p5 J.length p6] 30) := ⟨_, rfl⟩
          have HW11 : Hid (w11 = w10.alloc (.cells #[.slice p1 R.length p2, .slice p3 X.length p4, .int .i64 now, .slice p5 J.length p6] 30)) := hw11
          have S11 : Hid (LB ny (.slice p1 R.length p2) (.slice p3 X.length p4) (.slice p5 J.length p6) now R X C2 w11) := (by show LB _ _ _ _ _ _ _ _ _; rw [hw11, hny]; exact LB.new ro10.reads now)
          have Q11 : Hid (Below w9.heap.size w9 w11 ∧ w9.heap.size ≤ ny) := ⟨by rw [hw11]; exact b10.alloc b10.size _, by rw [hny]; exact b10.size⟩
          clear ro10 b10 hny hw11 c0 c1 c2 c3 A3
          obtain ⟨c0, c1, c2, c3⟩ := S11.out.cells
          go_upto_region 18 with fail
          rw [← HW11.out, ← HNY.out]
          clear HW11 HNY
          go_wp2_with fail
          refine (A4.out w11 _ _ _ S11.out.rr).mono ?_
          rintro e w12 ⟨q1', q2', q3', q4', q5', q6', rfl, ⟨xs12, ro12⟩, b12⟩
          obtain ⟨T12, T12b⟩ := S11.out.put (now' := now) b12 ro12
          obtain ⟨d0, d1, d2, d3⟩ := (S11.out.on b12).cells
          obtain ⟨f0, f1, f2, f3⟩ := (S11.out.on b12).free
          obtain ⟨w13, hw13⟩ : ∃ y, y = put4 w12 ny (.slice q1' R.length q2') (.slice q3' X.length q4') (.int .i64 now) (.slice q5' J.length q6') := ⟨_, rfl⟩
          have HW13 : Hid (w13 = (((w12.setCell ⟨ny, 0, none⟩ (.slice q1' R.length q2')).setCell ⟨ny, 1, none⟩ (.slice q3' X.length q4')).setCell ⟨ny, 2, none⟩ (.int .i64 now)).setCell ⟨ny, 3, none⟩ (.slice q5' J.length q6')) := hw13
          rw [← hw13] at T12 T12b
          have S13 : Hid (LB ny (.slice q1' R.length q2') (.slice q3' X.length q4') (.slice q5' J.length q6') now R X C3 w13) := T12
          have Q13 : Hid (Below w9.heap.size w9 w13) := (Q11.out.1.trans (b12.mono Q11.out.1.size)).trans (T12b.mono Q11.out.2)
          clear T12 T12b ro12 b12 hw13 c0 c1 c2 c3 A4 S11
          go_upto_region 19 with fail
          rw [← HW13.out]
          clear HW13 d0 d1 d2 d3 f0 f1 f2 f3
          have R13 : Hid (Below w3.heap.size w3 w13) := Q9.out.trans (Q13.out.mono Q9.out.size)
          obtain ⟨_, _, _, x3⟩ := (S9.out.on Q13.out).cells
          obtain ⟨_, _, _, y3⟩ := S13.out.cells
          obtain ⟨_, _, _, r3⟩ := (S3.out.on R13.out).cells
          have SJ : Hid (Calls Try.prog 10 #[.slice q5 J.length q6, .slice q5' J.length q6'] w13 fun e w' => e = .returned (.bool true) ∧ Below w13.heap.size w13 w') := samej_any w13 _ _ C3 (S9.out.on Q13.out).rr.2.2 S13.out.rr.2.2
          go_wp2_with fail
          refine SJ.out.mono ?_
          rintro e w14 ⟨rfl, b14⟩
          have x3' : w14.cell? ⟨nx, 3, none⟩ = some (.slice q5 J.length q6) := ((S9.out.on Q13.out).on b14).cells.2.2.2
          have r3' : w14.cell? ⟨nb, 3, none⟩ = some (.slice ja J.length jc) := ((S3.out.on R13.out).on b14).cells.2.2.2
          have B14 : Hid (Below w.heap.size w w14) := (B3.out.1.trans (R13.out.mono B3.out.1.size)).trans (b14.mono (Nat.le_trans B3.out.1.size R13.out.size))
          clear b14 x3 y3 r3
          go_wp2_with fail
          go_ret
          exact ⟨rfl, B14.out⟩
end Go.Proofs.Ytfhpomfdkpfooaa.Ty
