/- DrawReport and DrawTickRun. -/
import Derived.Test.YtfhpomfdkpfooaaDy
namespace Go.Proofs.Ytfhpomfdkpfooaa.Ty
open Go.ChangeShapes Go.WideShapes Go.ChangeAt Go.RowKit
open Go.Proofs.Ytfhpomfdkpfooaa.Lists Go.Proofs.Ytfhpomfdkpfooaa.Tm Go.Proofs.Ytfhpomfdkpfooaa.Rk Go.Proofs.Ytfhpomfdkpfooaa.Ru Go.Proofs.Ytfhpomfdkpfooaa.Al Go.Proofs.Ytfhpomfdkpfooaa.Rd Go.Proofs.Ytfhpomfdkpfooaa.Cp

structure BR (r : Nat) (w : World) (nb : Nat) (vr vx vj : Value) (now : Int) (R : Tk.Ls) (X : List Int) (J : Jb.Ls) (wr : World) : Prop where
  rd : Rd r wr
  bel : Below w.heap.size w wr
  er : r = w.heap.size + 1
  lo : r < nb
  rb : Bl wr w.heap.size 30 zr
  bx : Bl wr nb 30 #[vr, vx, .int .i64 now, vj]
  ly : LY (fun b => b ≤ r) wr vr vx vj R X J
  sj : J.length ≤ 60
theorem BR.turn {r : Nat} {w : World} {nb : Nat} {vr vx vj : Value} {now : Int} {R : Tk.Ls} {X : List Int} {J : Jb.Ls} {wr w' : World} (h : BR r w nb vr vx vj now R X J wr) (k : Rd r w') (t : Turn r wr w') : BR r w nb vr vx vj now R X J w' := by
  have e := h.er
  have lo := h.lo
  exact ⟨k, h.bel.trans (t.bel.mono (by omega)), e, lo, h.rb.kb (Du.turn_kb t) (by omega), h.bx.kb (Du.turn_kb t) (by omega), h.ly.kb ((Du.turn_kb t).mono (fun b hb => by omega)), h.sj⟩
theorem BR.drew {r : Nat} {w : World} {nb : Nat} {vr vx vj : Value} {now : Int} {R : Tk.Ls} {X : List Int} {J : Jb.Ls} {wr : World} (h : BR r w nb vr vx vj now R X J wr) : BR r w nb vr vx vj now R X J wr.drew := h.turn (h.rd.drewN 1) ((Turn.refl r wr).drewN 1)
theorem BR.cells {r : Nat} {w : World} {nb : Nat} {vr vx vj : Value} {now : Int} {R : Tk.Ls} {X : List Int} {J : Jb.Ls} {wr : World} (h : BR r w nb vr vx vj now R X J wr) : wr.cell? ⟨nb, 0, none⟩ = some vr ∧ wr.cell? ⟨nb, 1, none⟩ = some vx ∧ wr.cell? ⟨nb, 2, none⟩ = some (.int .i64 now) ∧ wr.cell? ⟨nb, 3, none⟩ = some vj := by
  refine ⟨?_, ?_, ?_, ?_⟩ <;> rw [h.bx.cell] <;> rfl
theorem BR.resc {r : Nat} {w : World} {nb : Nat} {vr vx vj : Value} {now : Int} {R : Tk.Ls} {X : List Int} {J : Jb.Ls} {wr : World} (h : BR r w nb vr vx vj now R X J wr) : (wr.cell? ⟨w.heap.size, 0, none⟩ = some (.slice none 0 0) ∧ wr.cell? ⟨w.heap.size, 1, none⟩ = some (.slice none 0 0) ∧ wr.cell? ⟨w.heap.size, 2, none⟩ = some (.int .i64 0) ∧ wr.cell? ⟨w.heap.size, 3, none⟩ = some (.slice none 0 0)) ∧ (wr.frozen? ⟨w.heap.size, 0, none⟩ = false ∧ wr.frozen? ⟨w.heap.size, 1, none⟩ = false ∧ wr.frozen? ⟨w.heap.size, 2, none⟩ = false ∧ wr.frozen? ⟨w.heap.size, 3, none⟩ = false) := by
  refine ⟨⟨?_, ?_, ?_, ?_⟩, h.rb.fz 0, h.rb.fz 1, h.rb.fz 2, h.rb.fz 3⟩ <;> rw [h.rb.cell] <;> rfl
/-- a run that was drawn -/
def DZ (w : World) (vr vx vj : Value) (w' : World) : Prop := ∃ R X J, RR w' vr vx vj R X J ∧ J.length ≤ 60 ∧ Below w.heap.size w w'
theorem BR.fin {r : Nat} {w : World} {nb : Nat} {vr vx vj : Value} {now : Int} {R : Tk.Ls} {X : List Int} {J : Jb.Ls} {wr : World} (h : BR r w nb vr vx vj now R X J wr) : DZ w vr vx vj (put4 wr w.heap.size vr vx (.int .i64 now) vj) := by
  have KS : KB (fun b => b = w.heap.size) wr (put4 wr w.heap.size vr vx (.int .i64 now) vj) := (((kb_set wr _ 0 _).trans (kb_set _ _ 1 _)).trans (kb_set _ _ 2 _)).trans (kb_set _ _ 3 _)
  have e := h.er
  exact ⟨R, X, J, (h.ly.kb (KS.mono (fun b hb => by omega))).reads, h.sj, h.bel.trans (KS.below h.bel.size (fun b hb => by omega))⟩
theorem BR.new {w w1 w2 : World} {a : Option Addr} {n cap : Nat} (hw1 : w1 = (w.alloc (.cells zr 30)).alloc (.cells #[.slice a n cap, .int .i64 0] 74)) {vr vx vj : Value} {now : Int} (D : DL (w.heap.size + 1) w1 vr vx vj w2) : ∃ R X J, BR (w.heap.size + 1) w w2.heap.size vr vx vj now R X J (w2.alloc (.cells #[vr, vx, .int .i64 now, vj] 30)) := by
  obtain ⟨R, X, J, d1, d2, d3, d4⟩ := D
  have z1 : w1.heap.size = w.heap.size + 2 := by rw [hw1]; simp
  have z2 := d4.size
  have b1 : Below w.heap.size w w1 := by rw [hw1]; exact ((Below.refl _ _).alloc (Nat.le_refl _) _).alloc (by simp) _
  have b3 : Below w2.heap.size w2 (w2.alloc (.cells #[vr, vx, .int .i64 now, vj] 30)) := (Below.refl _ _).alloc (Nat.le_refl _) _
  have rb1 : Bl w1 w.heap.size 30 zr := by rw [hw1]; exact (Bl.new w 30 _).on ((Below.refl _ _).alloc (Nat.le_refl _) _)
  exact ⟨R, X, J, ⟨d3.kept b3 d3.lt, (b1.trans (d4.bel.mono (by omega))).trans (b3.mono (by omega)), rfl, by omega, (rb1.kb (Du.turn_kb d4) (by omega)).on b3, Bl.new w2 30 _, (d1.mono (fun b hb => by omega)).kb (KB.of_below b3), d2⟩⟩
theorem rd_new {w w1 : World} {a : Option Addr} {n cap : Nat} (hc : Rd.Code w a n cap) (hn : n ≤ 1048576) (hw1 : w1 = (w.alloc (.cells zr 30)).alloc (.cells #[.slice a n cap, .int .i64 0] 74)) : Rd (w.heap.size + 1) w1 := by
  have := Rd.new hc hn (w' := w.alloc (.cells zr 30)) ((Below.refl _ _).alloc (Nat.le_refl _) _)
  rw [hw1]
  simpa using this

set_option maxRecDepth 20000 in
set_option maxHeartbeats 4000000 in
theorem drep_any (a : Option Addr) (n cap : Nat) (w : World) (hc : Rd.Code w a n cap) (hn : n ≤ 1048576) :
    Calls Try.prog 7 #[.slice a n cap] w fun e w' => ∃ vr vx vj now k ok, e = .returned (.tuple #[rv vr vx now vj, .int .i64 k, .bool ok]) ∧ DZ w vr vx vj w' := by
  obtain ⟨w1, hw1⟩ : ∃ y, y = (w.alloc (.cells zr 30)).alloc (.cells #[.slice a n cap, .int .i64 0] 74) := ⟨_, rfl⟩
  have HW1 : Hid (w1 = (w.alloc (.cells zr 30)).alloc (.cells #[.slice a n cap, .int .i64 0] 74)) := hw1
  have K1 : Hid (Rd (w.heap.size + 1) w1) := rd_new hc hn hw1
  have NEW : Hid (∀ (w2 : World) (vr vx vj : Value) (now : Int), DL (w.heap.size + 1) w1 vr vx vj w2 → ∃ R X J, BR (w.heap.size + 1) w w2.heap.size vr vx vj now R X J (w2.alloc (.cells #[vr, vx, .int .i64 now, vj] 30))) := fun w2 vr vx vj now D => BR.new hw1 D
  have O : Hid (Calls Try.prog 21 #[.slice a n cap] (w.alloc (.cells zr 30)) fun e w' => e = .returned (.pointer (some ⟨w.heap.size + 1, 0, none⟩)) ∧ w' = w1) := (open_any _ a n cap rfl _).mono (by
    rintro e w' ⟨rfl, rfl⟩
    exact ⟨by simp, hw1.symm⟩)
  obtain ⟨r, hr⟩ : ∃ r, r = w.heap.size + 1 := ⟨_, rfl⟩
  rw [← hr] at K1 NEW O
  clear hc hw1 HW1 hr
  go_enter Try.func7, Try.ntmps7
  go_wp2_with fail
  refine O.out.mono ?_
  rintro e w1' ⟨rfl, hw⟩
  subst hw
  clear O
  go_wp2_with fail
  refine (draw_any r _ K1.out).mono ?_
  rintro e w2 ⟨vr, vx, vj, now, rfl, D⟩
  obtain ⟨R, X, J, S0⟩ := NEW.out w2 vr vx vj now D
  obtain ⟨nb, hnb⟩ : ∃ y, y = w2.heap.size := ⟨_, rfl⟩
  have HNB : Hid (nb = w2.heap.size) := hnb
  obtain ⟨w3, hw3⟩ : ∃ y, y = w2.alloc (.cells #[vr, vx, .int .i64 now, vj] 30) := ⟨_, rfl⟩
  have HW3 : Hid (w3 = w2.alloc (.cells #[vr, vx, .int .i64 now, vj] 30)) := hw3
  have S3 : Hid (BR r w nb vr vx vj now R X J w3) := (by show BR _ _ _ _ _ _ _ _ _ _ _; rw [hw3, hnb]; exact S0)
  clear NEW K1 D S0 hnb hw3
  obtain ⟨ra, rc, xa, xc, ja, jc, e1, e2, e3⟩ := S3.out.ly.form
  subst e1 e2 e3
  go_upto_region 3 with fail
  rw [← HW3.out, ← HNB.out]
  clear HW3 HNB
  obtain ⟨c0, c1, c2, c3⟩ := S3.out.cells
  have jl : J.length ≤ 60 := S3.out.sj
  have C1 : Hid (Calls Try.prog 23 #[.pointer (some ⟨r, 0, none⟩), .int .i64 ((J.length : Int) + 2)] w3 (Drawn r w3 fun u => 0 ≤ u ∧ u < (J.length : Int) + 2)) := (by
    have := below_all r w3 S3.out.rd (J.length + 2) (by omega) (by omega)
    rw [Int.natCast_add] at this
    exact this)
  go_wp2_with fail
  refine C1.out.mono ?_
  rintro e w4 ⟨⟨u, ⟨hu1, hu2⟩, rfl⟩, k4, t4⟩
  have S4 : Hid (BR r w nb (.slice ra R.length rc) (.slice xa X.length xc) (.slice ja J.length jc) now R X J w4) := S3.out.turn k4 t4
  clear k4 t4 S3 C1 c0 c1 c2 c3
  go_wp2_with fail
  refine (once_any r w4 S4.out.rd 4 (by omega) (by omega)).mono ?_
  rintro e w5 ⟨⟨b, rfl⟩, k5, t5⟩
  have S5 : Hid (BR r w nb (.slice ra R.length rc) (.slice xa X.length xc) (.slice ja J.length jc) now R X J w5) := S4.out.turn k5 t5
  clear k5 t5 S4 hu1 hu2
  have FIN : Hid (∀ W : World, BR r w nb (.slice ra R.length rc) (.slice xa X.length xc) (.slice ja J.length jc) now R X J W → DZ w (.slice ra R.length rc) (.slice xa X.length xc) (.slice ja J.length jc) (put4 W w.heap.size (.slice ra R.length rc) (.slice xa X.length xc) (.int .i64 now) (.slice ja J.length jc))) := fun W h => h.fin
  cases b
  · go_wp2_with fail
    go_loopw [7, 8] (fun q c wr => ∃ (k : Nat) (z : Int), k ≤ J.length ∧ c = .int .i64 k ∧ q = .int .i64 z ∧ Hid (BR r w nb (.slice ra R.length rc) (.slice xa X.length xc) (.slice ja J.length jc) now R X J wr)) (fun _ c _ => J.length - (intOf c).toNat)
    case atStart => exact ⟨0, u, Nat.zero_le _, rfl, rfl, S5⟩
    case round =>
      clear S5
      obtain ⟨k, z, hk, rfl, rfl, S⟩ := hrel
      obtain ⟨c0, c1, c2, c3⟩ := S.out.cells
      by_cases hlt : k < J.length
      · have i1 : (0 : Int) ≤ (k : Int) := by omega
        have i2 : (k : Int) < (J.length : Int) := by omega
        obtain ⟨jb, jo, cap', e1, _, _, _, hcs⟩ : ∃ b o cap, (Value.slice ja J.length jc) = .slice (some ⟨b, o, none⟩) J.length cap ∧ J.length ≤ cap ∧ cap ≤ maxLen ∧ b < wr.heap.size ∧ ∀ i, i < J.length → Jb.Cs wr b o J i := by
          rcases S.out.ly.reads.2.2 with ⟨e, _⟩ | q
          · rw [e] at hlt; simp at hlt
          · exact q
        simp at e1
        obtain ⟨rfl, rfl⟩ := e1
        obtain ⟨j0, _⟩ := hcs k hlt
        clear hcs
        by_cases h1 : Jb.c0 J k = 1
        · rw [h1] at j0
          go_wp2_with fail
          refine (once_any r wr S.out.rd 2 (by omega) (by omega)).mono ?_
          rintro e w6 ⟨⟨b, rfl⟩, k6, t6⟩
          have S6 : Hid (BR r w nb (.slice ra R.length rc) (.slice xa X.length xc) (.slice (some ⟨jb, jo, none⟩) J.length jc) now R X J w6) := S.out.turn k6 t6
          clear k6 t6 S j0 c0 c1 c2 c3
          cases b
          · go_wp2_with fail
            go_roundw
            case rel => exact ⟨k + 1, z, by omega, by go_num, rfl, S6⟩
            case measure => simp [intOf]; omega
          · go_wp2_with fail
            go_roundw
            case rel => exact ⟨k + 1, (k : Int) + 1, by omega, by go_num, by go_num, S6⟩
            case measure => simp [intOf]; omega
        · have h1' : (Jb.c0 J k == 1) = false := by simpa using h1
          generalize Jb.c0 J k = zz at *
          go_wp2_with fail
          go_roundw
          case rel => exact ⟨k + 1, z, by omega, by go_num, rfl, S⟩
          case measure => simp [intOf]; omega
      · have i2 : ¬ (k : Int) < (J.length : Int) := by omega
        obtain ⟨⟨q0, q1, q2, q3⟩, f0, f1, f2, f3⟩ := S.out.resc
        go_upto_region 10 with fail
        go_region_with (go_at_call 24; refine (once_any r _ S.out.drew.rd 2 (by omega) (by omega)).mono ?_; rintro e w6 ⟨⟨bb, rfl⟩, k6, t6⟩; have S6 : Hid (BR r w nb (.slice ra R.length rc) (.slice xa X.length xc) (.slice ja J.length jc) now R X J w6) := S.out.drew.turn k6 t6; obtain ⟨p0, p1, p2, p3⟩ := S6.out.cells; obtain ⟨⟨y0, y1, y2, y3⟩, g0, g1, g2, g3⟩ := S6.out.resc)
        all_goals
          go_wp2_with fail
          exact bodyPost_ret (v := .tuple #[rv (.slice ra R.length rc) (.slice xa X.length xc) now (.slice ja J.length jc), .int .i64 z, .bool bb]) (by simp [results, Try.results7, go_sem, y0, y1, y2, y3]) rfl ⟨_, _, _, _, _, _, rfl, FIN.out _ S6.out⟩
  · obtain ⟨⟨q0, q1, q2, q3⟩, f0, f1, f2, f3⟩ := S5.out.resc
    obtain ⟨c0, c1, c2, c3⟩ := S5.out.cells
    go_upto_region 10 with fail
    go_region_with (go_at_call 24; refine (once_any r _ S5.out.drew.rd 2 (by omega) (by omega)).mono ?_; rintro e w6 ⟨⟨bb, rfl⟩, k6, t6⟩; have S6 : Hid (BR r w nb (.slice ra R.length rc) (.slice xa X.length xc) (.slice ja J.length jc) now R X J w6) := S5.out.drew.turn k6 t6; obtain ⟨p0, p1, p2, p3⟩ := S6.out.cells; obtain ⟨⟨y0, y1, y2, y3⟩, g0, g1, g2, g3⟩ := S6.out.resc)
    all_goals
      go_wp2_with fail
      exact bodyPost_ret (v := .tuple #[rv (.slice ra R.length rc) (.slice xa X.length xc) now (.slice ja J.length jc), .int .i64 u, .bool bb]) (by simp [results, Try.results7, go_sem, y0, y1, y2, y3]) rfl ⟨_, _, _, _, _, _, rfl, FIN.out _ S6.out⟩

set_option maxRecDepth 20000 in
set_option maxHeartbeats 4000000 in
theorem dtick_any (a : Option Addr) (n cap : Nat) (w : World) (hc : Rd.Code w a n cap) (hn : n ≤ 1048576) :
    Calls Try.prog 11 #[.slice a n cap] w fun e w' => ∃ vr vx vj now k, e = .returned (.tuple #[rv vr vx now vj, .int .i64 k]) ∧ DZ w vr vx vj w' := by
  obtain ⟨w1, hw1⟩ : ∃ y, y = (w.alloc (.cells zr 30)).alloc (.cells #[.slice a n cap, .int .i64 0] 74) := ⟨_, rfl⟩
  have HW1 : Hid (w1 = (w.alloc (.cells zr 30)).alloc (.cells #[.slice a n cap, .int .i64 0] 74)) := hw1
  have K1 : Hid (Rd (w.heap.size + 1) w1) := rd_new hc hn hw1
  have NEW : Hid (∀ (w2 : World) (vr vx vj : Value) (now : Int), DL (w.heap.size + 1) w1 vr vx vj w2 → ∃ R X J, BR (w.heap.size + 1) w w2.heap.size vr vx vj now R X J (w2.alloc (.cells #[vr, vx, .int .i64 now, vj] 30))) := fun w2 vr vx vj now D => BR.new hw1 D
  have O : Hid (Calls Try.prog 21 #[.slice a n cap] (w.alloc (.cells zr 30)) fun e w' => e = .returned (.pointer (some ⟨w.heap.size + 1, 0, none⟩)) ∧ w' = w1) := (open_any _ a n cap rfl _).mono (by
    rintro e w' ⟨rfl, rfl⟩
    exact ⟨by simp, hw1.symm⟩)
  obtain ⟨r, hr⟩ : ∃ r, r = w.heap.size + 1 := ⟨_, rfl⟩
  rw [← hr] at K1 NEW O
  clear hc hw1 HW1 hr
  go_enter Try.func11, Try.ntmps11
  go_wp2_with fail
  refine O.out.mono ?_
  rintro e w1' ⟨rfl, hw⟩
  subst hw
  clear O
  go_wp2_with fail
  refine (draw_any r _ K1.out).mono ?_
  rintro e w2 ⟨vr, vx, vj, now, rfl, D⟩
  obtain ⟨R, X, J, S0⟩ := NEW.out w2 vr vx vj now D
  obtain ⟨nb, hnb⟩ : ∃ y, y = w2.heap.size := ⟨_, rfl⟩
  have HNB : Hid (nb = w2.heap.size) := hnb
  obtain ⟨w3, hw3⟩ : ∃ y, y = w2.alloc (.cells #[vr, vx, .int .i64 now, vj] 30) := ⟨_, rfl⟩
  have HW3 : Hid (w3 = w2.alloc (.cells #[vr, vx, .int .i64 now, vj] 30)) := hw3
  have S3 : Hid (BR r w nb vr vx vj now R X J w3) := (by show BR _ _ _ _ _ _ _ _ _ _ _; rw [hw3, hnb]; exact S0)
  clear NEW K1 D S0 hnb hw3
  obtain ⟨ra, rc, xa, xc, ja, jc, e1, e2, e3⟩ := S3.out.ly.form
  subst e1 e2 e3
  go_upto_region 3 with fail
  rw [← HW3.out, ← HNB.out]
  clear HW3 HNB
  have FIN : Hid (∀ W : World, BR r w nb (.slice ra R.length rc) (.slice xa X.length xc) (.slice ja J.length jc) now R X J W → DZ w (.slice ra R.length rc) (.slice xa X.length xc) (.slice ja J.length jc) (put4 W w.heap.size (.slice ra R.length rc) (.slice xa X.length xc) (.int .i64 now) (.slice ja J.length jc))) := fun W h => h.fin
  go_wp2_with fail
  refine (once_any r w3 S3.out.rd 9 (by omega) (by omega)).mono ?_
  rintro e w5 ⟨⟨b, rfl⟩, k5, t5⟩
  have S5 : Hid (BR r w nb (.slice ra R.length rc) (.slice xa X.length xc) (.slice ja J.length jc) now R X J w5) := S3.out.turn k5 t5
  clear k5 t5 S3
  obtain ⟨⟨q0, q1, q2, q3⟩, f0, f1, f2, f3⟩ := S5.out.resc
  obtain ⟨c0, c1, c2, c3⟩ := S5.out.cells
  cases b
  · go_upto_region 5 with fail
    go_region_with (go_at_call 23; refine (below_all r _ S5.out.drew.rd 60 (by omega) (by omega)).mono ?_; rintro e w6 ⟨⟨u, _, rfl⟩, k6, t6⟩; have S6 : Hid (BR r w nb (.slice ra R.length rc) (.slice xa X.length xc) (.slice ja J.length jc) now R X J w6) := S5.out.drew.turn k6 t6; obtain ⟨p0, p1, p2, p3⟩ := S6.out.cells; obtain ⟨⟨y0, y1, y2, y3⟩, g0, g1, g2, g3⟩ := S6.out.resc)
    all_goals
      go_wp2_with fail
      exact bodyPost_ret (v := .tuple #[rv (.slice ra R.length rc) (.slice xa X.length xc) now (.slice ja J.length jc), .int .i64 u]) (by simp [results, Try.results11, go_sem, y0, y1, y2, y3]) rfl ⟨_, _, _, _, _, rfl, FIN.out _ S6.out⟩
  · go_upto_region 4 with fail
    go_region_with (go_at_call 31; refine (number_any r _ S5.out.drew.rd).mono ?_; rintro e w6 ⟨⟨u, _, rfl⟩, k6, t6⟩; have S6 : Hid (BR r w nb (.slice ra R.length rc) (.slice xa X.length xc) (.slice ja J.length jc) now R X J w6) := S5.out.drew.turn k6 t6; obtain ⟨p0, p1, p2, p3⟩ := S6.out.cells; obtain ⟨⟨y0, y1, y2, y3⟩, g0, g1, g2, g3⟩ := S6.out.resc)
    all_goals
      go_wp2_with fail
      exact bodyPost_ret (v := .tuple #[rv (.slice ra R.length rc) (.slice xa X.length xc) now (.slice ja J.length jc), .int .i64 u]) (by simp [results, Try.results11, go_sem, y0, y1, y2, y3]) rfl ⟨_, _, _, _, _, rfl, FIN.out _ S6.out⟩
end Go.Proofs.Ytfhpomfdkpfooaa.Ty
