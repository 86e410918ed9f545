/- A run drawn, right or not. -/
import Derived.Test.YtfhpomfdkpfooaaDx
import Derived.Deep.CutBlock
namespace Go.Proofs.Ytfhpomfdkpfooaa.Ty
open Go.ChangeShapes Go.WideShapes Go.ChangeAt Go.RowKit
open Go.Proofs.Ytfhpomfdkpfooaa.Lists Go.Proofs.Ytfhpomfdkpfooaa.Tm Go.Proofs.Ytfhpomfdkpfooaa.Rk Go.Proofs.Ytfhpomfdkpfooaa.Ru Go.Proofs.Ytfhpomfdkpfooaa.Al Go.Proofs.Ytfhpomfdkpfooaa.Rd Go.Proofs.Ytfhpomfdkpfooaa.Cp

theorem LY.form {S : Nat → Prop} {w : World} {vr vx vj : Value} {R : Tk.Ls} {X : List Int} {J : Jb.Ls} (h : LY S w vr vx vj R X J) : ∃ ra rc xa xc ja jc, vr = .slice ra R.length rc ∧ vx = .slice xa X.length xc ∧ vj = .slice ja J.length jc := by
  obtain ⟨ra, rc, e1⟩ := h.reads.1.form
  obtain ⟨xa, xc, e2⟩ := h.reads.2.1.form
  obtain ⟨ja, jc, e3⟩ := h.reads.2.2.form
  exact ⟨ra, rc, xa, xc, ja, jc, e1, e2, e3⟩
theorem mo_some {w : World} {B : Nat} {ra xa ja : Option Addr} {rc xc jc : Nat} {R : Tk.Ls} {X : List Int} {J : Jb.Ls} (h : MO w B (.slice ra R.length rc) (.slice xa X.length xc) (.slice ja J.length jc) R X J) (hx : 1 ≤ X.length) (hj : 1 ≤ J.length) : (∃ xb, xa = some ⟨xb, 0, none⟩) ∧ (∃ jb, ja = some ⟨jb, 0, none⟩) ∧ J.length ≤ jc ∧ jc ≤ maxLen := by
  refine ⟨?_, ?_⟩
  · rcases Tk.row_cases h.2.1 with ⟨hz, _⟩ | ⟨g, cap, hg, _⟩
    · omega
    · simp at hg; exact ⟨g, hg.1⟩
  · obtain ⟨ys, h4, _⟩ := h.2.2
    rcases Tk.row_cases h4 with ⟨hz, _⟩ | ⟨g, cap, hg, _, _, q1, q2⟩
    · omega
    · simp at hg; exact ⟨⟨g, hg.1⟩, by omega, by omega⟩

set_option maxRecDepth 20000 in
set_option maxHeartbeats 4000000 in
theorem draw_any (r : Nat) (w : World) (h : Rd r w) :
    Calls Try.prog 22 #[.pointer (some ⟨r, 0, none⟩)] w fun e w' => ∃ vr vx vj now, e = .returned (rv vr vx now vj) ∧ DL r w vr vx vj w' := by
  have hr := h.lt
  obtain ⟨w0, hw0⟩ : ∃ w0, w0 = w.alloc (.cells #[.slice none 0 0, .slice none 0 0, .int .i64 0, .slice none 0 0] 30) := ⟨_, rfl⟩
  have HW0 : Hid (w0 = w.alloc (.cells #[.slice none 0 0, .slice none 0 0, .int .i64 0, .slice none 0 0] 30)) := hw0
  have Z0 : Hid (w0.heap.size = w.heap.size + 1) := (by show _ = _; rw [hw0]; simp)
  have K0 : Hid (Rd r w0 ∧ Turn r w w0 ∧ Bl w0 w.heap.size 30 zr) := (by show _ ∧ _ ∧ _; rw [hw0]; exact ⟨h.kept ((Below.refl w.heap.size w).alloc (Nat.le_refl _) _) hr, (Turn.refl r w).alloc hr _, Bl.new w 30 _⟩)
  clear hw0 h
  go_enter Try.func22, Try.ntmps22
  go_upto_region 1 with fail
  rw [← HW0.out]
  clear HW0
  go_wp2_with fail
  refine (run_any r w0 K0.out.1).mono ?_
  rintro e w2 ⟨ur, ux, uj, now, rfl, D⟩
  obtain ⟨R, X, J, d1, d2, d3, d4⟩ := D
  obtain ⟨nb, hnb⟩ : ∃ y, y = w2.heap.size := ⟨_, rfl⟩
  have HNB : Hid (nb = w2.heap.size) := hnb
  obtain ⟨w3, hw3⟩ : ∃ y, y = w2.alloc (.cells #[ur, ux, .int .i64 now, uj] 30) := ⟨_, rfl⟩
  have HW3 : Hid (w3 = w2.alloc (.cells #[ur, ux, .int .i64 now, uj] 30)) := hw3
  have S3 : Hid (RD r w nb ur ux uj now R X J w3) := (by
    show RD _ _ _ _ _ _ _ _ _ _ _
    obtain ⟨k1, k2, k3⟩ := K0.out
    have z0 := Z0.out
    have z1 := d4.size
    have b3 : Below w2.heap.size w2 w3 := by rw [hw3]; exact (Below.refl _ _).alloc (Nat.le_refl _) _
    refine ⟨d3.kept b3 d3.lt, (k2.trans d4).trans (Turn.of b3 (Nat.le_refl _) (Nat.le_of_lt d3.lt)), by omega, (k3.kb (Du.turn_kb d4) (by omega)).on b3, by rw [hw3, hnb]; exact Bl.new w2 30 _, (d1.on b3).down (by omega), d2⟩)
  obtain ⟨ra, rc, xa, xc, ja, jc, e1, e2, e3⟩ := S3.out.mo.form
  subst e1 e2 e3
  obtain ⟨⟨xb, e1⟩, ⟨jb, e2⟩, hc1, hc2⟩ := mo_some S3.out.mo S3.out.len.2 S3.out.len.1.1
  subst e1 e2
  have HLJ : Hid (((1 ≤ J.length ∧ J.length ≤ 60) ∧ 1 ≤ X.length) ∧ J.length ≤ jc ∧ jc ≤ maxLen) := ⟨S3.out.len, hc1, hc2⟩
  clear d1 d2 d3 d4 hnb hw3 hc1 hc2
  go_upto_region 2 with fail
  rw [← HW3.out, ← HNB.out]
  clear HW3 HNB K0
  go_wp2_with fail
  refine (once_any r w3 S3.out.rd 7 (by omega) (by omega)).mono ?_
  rintro e w4 ⟨⟨b, rfl⟩, k4, t4⟩
  have S4 : Hid (RD r w nb (.slice ra R.length rc) (.slice (some ⟨xb, 0, none⟩) X.length xc) (.slice (some ⟨jb, 0, none⟩) J.length jc) now R X J w4) := S3.out.turn hr k4 t4
  clear k4 t4 S3
  have FIN : Hid (∀ (W : World) (vr vx vj : Value) (now : Int) (R : Tk.Ls) (X : List Int) (J : Jb.Ls), RQ r w nb vr vx vj now R X J W → (W.cell? ⟨nb, 0, none⟩ = some vr ∧ W.cell? ⟨nb, 1, none⟩ = some vx ∧ W.cell? ⟨nb, 2, none⟩ = some (.int .i64 now) ∧ W.cell? ⟨nb, 3, none⟩ = some vj) ∧ (W.cell? ⟨w.heap.size, 0, none⟩ = some (.slice none 0 0) ∧ W.cell? ⟨w.heap.size, 1, none⟩ = some (.slice none 0 0) ∧ W.cell? ⟨w.heap.size, 2, none⟩ = some (.int .i64 0) ∧ W.cell? ⟨w.heap.size, 3, none⟩ = some (.slice none 0 0)) ∧ (W.frozen? ⟨w.heap.size, 0, none⟩ = false ∧ W.frozen? ⟨w.heap.size, 1, none⟩ = false ∧ W.frozen? ⟨w.heap.size, 2, none⟩ = false ∧ W.frozen? ⟨w.heap.size, 3, none⟩ = false) ∧ DL r w vr vx vj (put4 W w.heap.size vr vx (.int .i64 now) vj)) := fun W vr vx vj now R X J q => (by
    have KS : KB (fun b => b = w.heap.size) W (put4 W w.heap.size vr vx (.int .i64 now) vj) := (((kb_set W _ 0 _).trans (kb_set _ _ 1 _)).trans (kb_set _ _ 2 _)).trans (kb_set _ _ 3 _)
    refine ⟨⟨?_, ?_, ?_, ?_⟩, ⟨?_, ?_, ?_, ?_⟩, ⟨q.rb.fz 0, q.rb.fz 1, q.rb.fz 2, q.rb.fz 3⟩, R, X, J, ?_, q.sj, Du.rd_kb q.rd KS (fun b hb => by omega), Du.kb_turn hr q.tu KS (fun b hb => by omega)⟩
    · rw [q.bx.cell]; rfl
    · rw [q.bx.cell]; rfl
    · rw [q.bx.cell]; rfl
    · rw [q.bx.cell]; rfl
    · rw [q.rb.cell]; rfl
    · rw [q.rb.cell]; rfl
    · rw [q.rb.cell]; rfl
    · rw [q.rb.cell]; rfl
    · exact (q.ly.kb (KS.mono (fun b hb => by omega))).mono (fun b hb => by omega))
  cases b
  · obtain ⟨⟨c0, c1, c2, c3⟩, ⟨q0, q1, q2, q3⟩, ⟨f0, f1, f2, f3⟩, dl⟩ := FIN.out w4 _ _ _ _ _ _ _ S4.out.rq
    have HD : Hid (DL r w (.slice ra R.length rc) (.slice (some ⟨xb, 0, none⟩) X.length xc) (.slice (some ⟨jb, 0, none⟩) J.length jc) (put4 w4 w.heap.size (.slice ra R.length rc) (.slice (some ⟨xb, 0, none⟩) X.length xc) (.int .i64 now) (.slice (some ⟨jb, 0, none⟩) J.length jc))) := dl
    clear dl
    go_wp2_with fail
    exact bodyPost_ret (v := rv (.slice ra R.length rc) (.slice (some ⟨xb, 0, none⟩) X.length xc) now (.slice (some ⟨jb, 0, none⟩) J.length jc)) (by simp [results, Try.results22, go_sem, q0, q1, q2, q3]) rfl ⟨_, _, _, _, rfl, HD.out⟩
  · go_wp2_with fail
    refine (below_all r w4 S4.out.rd 5 (by omega) (by omega)).mono ?_
    rintro e w5 ⟨⟨u, ⟨hu1, hu2⟩, rfl⟩, k5, t5⟩
    have S5 : Hid (RD r w nb (.slice ra R.length rc) (.slice (some ⟨xb, 0, none⟩) X.length xc) (.slice (some ⟨jb, 0, none⟩) J.length jc) now R X J w5) := S4.out.turn hr k5 t5
    clear k5 t5 S4
    go_upto_block 0 with fail
    go_cut [] (fun wx => ∃ (vr vx vj : Value) (now : Int) (R : Tk.Ls) (X : List Int) (J : Jb.Ls), Hid (RQ r w nb vr vx vj now R X J wx))
    case first =>
      have hc : u = 0 ∨ u = 1 ∨ u = 2 ∨ u = 3 ∨ u = 4 := by omega
      clear hu1 hu2
      rcases hc with rfl | rfl | rfl | rfl | rfl
      · have bA : Below w5.heap.size w5 (w5.alloc (.cells #[.int .i64 (-1), .int .i64 1000000000000, .int .i64 1000000000001] 2)) := (Below.refl _ _).alloc (Nat.le_refl _) _
        have SA : Hid (RD r w nb (.slice ra R.length rc) (.slice (some ⟨xb, 0, none⟩) X.length xc) (.slice (some ⟨jb, 0, none⟩) J.length jc) now R X J (w5.alloc (.cells #[.int .i64 (-1), .int .i64 1000000000000, .int .i64 1000000000001] 2))) := S5.out.up hr bA
        clear bA
        have NE : Hid (w5.heap.size ≠ r) := (by have := S5.out.rd.lt; show _ ≠ _; omega)
        go_wp2_with fail
        refine (below_all r _ SA.out.rd 3 (by omega) (by omega)).mono ?_
        rintro e w6 ⟨⟨u, ⟨hu1, hu2⟩, rfl⟩, k6, t6⟩
        obtain ⟨z, hz⟩ := pick3 u hu1 hu2
        have cz : w6.cell? ⟨w5.heap.size, u.toNat, none⟩ = some (.int .i64 z) := (t6.cell u.toNat (by simp) NE.out).trans (hz w5)
        have S6 : Hid (RD r w nb (.slice ra R.length rc) (.slice (some ⟨xb, 0, none⟩) X.length xc) (.slice (some ⟨jb, 0, none⟩) J.length jc) now R X J w6) := SA.out.turn hr k6 t6
        obtain ⟨c0, c1, c2, c3⟩ := S6.out.cells
        obtain ⟨f0, f1, f2, f3⟩ := S6.out.free
        clear k6 t6 hz
        go_wp2_with fail
        go_meet
        exact ⟨_, _, _, z, _, _, _, S6.out.now hr z⟩
      · obtain ⟨c0, c1, c2, c3⟩ := S5.out.cells
        have jl : (1 : Int) ≤ (J.length : Int) := by have := HLJ.out; omega
        have jl0 : (0 : Int) < (J.length : Int) := by omega
        go_upto_region 9 with fail
        go_region_with (go_at_call 23; refine (below_all r _ (S5.out.drew hr).rd 6 (by omega) (by omega)).mono ?_; rintro e w6 ⟨⟨u, ⟨hu1, hu2⟩, rfl⟩, k6, t6⟩; have S6 : Hid (RD r w nb (.slice ra R.length rc) (.slice (some ⟨xb, 0, none⟩) X.length xc) (.slice (some ⟨jb, 0, none⟩) J.length jc) now R X J w6) := (S5.out.drew hr).turn hr k6 t6; obtain ⟨p0, p1, p2, p3⟩ := S6.out.cells; have j0 : w6.cell? ⟨jb, 0, none⟩ = some (.int .i64 (Jb.c0 J 0)) := (by have := (jrow_cell S6.out.mo.2.2 0 (by omega)).1; simpa using this); have jf := jrow_fz S6.out.mo.2.2 0; have wu : IntKind.i64.wrap (u - 1) = u - 1 := IntWalk.i64_in _ (by omega))
        all_goals
          go_wp2_with fail
          go_meet
          have q := jrow_set0 S6.out.mo.2.2 (i := 0) (by omega) (u - 1)
          rw [Nat.zero_mul] at q
          exact ⟨_, _, _, _, _, _, _, S6.out.job hr (kb_set w6 jb 0 _) (js_len _ _ _ _) q⟩
      · obtain ⟨c0, c1, c2, c3⟩ := S5.out.cells
        have jl : (1 : Int) ≤ (J.length : Int) := by have := HLJ.out; omega
        have jl0 : (0 : Int) < (J.length : Int) := by omega
        go_upto_region 11 with fail
        go_region_with (go_at_call 23; refine (below_all r _ (S5.out.drew hr).rd 5 (by omega) (by omega)).mono ?_; rintro e w6 ⟨⟨u, ⟨hu1, hu2⟩, rfl⟩, k6, t6⟩; have S6 : Hid (RD r w nb (.slice ra R.length rc) (.slice (some ⟨xb, 0, none⟩) X.length xc) (.slice (some ⟨jb, 0, none⟩) J.length jc) now R X J w6) := (S5.out.drew hr).turn hr k6 t6; obtain ⟨p0, p1, p2, p3⟩ := S6.out.cells; have j0 : w6.cell? ⟨jb, 1, none⟩ = some (.int .i64 (Jb.c1 J 0)) := (by have := (jrow_cell S6.out.mo.2.2 0 (by omega)).2; simpa using this); have jf := jrow_fz S6.out.mo.2.2 1; have wu : IntKind.i64.wrap (u - 1) = u - 1 := IntWalk.i64_in _ (by omega))
        all_goals
          go_wp2_with fail
          go_meet
          have q := jrow_set1 S6.out.mo.2.2 (i := 0) (by omega) (u - 1)
          rw [Nat.zero_mul, Nat.zero_add] at q
          exact ⟨_, _, _, _, _, _, _, S6.out.job hr (kb_set w6 jb 1 _) (js_len _ _ _ _) q⟩
      · obtain ⟨c0, c1, c2, c3⟩ := S5.out.cells
        obtain ⟨f0, f1, f2, f3⟩ := S5.out.free
        have jl : (1 : Int) ≤ (J.length : Int) := by have := HLJ.out; omega
        have jl1 : 1 ≤ J.length := by omega
        have jcl : J.length ≤ jc := HLJ.out.2.1
        by_cases e1 : jc = 1
        · have RQ1 : Hid (RQ r w nb (.slice ra R.length rc) (.slice (some ⟨xb, 0, none⟩) X.length xc) (.slice (some ⟨jb, 0, none⟩) (J.length - 1) 0) now R X J.tail (w5.setCell ⟨nb, 3, none⟩ (.slice (some ⟨jb, 0, none⟩) (J.length - 1) 0))) := S5.out.cut hr _ (by rw [if_pos e1, e1]) HLJ.out.2
          have HE : Hid (jc = 1) := e1
          go_wp2_with fail
          go_meet
          exact ⟨_, _, _, _, _, _, _, RQ1⟩
        · have RQ1 : Hid (RQ r w nb (.slice ra R.length rc) (.slice (some ⟨xb, 0, none⟩) X.length xc) (.slice (some ⟨jb, 2, none⟩) (J.length - 1) (jc - 1)) now R X J.tail (w5.setCell ⟨nb, 3, none⟩ (.slice (some ⟨jb, 2, none⟩) (J.length - 1) (jc - 1)))) := S5.out.cut hr _ (by rw [if_neg e1]) HLJ.out.2
          go_wp2_with fail
          go_meet
          exact ⟨_, _, _, _, _, _, _, RQ1⟩
      · obtain ⟨c0, c1, c2, c3⟩ := S5.out.cells
        have xl : (0 : Int) < (X.length : Int) := by have := HLJ.out; omega
        obtain ⟨R', X', hR, hX, HQ⟩ := S5.out.lim hr 1
        have HQ1 : Hid (RQ r w nb (.slice ra R.length rc) (.slice (some ⟨xb, 0, none⟩) X.length xc) (.slice (some ⟨jb, 0, none⟩) J.length jc) now R' X' J (w5.setCell ⟨xb, 0, none⟩ (.int .i64 1))) := HQ
        have x0 : w5.cell? ⟨xb, 0, none⟩ = some (.int .i64 (X.getD 0 0)) := (S5.out.mo.2.1.cellAt 0 (by have := HLJ.out; omega)).trans (by have : 0 < X.length := (by omega); simp [ints, List.getD_eq_getElem?_getD, this])
        have xf := S5.out.mo.2.1.frozenAt 0
        clear HQ hR hX
        go_wp2_with fail
        go_meet
        exact ⟨_, _, _, _, _, _, _, HQ1⟩
    case rest =>
      clear S5
      obtain ⟨vr, vx, vj, now', R', X', J', Q⟩ := hcut
      obtain ⟨wx, hwx⟩ : ∃ x : World, x = wc := ⟨_, rfl⟩
      subst hwx
      obtain ⟨a1, a2, a3, a4, a5, a6, e1, e2, e3⟩ := Q.out.ly.form
      subst e1 e2 e3
      obtain ⟨⟨c0, c1, c2, c3⟩, ⟨q0, q1, q2, q3⟩, ⟨f0, f1, f2, f3⟩, dl⟩ := FIN.out wx _ _ _ _ _ _ _ Q.out
      have HD : Hid (DL r w (.slice a1 R'.length a2) (.slice a3 X'.length a4) (.slice a5 J'.length a6) (put4 wx w.heap.size (.slice a1 R'.length a2) (.slice a3 X'.length a4) (.int .i64 now') (.slice a5 J'.length a6))) := dl
      clear dl
      go_wp2_with fail
      exact bodyPost_ret (v := rv (.slice a1 R'.length a2) (.slice a3 X'.length a4) now' (.slice a5 J'.length a6)) (by simp [results, Try.results22, go_sem, q0, q1, q2, q3]) rfl ⟨_, _, _, _, rfl, HD.out⟩
end Go.Proofs.Ytfhpomfdkpfooaa.Ty
