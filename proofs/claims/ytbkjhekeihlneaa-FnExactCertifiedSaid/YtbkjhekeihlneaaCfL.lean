/- The law walked; what model and program answer comes in as hypotheses. -/
import Derived.Test.YtbkjhekeihlneaaPb
import Derived.Deep.RegionHeld3
namespace Go.Proofs.Ytbkjhekeihlneaa.LawCfL
open Go.ChangeShapes Go.WideShapes Go.ChangeAt Go.RowKit
open Go.Proofs.Ytbkjhekeihlneaa.Lists
def PR (w : World) (G T : List Int) (R : Rw.Ls) (g t r : Value) : Prop := Lists.Reads w g G ∧ Lists.Reads w t T ∧ Rw.Reads w r R
theorem PR.on {w w' : World} {G T : List Int} {R : Rw.Ls} {g t r : Value} (h : PR w G T R g t r) (hb : Below w.heap.size w w') : PR w' G T R g t r := ⟨h.1.on hb, h.2.1.on hb, h.2.2.on hb⟩
theorem below_drewN {B : Nat} {a w : World} (h : Below B a w) (n : Nat) : Below B a (w.drewN n) := h.trans ⟨rfl, rfl, rfl, Nat.le_refl _, fun _ _ => rfl⟩
set_option maxRecDepth 20000 in
set_option maxHeartbeats 2000000 in
theorem certLaw (w : World) (n : Int) (vg : Value) (G : List Int) (hG : Lists.Reads w vg G) (fG : G.length < 9223372036854775808) (vt : Value) (T : List Int) (hT : Lists.Reads w vt T) (fT : T.length < 9223372036854775808) (vr : Value) (R : Rw.Ls) (hR : Rw.Reads w vr R) (vx : Value) (X : List Int) (hX : Lists.Reads w vx X) (fX : X.length < 9223372036854775808) (r : Bool)
    (SA : ∀ (w : World) (g t r' x : Value), PR w G T R g t r' → Lists.Reads w x X → Calls Try.prog 16 #[Pb.pv n g t r', x] w fun e w' => e = .returned (.bool r) ∧ Below w.heap.size w w')
    (IA : ∀ (w : World) (g t r' x : Value), PR w G T R g t r' → Lists.Reads w x X → Calls Try.prog 17 #[Pb.pv n g t r', x] w fun e w' => e = .returned (.bool r) ∧ Below w.heap.size w w') :
    Calls Try.prog 5 #[Pb.pv n vg vt vr, vx] w fun e w' => e = .returned (.bool true) ∧ Below w.heap.size w w' := by
  obtain ⟨sg, cg, eg⟩ := hG.form
  obtain ⟨st, ct, et⟩ := hT.form
  obtain ⟨sr, cr, er⟩ := hR.form
  subst eg et er
  obtain ⟨sx, cx, ex⟩ := hX.form
  subst ex
  obtain ⟨w0, hw0⟩ : ∃ w0, w0 = w.alloc (Obj.cells #[.int .i64 n, .slice sg G.length cg, .slice st T.length ct, .slice sr R.length cr] 25) := ⟨_, rfl⟩
  have HW0 : Hid (w0 = w.alloc (Obj.cells #[.int .i64 n, .slice sg G.length cg, .slice st T.length ct, .slice sr R.length cr] 25)) := hw0
  have B0 : Hid (Below w.heap.size w w0) := (by show Below _ _ _; rw [hw0]; exact (Below.refl _ _).alloc (Nat.le_refl _) _)
  have Z0 : Hid (w0.heap.size = w.heap.size + 1) := (by show _ = _; rw [hw0]; simp)
  have K0 : Hid (Pb.Box w0 w.heap.size (.int .i64 n) (.slice sg G.length cg) (.slice st T.length ct) (.slice sr R.length cr)) := (by show Pb.Box _ _ _ _ _ _; rw [hw0]; unfold Pb.Box; simp [go_sem])
  have SZ : Hid (∀ w', Below w.heap.size w w' → Calls Try.prog 7 #[Pb.pv n (.slice sg G.length cg) (.slice st T.length ct) (.slice sr R.length cr), .int .i64 1048576] w' fun e w'' => (∃ r : Int, e = .returned (.int .i64 r) ∧ (0 ≤ r → G.length ≤ 1048576 ∧ T.length ≤ 1048576 ∧ R.length ≤ 1048576 ∧ ∀ i, i < R.length → (Rw.cl R i).length ≤ 1048576) ∧ r ≤ 1048576) ∧ Below w'.heap.size w' w'') := fun w' hb => Pb.sz_any n sg G.length cg st T.length ct _ R 1048576 w' (by omega) (by omega) fG fT (hR.on hb)
  have TO : Hid ((G.length ≤ 1048576 ∧ T.length ≤ 1048576 ∧ R.length ≤ 1048576 ∧ ∀ i, i < R.length → (Rw.cl R i).length ≤ 1048576) → ∀ w', Below w.heap.size w w' → Calls Try.prog 9 #[Pb.pv n (.slice sg G.length cg) (.slice st T.length ct) (.slice sr R.length cr)] w' fun e w'' => ∃ g t r', e = .returned (Pb.pv n g t r') ∧ PR w'' G T R g t r' ∧ Below w'.heap.size w' w'') := fun hl w' hb => (Pb.to_any n G T R _ _ _ w' (hG.on hb) (hT.on hb) (hR.on hb) hl.1 hl.2.1 hl.2.2.1 hl.2.2.2).mono (by rintro e w'' ⟨g, t, r', rfl, h1, h2, h3, h4⟩; exact ⟨g, t, r', rfl, ⟨Lists.reads_row h1, Lists.reads_row h2, h3.reads⟩, h4⟩)
  have EQ : Hid (∀ w' g t r' g2 t2 r2, PR w' G T R g t r' → PR w' G T R g2 t2 r2 → Calls Try.prog 11 #[Pb.pv n g t r', Pb.pv n g2 t2 r2] w' fun e w'' => e = .returned (.bool true) ∧ Below w'.heap.size w' w'') := fun w' g t r' g2 t2 r2 h h' => Pb.eq_any n G T R g g2 t t2 r' r2 w' h.1 h'.1 h.2.1 h'.2.1 h.2.2 h'.2.2
  have SU : Hid (∀ (w : World) (g t r' x : Value), PR w G T R g t r' → Lists.Reads w x X → Calls Try.prog 16 #[Pb.pv n g t r', x] w fun e w' => e = .returned (.bool r) ∧ Below w.heap.size w w') := SA
  have IU : Hid (∀ (w : World) (g t r' x : Value), PR w G T R g t r' → Lists.Reads w x X → Calls Try.prog 17 #[Pb.pv n g t r', x] w fun e w' => e = .returned (.bool r) ∧ Below w.heap.size w w') := IA
  have hii : (r != r) = false := by cases r <;> rfl
  have HX : Hid (Lists.Reads w (.slice sx X.length cx) X) := hX
  by_cases gX : 1048576 < X.length
  · have i1 : (1048576 : Int) < (X.length : Int) := by omega
    clear SA IA hG hT hR hX hw0
    generalize G.length = lg at *
    generalize T.length = lt at *
    generalize R.length = lr at *
    go_enter Try.func5, Try.ntmps5
    go_wp2_with fail
    rw [← HW0.out]
    go_ret
    exact ⟨rfl, B0.out⟩
  have jX : ¬ (1048576 : Int) < (X.length : Int) := by omega
  have TX : Hid (∀ w', Below w.heap.size w w' → Calls Try.prog 13 #[.slice sx X.length cx] w' fun e w'' => ∃ u c, e = .returned (.slice u X.length c) ∧ Lists.Reads w'' (.slice u X.length c) X ∧ Below w'.heap.size w' w'') := fun w' hb => (Lists.to_any w' _ X (hX.on hb) (by omega)).mono (by rintro e w'' ⟨rfl, h1, h2⟩; exact ⟨_, _, rfl, Lists.reads_row h1, h2⟩)
  have EX : Hid (∀ w' u v, Lists.Reads w' u X → Lists.Reads w' v X → Calls Try.prog 15 #[u, v] w' fun e w'' => e = .returned (.bool true) ∧ ∃ m, w'' = w'.drewN m) := fun w' u v h h' => Rw.eq_reads w' u v X h h'
  clear hX gX fX
  clear SA IA hG hT hR hw0 fG fT
  generalize hlg : G.length = lg at *
  generalize hlt : T.length = lt at *
  generalize hlr : R.length = lr at *
  clear hlg hlt hlr
  generalize hlx : X.length = lx at *
  clear hlx
  go_enter Try.func5, Try.ntmps5
  obtain ⟨k0, k1, k2, k3⟩ := K0.out
  go_wp2_with fail
  rw [← HW0.out]
  refine (SZ.out w0 B0.out).mono ?_
  rintro e w1 ⟨⟨z, rfl, y, l⟩, b⟩
  clear k0 k1 k2 k3
  have B1 : Hid (Below w.heap.size w w1) := B0.out.trans (b.mono B0.out.size)
  have S1 : Hid (w0.heap.size ≤ w1.heap.size) := b.size
  have K1 : Hid (Pb.Box w1 w.heap.size (.int .i64 n) (.slice sg lg cg) (.slice st lt ct) (.slice sr lr cr)) := K0.out.on b (by have := Z0.out; omega)
  clear b HW0
  by_cases hneg : z < 0
  · go_wp2_with fail
    go_ret
    exact ⟨rfl, B1.out⟩
  have HL := y (by omega)
  have TP : Hid (∀ w', Below w.heap.size w w' → Calls Try.prog 9 #[Pb.pv n (.slice sg lg cg) (.slice st lt ct) (.slice sr lr cr)] w' fun e w'' => ∃ g t r', e = .returned (Pb.pv n g t r') ∧ PR w'' G T R g t r' ∧ Below w'.heap.size w' w'') := TO.out HL
  clear TO y HL
  obtain ⟨k0, k1, k2, k3⟩ := K1.out
  go_wp2_with fail
  refine (TP.out w1 B1.out).mono ?_
  rintro e w2 ⟨g2, t2, r2, rfl, p2, b⟩
  clear k0 k1 k2 k3
  have B2 : Hid (Below w.heap.size w w2) := B1.out.trans (b.mono B1.out.size)
  have S2 : Hid (w1.heap.size ≤ w2.heap.size) := b.size
  have K2 : Hid (Pb.Box w2 w.heap.size (.int .i64 n) (.slice sg lg cg) (.slice st lt ct) (.slice sr lr cr)) := K1.out.on b (by have := Z0.out; have := S1.out; omega)
  have P2 : Hid (PR w2 G T R g2 t2 r2) := p2
  clear b p2
  go_wp2_with fail
  refine (TX.out w2 B2.out).mono ?_
  rintro e w3 ⟨u3, c3, rfl, p3, b⟩
  have B3 : Hid (Below w.heap.size w w3) := B2.out.trans (b.mono B2.out.size)
  have S3 : Hid (w2.heap.size ≤ w3.heap.size) := b.size
  have K3 : Hid (Pb.Box w3 w.heap.size (.int .i64 n) (.slice sg lg cg) (.slice st lt ct) (.slice sr lr cr)) := K2.out.on b (by have := Z0.out; have := S1.out; have := S2.out; omega)
  have P3 : Hid (PR w3 G T R g2 t2 r2) := P2.out.on b
  have X3 : Hid (Lists.Reads w3 (.slice u3 lx c3) X) := p3
  clear b p3
  go_wp2_with fail
  refine (SU.out w3 g2 t2 r2 _ P3.out X3.out).mono ?_
  rintro e w4 ⟨rfl, b⟩
  have B4 : Hid (Below w.heap.size w w4) := B3.out.trans (b.mono B3.out.size)
  have S4 : Hid (w3.heap.size ≤ w4.heap.size) := b.size
  have K4 : Hid (Pb.Box w4 w.heap.size (.int .i64 n) (.slice sg lg cg) (.slice st lt ct) (.slice sr lr cr)) := K3.out.on b (by have := Z0.out; have := S1.out; have := S2.out; have := S3.out; omega)
  clear b P2 P3
  obtain ⟨k0, k1, k2, k3⟩ := K4.out
  go_wp2_with fail
  refine (TP.out w4 B4.out).mono ?_
  rintro e w5 ⟨g5, t5, r5, rfl, p5, b⟩
  clear k0 k1 k2 k3
  have B5 : Hid (Below w.heap.size w w5) := B4.out.trans (b.mono B4.out.size)
  have S5 : Hid (w4.heap.size ≤ w5.heap.size) := b.size
  have K5 : Hid (Pb.Box w5 w.heap.size (.int .i64 n) (.slice sg lg cg) (.slice st lt ct) (.slice sr lr cr)) := K4.out.on b (by have := Z0.out; have := S1.out; have := S2.out; have := S3.out; have := S4.out; omega)
  have P5 : Hid (PR w5 G T R g5 t5 r5) := p5
  obtain ⟨w6, hw6⟩ : ∃ x, x = w5.alloc (Obj.cells #[.int .i64 n, g5, t5, r5] 30) := ⟨_, rfl⟩
  have HW6 : Hid (w6 = w5.alloc (Obj.cells #[.int .i64 n, g5, t5, r5] 30)) := hw6
  have b6 : Below w5.heap.size w5 w6 := (by rw [hw6]; exact (Below.refl _ _).alloc (Nat.le_refl _) _)
  have B6 : Hid (Below w.heap.size w w6) := B5.out.trans (b6.mono B5.out.size)
  have S6 : Hid (w6.heap.size = w5.heap.size + 1) := (by show _ = _; rw [hw6]; simp)
  have K6 : Hid (Pb.Box w6 w.heap.size (.int .i64 n) (.slice sg lg cg) (.slice st lt ct) (.slice sr lr cr)) := K5.out.on b6 (by have := Z0.out; have := S1.out; have := S2.out; have := S3.out; have := S4.out; have := S5.out; omega)
  have J6 : Hid (Pb.Box w6 w5.heap.size (.int .i64 n) g5 t5 r5) := (by show Pb.Box _ _ _ _ _ _; rw [hw6]; unfold Pb.Box; simp [go_sem])
  have P6 : Hid (PR w6 G T R g5 t5 r5) := P5.out.on b6
  obtain ⟨ag, dg, eg⟩ := P5.out.1.form
  obtain ⟨at', dt, et⟩ := P5.out.2.1.form
  obtain ⟨ar, dr, er⟩ := P5.out.2.2.form
  subst eg et er
  generalize G.length = ng at *
  generalize T.length = nt at *
  generalize R.length = nr at *
  clear hw6 b6 b p5
  go_wp2_with fail
  rw [← HW6.out]
  clear HW6
  refine (TX.out w6 B6.out).mono ?_
  rintro e w7 ⟨u7, c7, rfl, p7, b⟩
  have B7 : Hid (Below w.heap.size w w7) := B6.out.trans (b.mono B6.out.size)
  have S7 : Hid (w6.heap.size ≤ w7.heap.size) := b.size
  have K7 : Hid (Pb.Box w7 w.heap.size (.int .i64 n) (.slice sg lg cg) (.slice st lt ct) (.slice sr lr cr)) := K6.out.on b (by have := Z0.out; have := S1.out; have := S2.out; have := S3.out; have := S4.out; have := S5.out; have := S6.out; omega)
  have J7 : Hid (Pb.Box w7 w5.heap.size (.int .i64 n) (.slice ag ng dg) (.slice at' nt dt) (.slice ar nr dr)) := J6.out.on b (by have := Z0.out; have := S1.out; have := S2.out; have := S3.out; have := S4.out; have := S5.out; have := S6.out; omega)
  have P7 : Hid (PR w7 G T R (.slice ag ng dg) (.slice at' nt dt) (.slice ar nr dr)) := P6.out.on b
  have X7 : Hid (Lists.Reads w7 (.slice u7 lx c7) X) := p7
  clear b p7
  obtain ⟨j0, j1, j2, j3⟩ := J7.out
  go_wp2_with fail
  refine (IU.out w7 _ _ _ _ P7.out X7.out).mono ?_
  rintro e w8 ⟨rfl, b⟩
  clear j0 j1 j2 j3
  have B8 : Hid (Below w.heap.size w w8) := B7.out.trans (b.mono B7.out.size)
  have S8 : Hid (w7.heap.size ≤ w8.heap.size) := b.size
  have K8 : Hid (Pb.Box w8 w.heap.size (.int .i64 n) (.slice sg lg cg) (.slice st lt ct) (.slice sr lr cr)) := K7.out.on b (by have := Z0.out; have := S1.out; have := S2.out; have := S3.out; have := S4.out; have := S5.out; have := S6.out; have := S7.out; omega)
  have J8 : Hid (Pb.Box w8 w5.heap.size (.int .i64 n) (.slice ag ng dg) (.slice at' nt dt) (.slice ar nr dr)) := J7.out.on b (by have := Z0.out; have := S1.out; have := S2.out; have := S3.out; have := S4.out; have := S5.out; have := S6.out; have := S7.out; omega)
  have P8 : Hid (PR w8 G T R (.slice ag ng dg) (.slice at' nt dt) (.slice ar nr dr)) := P7.out.on b
  have X8 : Hid (Lists.Reads w8 (.slice u7 lx c7) X) := X7.out.on b
  clear b
  have BD : Hid (Below w.heap.size w w8.drew) := below_drewN B8.out 1
  have PD : Hid (PR w8.drew G T R (.slice ag ng dg) (.slice at' nt dt) (.slice ar nr dr)) := P8.out
  have LW : Hid (w.heap.size < w8.drew.heap.size ∧ w5.heap.size < w8.drew.heap.size) := (by show _ ∧ _; constructor <;> (show _ < w8.heap.size; have := Z0.out; have := S1.out; have := S2.out; have := S3.out; have := S4.out; have := S5.out; have := S6.out; have := S7.out; have := S8.out; omega))
  have XD : Hid (Lists.Reads w8.drew (.slice u7 lx c7) X) := X8.out
  obtain ⟨k0, k1, k2, k3⟩ := K8.out
  obtain ⟨j0, j1, j2, j3⟩ := J8.out
  go_wp2_with fail
  go_region_held3 (fun w' => w'.cell? ⟨w.heap.size, 0, none⟩ = some (.int .i64 n) ∧ w'.cell? ⟨w.heap.size, 1, none⟩ = some (.slice sg lg cg) ∧ w'.cell? ⟨w.heap.size, 2, none⟩ = some (.slice st lt ct) ∧ w'.cell? ⟨w.heap.size, 3, none⟩ = some (.slice sr lr cr) ∧ w'.cell? ⟨w5.heap.size, 0, none⟩ = some (.int .i64 n) ∧ w'.cell? ⟨w5.heap.size, 1, none⟩ = some (.slice ag ng dg) ∧ w'.cell? ⟨w5.heap.size, 2, none⟩ = some (.slice at' nt dt) ∧ w'.cell? ⟨w5.heap.size, 3, none⟩ = some (.slice ar nr dr)) (go_keep)
    (first
    | (go_at_call 9; refine (TP.out _ BD.out).mono ?_; rintro e w9 ⟨g9, t9, r9, rfl, p9, b⟩; have B9 : Hid (Below w.heap.size w w9) := BD.out.trans (b.mono BD.out.size); have P9 : Hid (PR w9 G T R g9 t9 r9) := p9; have Q9 : Hid (PR w9 G T R (.slice ag ng dg) (.slice at' nt dt) (.slice ar nr dr)) := PD.out.on b; have L9 : Hid (w.heap.size < w9.heap.size ∧ w5.heap.size < w9.heap.size) := ⟨Nat.lt_of_lt_of_le LW.out.1 b.size, Nat.lt_of_lt_of_le LW.out.2 b.size⟩; have K9 : Hid (Pb.Box w9 w.heap.size (.int .i64 n) (.slice sg lg cg) (.slice st lt ct) (.slice sr lr cr)) := Pb.Box.on (w := w8.drew) ⟨k0, k1, k2, k3⟩ b LW.out.1; have J9 : Hid (Pb.Box w9 w5.heap.size (.int .i64 n) (.slice ag ng dg) (.slice at' nt dt) (.slice ar nr dr)) := Pb.Box.on (w := w8.drew) ⟨j0, j1, j2, j3⟩ b LW.out.2; have X9 : Hid (Lists.Reads w9 (.slice u7 lx c7) X) := XD.out.on b; clear b p9; obtain ⟨a0, a1, a2, a3⟩ := K9.out; obtain ⟨b0, b1, b2, b3⟩ := J9.out)
    | (go_at_call 11; refine (EQ.out _ _ _ _ _ _ _ Q9.out P9.out).mono ?_; rintro e w10 ⟨rfl, b⟩; have B10 : Hid (Below w.heap.size w w10) := B9.out.trans (b.mono B9.out.size); have K10 : Hid (Pb.Box w10 w.heap.size (.int .i64 n) (.slice sg lg cg) (.slice st lt ct) (.slice sr lr cr)) := K9.out.on b L9.out.1; have J10 : Hid (Pb.Box w10 w5.heap.size (.int .i64 n) (.slice ag ng dg) (.slice at' nt dt) (.slice ar nr dr)) := J9.out.on b L9.out.2; have X10 : Hid (Lists.Reads w10 (.slice u7 lx c7) X) := X9.out.on b; clear b; obtain ⟨c0, c1, c2, c3⟩ := K10.out; obtain ⟨d0, d1, d2, d3⟩ := J10.out))
  go_wp2_with fail
  refine (TX.out w10 B10.out).mono ?_
  rintro e w11 ⟨u11, c11, rfl, p11, b⟩
  have B11 : Hid (Below w.heap.size w w11) := B10.out.trans (b.mono B10.out.size)
  have X11 : Hid (Lists.Reads w11 (.slice u7 lx c7) X) := X10.out.on b
  have Y11 : Hid (Lists.Reads w11 (.slice u11 lx c11) X) := p11
  clear b p11
  go_wp2_with fail
  refine (EX.out w11 _ _ X11.out Y11.out).mono ?_
  rintro e w12 ⟨rfl, m12, hw⟩
  have B12 : Hid (Below w.heap.size w w12) := (by show Below _ _ _; rw [hw]; exact below_drewN B11.out _)
  clear hw
  go_wp2_with fail
  go_ret
  exact ⟨rfl, B12.out⟩
end Go.Proofs.Ytbkjhekeihlneaa.LawCfL
