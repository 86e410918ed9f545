/- A problem (a number, two lists of numbers, a list of rows) by value: measured, copied, compared. -/
import Derived.Test.YtaakiemmodncpaaRw
namespace Go.Proofs.Ytaakiemmodncpaa.Pb
open Go.ChangeShapes Go.WideShapes Go.ChangeAt Go.RowKit
open Go.Proofs.Ytaakiemmodncpaa.Lists

abbrev pv (n : Int) (g t r : Value) : Value := .agg #[.int .i64 n, g, t, r]
def Box (w : World) (b : Nat) (v0 v1 v2 v3 : Value) : Prop := w.cell? ⟨b, 0, none⟩ = some v0 ∧ w.cell? ⟨b, 1, none⟩ = some v1 ∧ w.cell? ⟨b, 2, none⟩ = some v2 ∧ w.cell? ⟨b, 3, none⟩ = some v3
def Free (w : World) (b : Nat) : Prop := w.frozen? ⟨b, 0, none⟩ = false ∧ w.frozen? ⟨b, 1, none⟩ = false ∧ w.frozen? ⟨b, 2, none⟩ = false ∧ w.frozen? ⟨b, 3, none⟩ = false
theorem Box.on {w w' : World} {B b : Nat} {v0 v1 v2 v3 : Value} (h : Box w b v0 v1 v2 v3) (hb : Below B w w') (hg : b < B) : Box w' b v0 v1 v2 v3 := by
  obtain ⟨h0, h1, h2, h3⟩ := h
  exact ⟨(hb.cell (p := ⟨b, 0, none⟩) hg).trans h0, (hb.cell (p := ⟨b, 1, none⟩) hg).trans h1, (hb.cell (p := ⟨b, 2, none⟩) hg).trans h2, (hb.cell (p := ⟨b, 3, none⟩) hg).trans h3⟩
theorem Free.on {w w' : World} {B b : Nat} (h : Free w b) (hb : Below B w w') (hg : b < B) : Free w' b := by
  obtain ⟨h0, h1, h2, h3⟩ := h
  exact ⟨(hb.frozen (p := ⟨b, 0, none⟩) hg).trans h0, (hb.frozen (p := ⟨b, 1, none⟩) hg).trans h1, (hb.frozen (p := ⟨b, 2, none⟩) hg).trans h2, (hb.frozen (p := ⟨b, 3, none⟩) hg).trans h3⟩
theorem Box.off {w : World} {b g o : Nat} {u v0 v1 v2 v3 : Value} (h : Box w b v0 v1 v2 v3) (hg : b ≠ g) : Box (w.setCell ⟨g, o, none⟩ u) b v0 v1 v2 v3 := by
  have e := Below.heap_setCell w ⟨g, o, none⟩ u b hg
  obtain ⟨h0, h1, h2, h3⟩ := h
  exact ⟨(World.cell?_of_block (a := ⟨b, 0, none⟩) e).trans h0, (World.cell?_of_block (a := ⟨b, 1, none⟩) e).trans h1, (World.cell?_of_block (a := ⟨b, 2, none⟩) e).trans h2, (World.cell?_of_block (a := ⟨b, 3, none⟩) e).trans h3⟩
theorem Free.off {w : World} {b g o : Nat} {u : Value} (h : Free w b) (hg : b ≠ g) : Free (w.setCell ⟨g, o, none⟩ u) b := by
  have e := Below.heap_setCell w ⟨g, o, none⟩ u b hg
  obtain ⟨h0, h1, h2, h3⟩ := h
  exact ⟨(World.frozen?_of_block (a := ⟨b, 0, none⟩) e).trans h0, (World.frozen?_of_block (a := ⟨b, 1, none⟩) e).trans h1, (World.frozen?_of_block (a := ⟨b, 2, none⟩) e).trans h2, (World.frozen?_of_block (a := ⟨b, 3, none⟩) e).trans h3⟩
theorem Free.own {w : World} {b o : Nat} {u : Value} (h : Free w b) : Free (w.setCell ⟨b, o, none⟩ u) b := by
  obtain ⟨h0, h1, h2, h3⟩ := h
  exact ⟨by simp [go_sem, h0], by simp [go_sem, h1], by simp [go_sem, h2], by simp [go_sem, h3]⟩
theorem Box.set1 {w : World} {b : Nat} {u v0 v1 v2 v3 : Value} (h : Box w b v0 v1 v2 v3) : Box (w.setCell ⟨b, 1, none⟩ u) b v0 u v2 v3 := by
  obtain ⟨h0, h1, h2, h3⟩ := h
  exact ⟨by simp [go_sem, h0], by simp [go_sem, h1], by simp [go_sem, h2], by simp [go_sem, h3]⟩
theorem Box.set2 {w : World} {b : Nat} {u v0 v1 v2 v3 : Value} (h : Box w b v0 v1 v2 v3) : Box (w.setCell ⟨b, 2, none⟩ u) b v0 v1 u v3 := by
  obtain ⟨h0, h1, h2, h3⟩ := h
  exact ⟨by simp [go_sem, h0], by simp [go_sem, h1], by simp [go_sem, h2], by simp [go_sem, h3]⟩
theorem row_set {w : World} {base : Nat} {v : Value} {L : Rw.Ls} (h : Rw.Row w base v L) (g o : Nat) (u : Value) (hg : g < base) : Rw.Row (w.setCell ⟨g, o, none⟩ u) base v L := by
  obtain ⟨xs, h, hh⟩ := h
  refine ⟨xs, ?_, fun i hi => ?_⟩
  · refine h.kept (row := some g) (grown_setCell (World.grownBy.refl w (some g)) o u) ?_
    cases e : v.ownBlock with
    | none => exact .inl rfl
    | some k =>
      refine .inr fun x => ?_
      have := (h.lt k e).1
      simp at x
      omega
  · obtain ⟨h1, h2, z, hz, hr⟩ := hh i hi
    exact ⟨h1, h2, z, hz, Rw1.row_set hr g o u hg⟩
theorem row_down {w : World} {B B' : Nat} {v : Value} {L : Rw.Ls} (h : Rw.Row w B v L) (hb : B' ≤ B) : Rw.Row w B' v L := by
  obtain ⟨xs, h, hh⟩ := h
  refine ⟨xs, ⟨h.1, ?_⟩, fun i hi => ?_⟩
  · rcases h.2 with h | ⟨gx, cap, cur, h1, h2, h3⟩
    · exact .inl h
    · exact .inr ⟨gx, cap, cur, h1, by omega, h3⟩
  · obtain ⟨h1, h2, z, hz, hr⟩ := hh i hi
    exact ⟨h1, h2, z, hz, Rw1.own_down hr hb⟩

theorem szl_any (a : Option Addr) (n cap : Nat) (l : Int) (w : World) (h0 : 0 ≤ l) (h1 : l ≤ 1048576) (hn : n < 9223372036854775808) :
    Calls Try.prog 22 #[.slice a n cap, .int .i64 l] w fun e w' => (∃ r : Int, e = .returned (.int .i64 r) ∧ (0 ≤ r → n ≤ 1048576) ∧ r ≤ 1048576) ∧ w' = w := by
  by_cases h : (n : Int) ≤ l
  · refine (Rw1.szl_near a n cap l w h1 h).mono ?_
    rintro e w1 ⟨rfl, hw⟩
    exact ⟨⟨_, rfl, fun _ => by omega, by omega⟩, hw⟩
  · refine (Rw1.szl_far a n cap l w h0 h1 (by omega) hn).mono ?_
    rintro e w1 ⟨rfl, hw⟩
    exact ⟨⟨_, rfl, fun h => by omega, by omega⟩, hw⟩

set_option maxHeartbeats 1000000 in
theorem sz_any (n : Int) (a1 : Option Addr) (n1 c1 : Nat) (a2 : Option Addr) (n2 c2 : Nat) (vr : Value) (R : Rw.Ls) (l : Int) (w : World) (h0 : 0 ≤ l) (h1 : l ≤ 1048576) (f1 : n1 < 9223372036854775808) (f2 : n2 < 9223372036854775808) (hR : Rw.Reads w vr R) :
    Calls Try.prog 5 #[pv n (.slice a1 n1 c1) (.slice a2 n2 c2) vr, .int .i64 l] w fun e w' => (∃ r : Int, e = .returned (.int .i64 r) ∧ (0 ≤ r → n1 ≤ 1048576 ∧ n2 ≤ 1048576 ∧ R.length ≤ 1048576 ∧ ∀ i, i < R.length → (Rw.cl R i).length ≤ 1048576) ∧ r ≤ 1048576) ∧ Below w.heap.size w w' := by
  obtain ⟨w0, hw0⟩ : ∃ w0, w0 = w.alloc (Obj.cells #[.int .i64 n, .slice a1 n1 c1, .slice a2 n2 c2, vr] 25) := ⟨_, rfl⟩
  have HW0 : Hid (w0 = w.alloc (Obj.cells #[.int .i64 n, .slice a1 n1 c1, .slice a2 n2 c2, vr] 25)) := hw0
  have B0 : Hid (Below w.heap.size w w0) := (by show Below _ _ _; rw [hw0]; exact (Below.refl _ _).alloc (Nat.le_refl _) _)
  have X0 : Box w0 w.heap.size (.int .i64 n) (.slice a1 n1 c1) (.slice a2 n2 c2) vr := by rw [hw0]; unfold Box; simp [go_sem]
  obtain ⟨x0, x1, x2, x3⟩ := X0
  have Z1 : Hid (∀ l, 0 ≤ l → l ≤ 1048576 → ∀ w, Calls Try.prog 22 #[.slice a1 n1 c1, .int .i64 l] w fun e w' => (∃ r : Int, e = .returned (.int .i64 r) ∧ (0 ≤ r → n1 ≤ 1048576) ∧ r ≤ 1048576) ∧ w' = w) := fun l q0 q1 w => szl_any a1 n1 c1 l w q0 q1 f1
  have Z2 : Hid (∀ l, 0 ≤ l → l ≤ 1048576 → ∀ w, Calls Try.prog 22 #[.slice a2 n2 c2, .int .i64 l] w fun e w' => (∃ r : Int, e = .returned (.int .i64 r) ∧ (0 ≤ r → n2 ≤ 1048576) ∧ r ≤ 1048576) ∧ w' = w) := fun l q0 q1 w => szl_any a2 n2 c2 l w q0 q1 f2
  have Z3 : Hid (∀ l, 0 ≤ l → l ≤ 1048576 → Calls Try.prog 23 #[vr, .int .i64 l] w0 fun e w' => (∃ r : Int, e = .returned (.int .i64 r) ∧ (0 ≤ r → R.length ≤ 1048576 ∧ ∀ i, i < R.length → (Rw.cl R i).length ≤ 1048576) ∧ r ≤ 1048576) ∧ Below w0.heap.size w0 w') := fun l q0 q1 => Rw.szS_any vr R l w0 q0 q1 (hR.on B0.out)
  obtain ⟨ar, cr, rfl⟩ := hR.form
  clear hR hw0 f1 f2
  go_enter Try.func5, Try.ntmps5
  go_wp2_with fail
  rw [← HW0.out]
  refine (Z1.out _ h0 h1 _).mono ?_
  rintro e w1 ⟨⟨r1, rfl, k1, j1⟩, hw⟩
  subst hw
  by_cases q1 : r1 < 0
  · go_wp2_with fail
    go_ret
    exact ⟨⟨_, rfl, fun h => by omega, by omega⟩, B0.out⟩
  go_wp2_with fail
  refine (Z2.out _ (by omega) j1 _).mono ?_
  rintro e w2 ⟨⟨r2, rfl, k2, j2⟩, hw⟩
  subst hw
  by_cases q2 : r2 < 0
  · go_wp2_with fail
    go_ret
    exact ⟨⟨_, rfl, fun h => by omega, by omega⟩, B0.out⟩
  go_wp2_with fail
  refine (Z3.out _ (by omega) j2).mono ?_
  rintro e w3 ⟨⟨r3, rfl, k3, j3⟩, hb⟩
  have B3 : Hid (Below w.heap.size w w3) := B0.out.trans (hb.mono B0.out.size)
  clear hb
  by_cases q3 : r3 < 0
  · go_wp2_with fail
    go_ret
    exact ⟨⟨_, rfl, fun h => by omega, by omega⟩, B3.out⟩
  go_wp2_with fail
  go_ret
  exact ⟨⟨_, rfl, fun _ => ⟨k1 (by omega), k2 (by omega), k3 (by omega)⟩, j3⟩, B3.out⟩

set_option maxHeartbeats 1000000 in
theorem eq_any (n : Int) (G T : List Int) (R : Rw.Ls) (g1 g2 t1 t2 r1 r2 : Value) (w : World) (hG1 : Lists.Reads w g1 G) (hG2 : Lists.Reads w g2 G) (hT1 : Lists.Reads w t1 T) (hT2 : Lists.Reads w t2 T) (hR1 : Rw.Reads w r1 R) (hR2 : Rw.Reads w r2 R) :
    Calls Try.prog 11 #[pv n g1 t1 r1, pv n g2 t2 r2] w fun e w' => e = .returned (.bool true) ∧ Below w.heap.size w w' := by
  obtain ⟨w0, hw0⟩ : ∃ w0, w0 = (w.alloc (Obj.cells #[.int .i64 n, g1, t1, r1] 32)).alloc (Obj.cells #[.int .i64 n, g2, t2, r2] 32) := ⟨_, rfl⟩
  have HW0 : Hid (w0 = (w.alloc (Obj.cells #[.int .i64 n, g1, t1, r1] 32)).alloc (Obj.cells #[.int .i64 n, g2, t2, r2] 32)) := hw0
  have B0 : Hid (Below w.heap.size w w0) := (by show Below _ _ _; rw [hw0]; exact ((Below.refl _ _).alloc (Nat.le_refl _) _).alloc (by simp) _)
  have X1 : Hid (Box w0 w.heap.size (.int .i64 n) g1 t1 r1) := (by show Box _ _ _ _ _ _; rw [hw0]; unfold Box; simp [go_sem])
  have X2 : Hid (Box w0 (w.heap.size + 1) (.int .i64 n) g2 t2 r2) := (by show Box _ _ _ _ _ _; rw [hw0]; unfold Box; simp [go_sem])
  have E1 : Hid (∀ m, Calls Try.prog 12 #[g1, g2] (w0.drewN m) fun e w' => e = .returned (.bool true) ∧ ∃ k, w' = (w0.drewN m).drewN k) := fun m => Rw.eq_reads _ g1 g2 G (hG1.on (Rw1.below_drewN B0.out m)) (hG2.on (Rw1.below_drewN B0.out m))
  have E2 : Hid (∀ m, Calls Try.prog 12 #[t1, t2] (w0.drewN m) fun e w' => e = .returned (.bool true) ∧ ∃ k, w' = (w0.drewN m).drewN k) := fun m => Rw.eq_reads _ t1 t2 T (hT1.on (Rw1.below_drewN B0.out m)) (hT2.on (Rw1.below_drewN B0.out m))
  have E3 : Hid (∀ m, Calls Try.prog 37 #[r1, r2] (w0.drewN m) fun e w' => e = .returned (.bool true) ∧ Below (w0.drewN m).heap.size (w0.drewN m) w') := fun m => Rw.eqS_any _ r1 r2 R (hR1.on (Rw1.below_drewN B0.out m)) (hR2.on (Rw1.below_drewN B0.out m))
  have hii : (n != n) = false := by simp
  obtain ⟨x0, x1, x2, x3⟩ := X1.out
  obtain ⟨y0, y1, y2, y3⟩ := X2.out
  clear hG1 hG2 hT1 hT2 hR1 hR2 hw0
  go_enter Try.func11, Try.ntmps11
  go_wp2_with fail
  rw [← HW0.out]
  refine (E1.out 0).mono ?_
  rintro e w1 ⟨rfl, m1, rfl⟩
  go_wp2_with fail
  refine (E2.out _).mono ?_
  rintro e w2 ⟨rfl, m2, rfl⟩
  go_wp2_with fail
  refine (E3.out _).mono ?_
  rintro e w3 ⟨rfl, hb⟩
  have B3 : Hid (Below w.heap.size w w3) := (Rw1.below_drewN B0.out _).trans (hb.mono B0.out.size)
  clear hb
  go_wp2_with fail
  go_ret
  exact ⟨rfl, B3.out⟩

set_option maxHeartbeats 1000000 in
theorem to_any (n : Int) (G T : List Int) (R : Rw.Ls) (vg vt vr : Value) (w : World) (hG : Lists.Reads w vg G) (hT : Lists.Reads w vt T) (hR : Rw.Reads w vr R) (lG : G.length ≤ 1048576) (lT : T.length ≤ 1048576) (lR : R.length ≤ 1048576) (lR' : ∀ i, i < R.length → (Rw.cl R i).length ≤ 1048576) :
    Calls Try.prog 7 #[pv n vg vt vr] w fun e w' => ∃ g t r, e = .returned (pv n g t r) ∧ w'.ownsRow w.heap.size 2 1 g G.length (ints G) ∧ w'.ownsRow w.heap.size 2 1 t T.length (ints T) ∧ Rw.Row w' w.heap.size r R ∧ Below w.heap.size w w' := by
  have TG : Hid (∀ w', Below w.heap.size w w' → Calls Try.prog 8 #[vg] w' fun e w'' => e = .returned (.slice (some ⟨w'.heap.size, 0, none⟩) G.length G.length) ∧ w''.ownsRow w'.heap.size 2 1 (.slice (some ⟨w'.heap.size, 0, none⟩) G.length G.length) G.length (ints G) ∧ Below w'.heap.size w' w'') := fun w' hb => Lists.to_any w' vg G (hG.on hb) lG
  have TT : Hid (∀ w', Below w.heap.size w w' → Calls Try.prog 8 #[vt] w' fun e w'' => e = .returned (.slice (some ⟨w'.heap.size, 0, none⟩) T.length T.length) ∧ w''.ownsRow w'.heap.size 2 1 (.slice (some ⟨w'.heap.size, 0, none⟩) T.length T.length) T.length (ints T) ∧ Below w'.heap.size w' w'') := fun w' hb => Lists.to_any w' vt T (hT.on hb) lT
  have TR : Hid (∀ w', Below w.heap.size w w' → Calls Try.prog 29 #[vr] w' fun e w'' => ∃ u, e = .returned u ∧ Rw.Row w'' w'.heap.size u R ∧ Below w'.heap.size w' w'') := fun w' hb => Rw.toS_any w' vr R (hR.on hb) lR lR'
  obtain ⟨w0, hw0⟩ : ∃ w0, w0 = ((w.alloc (Obj.cells #[.int .i64 n, vg, vt, vr] 25)).alloc (Obj.cells #[.int .i64 0, .slice none 0 0, .slice none 0 0, .slice none 0 0] 32)).alloc (Obj.cells #[.int .i64 n, .slice none 0 0, .slice none 0 0, .slice none 0 0] 32) := ⟨_, rfl⟩
  have HW0 : Hid (w0 = ((w.alloc (Obj.cells #[.int .i64 n, vg, vt, vr] 25)).alloc (Obj.cells #[.int .i64 0, .slice none 0 0, .slice none 0 0, .slice none 0 0] 32)).alloc (Obj.cells #[.int .i64 n, .slice none 0 0, .slice none 0 0, .slice none 0 0] 32)) := hw0
  have B0 : Hid (Below w.heap.size w w0) := (by show Below _ _ _; rw [hw0]; exact (((Below.refl _ _).alloc (Nat.le_refl _) _).alloc (by simp) _).alloc (by simp; omega) _)
  have Z0 : Hid (w0.heap.size = w.heap.size + 3) := (by show _ = _; rw [hw0]; simp)
  have XA : Box w0 w.heap.size (.int .i64 n) vg vt vr := by rw [hw0]; unfold Box; simp [go_sem]
  have XR : Box w0 (w.heap.size + 1) (.int .i64 0) (.slice none 0 0) (.slice none 0 0) (.slice none 0 0) := by rw [hw0]; unfold Box; simp [go_sem]
  have XO : Box w0 (w.heap.size + 1 + 1) (.int .i64 n) (.slice none 0 0) (.slice none 0 0) (.slice none 0 0) := by rw [hw0]; unfold Box; simp [go_sem]
  have FR : Free w0 (w.heap.size + 1) := by rw [hw0]; unfold Free; simp [go_sem]
  have FO : Free w0 (w.heap.size + 1 + 1) := by rw [hw0]; unfold Free; simp [go_sem]
  have HA : Hid (Box w0 w.heap.size (.int .i64 n) vg vt vr ∧ Box w0 (w.heap.size + 1) (.int .i64 0) (.slice none 0 0) (.slice none 0 0) (.slice none 0 0) ∧ Box w0 (w.heap.size + 1 + 1) (.int .i64 n) (.slice none 0 0) (.slice none 0 0) (.slice none 0 0) ∧ Free w0 (w.heap.size + 1) ∧ Free w0 (w.heap.size + 1 + 1)) := ⟨XA, XR, XO, FR, FO⟩
  obtain ⟨sg, cg, eg⟩ := hG.form
  obtain ⟨st, ct, et⟩ := hT.form
  obtain ⟨sr, cr, er⟩ := hR.form
  subst eg et er
  clear hG hT hR hw0 lG lT lR lR' XA XR XO FR FO
  generalize hlg : G.length = lg at *
  generalize hlt : T.length = lt at *
  generalize hlr : R.length = lr at *
  have HLS : Hid (G.length = lg ∧ T.length = lt ∧ R.length = lr) := ⟨hlg, hlt, hlr⟩
  clear hlg hlt hlr
  go_enter Try.func7, Try.ntmps7
  go_wp2_with fail
  rw [← HW0.out]
  refine (TG.out w0 B0.out).mono ?_
  rintro e w1 ⟨rfl, x1, b1⟩
  have z0 := Z0.out
  have z1 := b1.size
  have B1 : Hid (Below w.heap.size w w1) := B0.out.trans (b1.mono B0.out.size)
  obtain ⟨A0, A1, A2, A3, A4⟩ := HA.out
  have HA1 : Box w1 w.heap.size (.int .i64 n) (.slice sg lg cg) (.slice st lt ct) (.slice sr lr cr) ∧ Box w1 (w.heap.size + 1) (.int .i64 0) (.slice none 0 0) (.slice none 0 0) (.slice none 0 0) ∧ Box w1 (w.heap.size + 1 + 1) (.int .i64 n) (.slice none 0 0) (.slice none 0 0) (.slice none 0 0) ∧ Free w1 (w.heap.size + 1) ∧ Free w1 (w.heap.size + 1 + 1) := ⟨A0.on b1 (by omega), A1.on b1 (by omega), A2.on b1 (by omega), A3.on b1 (by omega), A4.on b1 (by omega)⟩
  obtain ⟨w1', hw1'⟩ : ∃ x, x = w1.setCell ⟨w.heap.size + 1 + 1, 1, none⟩ (.slice (some ⟨w0.heap.size, 0, none⟩) lg lg) := ⟨_, rfl⟩
  have HW1 : Hid (w1' = w1.setCell ⟨w.heap.size + 1 + 1, 1, none⟩ (.slice (some ⟨w0.heap.size, 0, none⟩) lg lg)) := hw1'
  have Z1 : Hid (w1'.heap.size = w1.heap.size) := (by show _ = _; rw [hw1']; simp)
  have B1' : Hid (Below w.heap.size w w1') := (by show Below _ _ _; rw [hw1']; exact B1.out.setCell (p := ⟨w.heap.size + 1 + 1, 1, none⟩) (by show _ ≤ w.heap.size + 1 + 1; omega) _)
  have G1 : Hid (w1'.ownsRow w0.heap.size 2 1 (.slice (some ⟨w0.heap.size, 0, none⟩) lg lg) lg (ints G)) := (by show World.ownsRow _ _ _ _ _ _ _; rw [hw1']; exact Rw1.row_set x1 _ _ _ (by omega))
  have HB : Hid (Box w1' w.heap.size (.int .i64 n) (.slice sg lg cg) (.slice st lt ct) (.slice sr lr cr) ∧ Box w1' (w.heap.size + 1) (.int .i64 0) (.slice none 0 0) (.slice none 0 0) (.slice none 0 0) ∧ Box w1' (w.heap.size + 1 + 1) (.int .i64 n) (.slice (some ⟨w0.heap.size, 0, none⟩) lg lg) (.slice none 0 0) (.slice none 0 0) ∧ Free w1' (w.heap.size + 1) ∧ Free w1' (w.heap.size + 1 + 1)) := (by
    show _ ∧ _
    rw [hw1']
    exact ⟨HA1.1.off (by omega), HA1.2.1.off (by omega), HA1.2.2.1.set1, HA1.2.2.2.1.off (by omega), HA1.2.2.2.2.own⟩)
  obtain ⟨⟨_, _, a2, _⟩, _, ⟨_, o1, _, _⟩, _, ⟨_, f1, _, _⟩⟩ := HA1
  have ZZ1 : Hid (w1.heap.size ≥ w0.heap.size) := z1
  clear hw1' x1 b1 z0 z1 A0 A1 A2 A3 A4
  go_wp2_with fail
  rw [← HW1.out]
  clear a2 o1 f1 HW1
  refine (TT.out w1' B1'.out).mono ?_
  rintro e w2 ⟨rfl, x2, b2⟩
  have z0 := Z0.out
  have z1 := Z1.out
  have zz1 := ZZ1.out
  have z2 := b2.size
  have B2 : Hid (Below w.heap.size w w2) := B1'.out.trans (b2.mono B1'.out.size)
  obtain ⟨A0, A1, A2, A3, A4⟩ := HB.out
  have HA2 : Box w2 w.heap.size (.int .i64 n) (.slice sg lg cg) (.slice st lt ct) (.slice sr lr cr) ∧ Box w2 (w.heap.size + 1) (.int .i64 0) (.slice none 0 0) (.slice none 0 0) (.slice none 0 0) ∧ Box w2 (w.heap.size + 1 + 1) (.int .i64 n) (.slice (some ⟨w0.heap.size, 0, none⟩) lg lg) (.slice none 0 0) (.slice none 0 0) ∧ Free w2 (w.heap.size + 1) ∧ Free w2 (w.heap.size + 1 + 1) := ⟨A0.on b2 (by omega), A1.on b2 (by omega), A2.on b2 (by omega), A3.on b2 (by omega), A4.on b2 (by omega)⟩
  obtain ⟨w2', hw2'⟩ : ∃ x, x = w2.setCell ⟨w.heap.size + 1 + 1, 2, none⟩ (.slice (some ⟨w1'.heap.size, 0, none⟩) lt lt) := ⟨_, rfl⟩
  have HW2 : Hid (w2' = w2.setCell ⟨w.heap.size + 1 + 1, 2, none⟩ (.slice (some ⟨w1'.heap.size, 0, none⟩) lt lt)) := hw2'
  have Z2 : Hid (w2'.heap.size = w2.heap.size) := (by show _ = _; rw [hw2']; simp)
  have B2' : Hid (Below w.heap.size w w2') := (by show Below _ _ _; rw [hw2']; exact B2.out.setCell (p := ⟨w.heap.size + 1 + 1, 2, none⟩) (by show _ ≤ w.heap.size + 1 + 1; omega) _)
  have G2 : Hid (w2'.ownsRow w0.heap.size 2 1 (.slice (some ⟨w0.heap.size, 0, none⟩) lg lg) lg (ints G)) := (by show World.ownsRow _ _ _ _ _ _ _; rw [hw2']; exact Rw1.row_set (Rw1.row_on G1.out b2) _ _ _ (by omega))
  have T2 : Hid (w2'.ownsRow w1'.heap.size 2 1 (.slice (some ⟨w1'.heap.size, 0, none⟩) lt lt) lt (ints T)) := (by show World.ownsRow _ _ _ _ _ _ _; rw [hw2']; exact Rw1.row_set x2 _ _ _ (by omega))
  have HC : Hid (Box w2' w.heap.size (.int .i64 n) (.slice sg lg cg) (.slice st lt ct) (.slice sr lr cr) ∧ Box w2' (w.heap.size + 1) (.int .i64 0) (.slice none 0 0) (.slice none 0 0) (.slice none 0 0) ∧ Box w2' (w.heap.size + 1 + 1) (.int .i64 n) (.slice (some ⟨w0.heap.size, 0, none⟩) lg lg) (.slice (some ⟨w1'.heap.size, 0, none⟩) lt lt) (.slice none 0 0) ∧ Free w2' (w.heap.size + 1) ∧ Free w2' (w.heap.size + 1 + 1)) := (by
    show _ ∧ _
    rw [hw2']
    exact ⟨HA2.1.off (by omega), HA2.2.1.off (by omega), HA2.2.2.1.set2, HA2.2.2.2.1.off (by omega), HA2.2.2.2.2.own⟩)
  obtain ⟨⟨_, _, _, a3⟩, _, ⟨_, _, o2, _⟩, _, ⟨_, _, f2, _⟩⟩ := HA2
  have ZZ2 : Hid (w2.heap.size ≥ w1'.heap.size) := z2
  clear hw2' x2 b2 z0 z1 z2 zz1 A0 A1 A2 A3 A4
  go_wp2_with fail
  rw [← HW2.out]
  clear a3 o2 f2 HW2
  refine (TR.out w2' B2'.out).mono ?_
  rintro e w3 ⟨u3, rfl, x3, b3⟩
  have z0 := Z0.out
  have z1 := Z1.out
  have zz1 := ZZ1.out
  have z2 := Z2.out
  have zz2 := ZZ2.out
  have z3 := b3.size
  have B3 : Hid (Below w.heap.size w w3) := B2'.out.trans (b3.mono B2'.out.size)
  have G3 : Hid (w3.ownsRow w0.heap.size 2 1 (.slice (some ⟨w0.heap.size, 0, none⟩) lg lg) lg (ints G)) := Rw1.row_on G2.out b3
  have T3 : Hid (w3.ownsRow w1'.heap.size 2 1 (.slice (some ⟨w1'.heap.size, 0, none⟩) lt lt) lt (ints T)) := Rw1.row_on T2.out b3
  have R3 : Hid (Rw.Row w3 w2'.heap.size u3 R) := x3
  obtain ⟨A0, A1, A2, A3, A4⟩ := HC.out
  obtain ⟨p0, p1, p2, p3⟩ := A2.on b3 (by omega : w.heap.size + 1 + 1 < w2'.heap.size)
  obtain ⟨s0, s1, s2, s3⟩ := A1.on b3 (by omega : w.heap.size + 1 < w2'.heap.size)
  obtain ⟨f0, f1, f2, f3⟩ := A3.on b3 (by omega : w.heap.size + 1 < w2'.heap.size)
  obtain ⟨_, _, _, pf3⟩ := A4.on b3 (by omega : w.heap.size + 1 + 1 < w2'.heap.size)
  have LE : Hid (w.heap.size + 3 ≤ w0.heap.size ∧ w.heap.size + 3 ≤ w1'.heap.size ∧ w.heap.size + 3 ≤ w2'.heap.size) := ⟨by omega, by omega, by omega⟩
  obtain ⟨ur, uc, er⟩ := x3.reads.form
  rw [HLS.out.2.2] at er
  have HE : Hid (u3 = .slice ur lr uc) := er
  rw [er]
  rw [er] at R3
  clear b3 x3 er z0 z1 z2 z3 zz1 zz2 A0 A1 A2 A3 A4
  go_wp2_with fail
  refine bodyPost_ret (v := .agg #[.int .i64 n, .slice (some ⟨w0.heap.size, 0, none⟩) lg lg, .slice (some ⟨w1'.heap.size, 0, none⟩) lt lt, .slice ur lr uc]) (by simp [results, Try.results7, go_sem, s0, s1, s2, s3]) rfl ⟨_, _, _, rfl, ?_, ?_, ?_, ?_⟩
  · refine Rw1.own_down ?_ (show w.heap.size ≤ w0.heap.size by have := LE.out; omega)
    have := LE.out
    exact Rw1.row_set (Rw1.row_set (Rw1.row_set (Rw1.row_set (Rw1.row_set G3.out _ _ _ (by omega)) _ _ _ (by omega)) _ _ _ (by omega)) _ _ _ (by omega)) _ _ _ (by omega)
  · refine Rw1.own_down ?_ (show w.heap.size ≤ w1'.heap.size by have := LE.out; omega)
    have := LE.out
    exact Rw1.row_set (Rw1.row_set (Rw1.row_set (Rw1.row_set (Rw1.row_set T3.out _ _ _ (by omega)) _ _ _ (by omega)) _ _ _ (by omega)) _ _ _ (by omega)) _ _ _ (by omega)
  · refine row_down ?_ (show w.heap.size ≤ w2'.heap.size by have := LE.out; omega)
    have := LE.out
    exact row_set (row_set (row_set (row_set (row_set R3.out _ _ _ (by omega)) _ _ _ (by omega)) _ _ _ (by omega)) _ _ _ (by omega)) _ _ _ (by omega)
  · exact ((((B3.out.setCell (p := ⟨w.heap.size + 1 + 1, 3, none⟩) (Nat.le_trans (Nat.le_succ _) (Nat.le_succ _)) _).setCell (p := ⟨w.heap.size + 1, 0, none⟩) (Nat.le_succ _) _).setCell (p := ⟨w.heap.size + 1, 1, none⟩) (Nat.le_succ _) _).setCell (p := ⟨w.heap.size + 1, 2, none⟩) (Nat.le_succ _) _).setCell (p := ⟨w.heap.size + 1, 3, none⟩) (Nat.le_succ _) _
end Go.Proofs.Ytaakiemmodncpaa.Pb
