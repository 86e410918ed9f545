/- A suite (a list of tasks, a list of limits) by value: measured, copied, compared. -/
import Derived.Test.YtpdmfhbpedimaaaTk
namespace Go.Proofs.Ytpdmfhbpedimaaa.Su
open Go.ChangeShapes Go.WideShapes Go.ChangeAt Go.RowKit
open Go.Proofs.Ytpdmfhbpedimaaa.Lists

abbrev pv (r l : Value) : Value := .agg #[r, l]
def Box (w : World) (b : Nat) (v0 v1 : Value) : Prop := w.cell? ⟨b, 0, none⟩ = some v0 ∧ w.cell? ⟨b, 1, none⟩ = some v1
def Free (w : World) (b : Nat) : Prop := w.frozen? ⟨b, 0, none⟩ = false ∧ w.frozen? ⟨b, 1, none⟩ = false
theorem Box.on {w w' : World} {B b : Nat} {v0 v1 : Value} (h : Box w b v0 v1) (hb : Below B w w') (hg : b < B) : Box w' b v0 v1 := by
  obtain ⟨h0, h1⟩ := h
  exact ⟨(hb.cell (p := ⟨b, 0, none⟩) hg).trans h0, (hb.cell (p := ⟨b, 1, none⟩) hg).trans h1⟩
theorem Free.on {w w' : World} {B b : Nat} (h : Free w b) (hb : Below B w w') (hg : b < B) : Free w' b := by
  obtain ⟨h0, h1⟩ := h
  exact ⟨(hb.frozen (p := ⟨b, 0, none⟩) hg).trans h0, (hb.frozen (p := ⟨b, 1, none⟩) hg).trans h1⟩
theorem Box.off {w : World} {b g o : Nat} {u v0 v1 : Value} (h : Box w b v0 v1) (hg : b ≠ g) : Box (w.setCell ⟨g, o, none⟩ u) b v0 v1 := by
  have e := Below.heap_setCell w ⟨g, o, none⟩ u b hg
  obtain ⟨h0, h1⟩ := h
  exact ⟨(World.cell?_of_block (a := ⟨b, 0, none⟩) e).trans h0, (World.cell?_of_block (a := ⟨b, 1, none⟩) e).trans h1⟩
theorem Free.off {w : World} {b g o : Nat} {u : Value} (h : Free w b) (hg : b ≠ g) : Free (w.setCell ⟨g, o, none⟩ u) b := by
  have e := Below.heap_setCell w ⟨g, o, none⟩ u b hg
  obtain ⟨h0, h1⟩ := h
  exact ⟨(World.frozen?_of_block (a := ⟨b, 0, none⟩) e).trans h0, (World.frozen?_of_block (a := ⟨b, 1, none⟩) e).trans h1⟩
theorem Free.own {w : World} {b o : Nat} {u : Value} (h : Free w b) : Free (w.setCell ⟨b, o, none⟩ u) b := by
  obtain ⟨h0, h1⟩ := h
  exact ⟨by simp [go_sem, h0], by simp [go_sem, h1]⟩
theorem Box.set0 {w : World} {b : Nat} {u v0 v1 : Value} (h : Box w b v0 v1) : Box (w.setCell ⟨b, 0, none⟩ u) b u v1 := by
  obtain ⟨h0, h1⟩ := h
  exact ⟨by simp [go_sem, h0], by simp [go_sem, h1]⟩
theorem row_set {w : World} {base : Nat} {v : Value} {L : Tk.Ls} (h : Tk.Row w base v L) (g o : Nat) (u : Value) (hg : g < base) : Tk.Row (w.setCell ⟨g, o, none⟩ u) base v L := by
  obtain ⟨xs, h, hh⟩ := h
  refine ⟨xs, ?_, fun i hi => ?_⟩
  · refine h.kept (row := some g) (grown_setCell (World.grownBy.refl w (some g)) o u) ?_
    cases e : v.ownBlock with
    | none => exact .inl rfl
    | some k =>
      refine .inr fun x => ?_
      have := (h.lt k e).1
      simp at x
      omega
  · obtain ⟨h1, h2, h3, z, hz, hr⟩ := hh i hi
    exact ⟨h1, h2, h3, z, hz, Tk1.row_set hr g o u hg⟩
theorem row_down {w : World} {B B' : Nat} {v : Value} {L : Tk.Ls} (h : Tk.Row w B v L) (hb : B' ≤ B) : Tk.Row w B' v L := by
  obtain ⟨xs, h, hh⟩ := h
  refine ⟨xs, ⟨h.1, ?_⟩, fun i hi => ?_⟩
  · rcases h.2 with h | ⟨gx, cap, cur, h1, h2, h3⟩
    · exact .inl h
    · exact .inr ⟨gx, cap, cur, h1, by omega, h3⟩
  · obtain ⟨h1, h2, h3, z, hz, hr⟩ := hh i hi
    exact ⟨h1, h2, h3, z, hz, Tk1.own_down hr hb⟩

theorem szl_any (a : Option Addr) (n cap : Nat) (l : Int) (w : World) (h0 : 0 ≤ l) (h1 : l ≤ 1048576) (hn : n < 9223372036854775808) :
    Calls Try.prog 48 #[.slice a n cap, .int .i64 l] w fun e w' => (∃ r : Int, e = .returned (.int .i64 r) ∧ (0 ≤ r → n ≤ 1048576) ∧ r ≤ 1048576) ∧ w' = w := by
  by_cases h : (n : Int) ≤ l
  · refine (Tk1.szl_near a n cap l w h1 h).mono ?_
    rintro e w1 ⟨rfl, hw⟩
    exact ⟨⟨_, rfl, fun _ => by omega, by omega⟩, hw⟩
  · refine (Tk1.szl_far a n cap l w h0 h1 (by omega) hn).mono ?_
    rintro e w1 ⟨rfl, hw⟩
    exact ⟨⟨_, rfl, fun h => by omega, by omega⟩, hw⟩

set_option maxHeartbeats 1000000 in
theorem sz_any (a2 : Option Addr) (n2 c2 : Nat) (vr : Value) (R : Tk.Ls) (l : Int) (w : World) (h0 : 0 ≤ l) (h1 : l ≤ 1048576) (f2 : n2 < 9223372036854775808) (hR : Tk.Reads w vr R) :
    Calls Try.prog 26 #[pv vr (.slice a2 n2 c2), .int .i64 l] w fun e w' => (∃ r : Int, e = .returned (.int .i64 r) ∧ (0 ≤ r → R.length ≤ 1048576 ∧ (∀ i, i < R.length → (Tk.cl R i).length ≤ 1048576) ∧ n2 ≤ 1048576) ∧ r ≤ 1048576) ∧ Below w.heap.size w w' := by
  obtain ⟨w0, hw0⟩ : ∃ w0, w0 = w.alloc (Obj.cells #[vr, .slice a2 n2 c2] 25) := ⟨_, rfl⟩
  have HW0 : Hid (w0 = w.alloc (Obj.cells #[vr, .slice a2 n2 c2] 25)) := hw0
  have B0 : Hid (Below w.heap.size w w0) := (by show Below _ _ _; rw [hw0]; exact (Below.refl _ _).alloc (Nat.le_refl _) _)
  have Z0 : Hid (w.heap.size < w0.heap.size) := (by show _ < _; rw [hw0]; simp)
  have X0 : Hid (Box w0 w.heap.size vr (.slice a2 n2 c2)) := (by show Box _ _ _ _; rw [hw0]; unfold Box; simp [go_sem])
  have Z2 : Hid (∀ l, 0 ≤ l → l ≤ 1048576 → ∀ w, Calls Try.prog 48 #[.slice a2 n2 c2, .int .i64 l] w fun e w' => (∃ r : Int, e = .returned (.int .i64 r) ∧ (0 ≤ r → n2 ≤ 1048576) ∧ r ≤ 1048576) ∧ w' = w) := fun l q0 q1 w => szl_any a2 n2 c2 l w q0 q1 f2
  have Z3 : Hid (Calls Try.prog 47 #[vr, .int .i64 l] w0 fun e w' => (∃ r : Int, e = .returned (.int .i64 r) ∧ (0 ≤ r → R.length ≤ 1048576 ∧ ∀ i, i < R.length → (Tk.cl R i).length ≤ 1048576) ∧ r ≤ 1048576) ∧ Below w0.heap.size w0 w') := Tk.szS_any vr R l w0 h0 h1 (hR.on B0.out)
  obtain ⟨ar, cr, rfl⟩ := hR.form
  obtain ⟨x0, x1⟩ := X0.out
  clear hR hw0 f2
  go_enter Try.func26, Try.ntmps26
  go_wp2_with fail
  rw [← HW0.out]
  refine (Z3.out).mono ?_
  rintro e w3 ⟨⟨r3, rfl, k3, j3⟩, hb⟩
  have B3 : Hid (Below w.heap.size w w3) := B0.out.trans (hb.mono B0.out.size)
  obtain ⟨y0, y1⟩ := X0.out.on hb Z0.out
  clear hb x0 x1 HW0
  by_cases q3 : r3 < 0
  · go_wp2_with fail
    go_ret
    exact ⟨⟨_, rfl, fun h => by omega, by omega⟩, B3.out⟩
  go_wp2_with fail
  refine (Z2.out _ (by omega) j3 _).mono ?_
  rintro e w2 ⟨⟨r2, rfl, k2, j2⟩, hw⟩
  have hw' := hw.symm
  subst hw'
  by_cases q2 : r2 < 0
  · go_wp2_with fail
    go_ret
    exact ⟨⟨_, rfl, fun h => by omega, by omega⟩, B3.out⟩
  go_wp2_with fail
  go_ret
  exact ⟨⟨_, rfl, fun _ => ⟨(k3 (by omega)).1, (k3 (by omega)).2, k2 (by omega)⟩, j2⟩, B3.out⟩

set_option maxHeartbeats 1000000 in
theorem eq_any (R : Tk.Ls) (T : List Int) (r1 r2 t1 t2 : Value) (w : World) (hR1 : Tk.Reads w r1 R) (hR2 : Tk.Reads w r2 R) (hT1 : Lists.Reads w t1 T) (hT2 : Lists.Reads w t2 T) :
    Calls Try.prog 37 #[pv r1 t1, pv r2 t2] w fun e w' => e = .returned (.bool true) ∧ Below w.heap.size w w' := by
  obtain ⟨w0, hw0⟩ : ∃ w0, w0 = (w.alloc (Obj.cells #[r1, t1] 32)).alloc (Obj.cells #[r2, t2] 32) := ⟨_, rfl⟩
  have HW0 : Hid (w0 = (w.alloc (Obj.cells #[r1, t1] 32)).alloc (Obj.cells #[r2, t2] 32)) := hw0
  have B0 : Hid (Below w.heap.size w w0) := (by show Below _ _ _; rw [hw0]; exact ((Below.refl _ _).alloc (Nat.le_refl _) _).alloc (by simp) _)
  have Z0 : Hid (w0.heap.size = w.heap.size + 2) := (by show _ = _; rw [hw0]; simp)
  have X1 : Hid (Box w0 w.heap.size r1 t1) := (by show Box _ _ _ _; rw [hw0]; unfold Box; simp [go_sem])
  have X2 : Hid (Box w0 (w.heap.size + 1) r2 t2) := (by show Box _ _ _ _; rw [hw0]; unfold Box; simp [go_sem])
  have E3 : Hid (Calls Try.prog 61 #[r1, r2] w0 fun e w' => e = .returned (.bool true) ∧ Below w0.heap.size w0 w') := Tk.eqS_any _ r1 r2 R (hR1.on B0.out) (hR2.on B0.out)
  have E2 : Hid (∀ w', Below w.heap.size w w' → Calls Try.prog 13 #[t1, t2] w' fun e w'' => e = .returned (.bool true) ∧ ∃ k, w'' = w'.drewN k) := fun w' hb => Tk.eq_reads _ t1 t2 T (hT1.on hb) (hT2.on hb)
  obtain ⟨x0, x1⟩ := X1.out
  obtain ⟨y0, y1⟩ := X2.out
  clear hT1 hT2 hR1 hR2 hw0
  go_enter Try.func37, Try.ntmps37
  go_wp2_with fail
  rw [← HW0.out]
  refine E3.out.mono ?_
  rintro e w3 ⟨rfl, hb⟩
  have B3 : Hid (Below w.heap.size w w3) := B0.out.trans (hb.mono B0.out.size)
  obtain ⟨p0, p1⟩ := X1.out.on hb (by have := Z0.out; omega)
  obtain ⟨q0, q1⟩ := X2.out.on hb (by have := Z0.out; omega)
  clear hb x0 x1 y0 y1 HW0
  go_wp2_with fail
  refine (E2.out w3 B3.out).mono ?_
  rintro e w4 ⟨rfl, m, hw⟩
  have B4 : Hid (Below w.heap.size w w4) := (by show Below _ _ _; rw [hw]; exact Tk1.below_drewN B3.out _)
  clear hw
  go_wp2_with fail
  go_ret
  exact ⟨rfl, B4.out⟩

set_option maxHeartbeats 1000000 in
theorem to_any (R : Tk.Ls) (T : List Int) (vr vt : Value) (w : World) (hR : Tk.Reads w vr R) (hT : Lists.Reads w vt T) (lR : R.length ≤ 1048576) (lR' : ∀ i, i < R.length → (Tk.cl R i).length ≤ 1048576) (lT : T.length ≤ 1048576) :
    Calls Try.prog 32 #[pv vr vt] w fun e w' => ∃ r t, e = .returned (pv r t) ∧ Tk.Row w' w.heap.size r R ∧ w'.ownsRow w.heap.size 2 1 t T.length (ints T) ∧ Below w.heap.size w w' := by
  have TT : Hid (∀ w', Below w.heap.size w w' → Calls Try.prog 52 #[vt] w' fun e w'' => e = .returned (.slice (some ⟨w'.heap.size, 0, none⟩) T.length T.length) ∧ w''.ownsRow w'.heap.size 2 1 (.slice (some ⟨w'.heap.size, 0, none⟩) T.length T.length) T.length (ints T) ∧ Below w'.heap.size w' w'') := fun w' hb => Lists.to_any w' vt T (hT.on hb) lT
  have TR : Hid (∀ w', Below w.heap.size w w' → Calls Try.prog 51 #[vr] w' fun e w'' => ∃ u, e = .returned u ∧ Tk.Row w'' w'.heap.size u R ∧ Below w'.heap.size w' w'') := fun w' hb => Tk.toS_any w' vr R (hR.on hb) lR lR'
  obtain ⟨w0, hw0⟩ : ∃ w0, w0 = ((w.alloc (Obj.cells #[vr, vt] 25)).alloc (Obj.cells #[.slice none 0 0, .slice none 0 0] 32)).alloc (Obj.cells #[.slice none 0 0, .slice none 0 0] 32) := ⟨_, rfl⟩
  have HW0 : Hid (w0 = ((w.alloc (Obj.cells #[vr, vt] 25)).alloc (Obj.cells #[.slice none 0 0, .slice none 0 0] 32)).alloc (Obj.cells #[.slice none 0 0, .slice none 0 0] 32)) := hw0
  have B0 : Hid (Below w.heap.size w w0) := (by show Below _ _ _; rw [hw0]; exact (((Below.refl _ _).alloc (Nat.le_refl _) _).alloc (by simp) _).alloc (by simp; omega) _)
  have Z0 : Hid (w0.heap.size = w.heap.size + 3) := (by show _ = _; rw [hw0]; simp)
  have XA : Box w0 w.heap.size vr vt := by rw [hw0]; unfold Box; simp [go_sem]
  have XR : Box w0 (w.heap.size + 1) (.slice none 0 0) (.slice none 0 0) := by rw [hw0]; unfold Box; simp [go_sem]
  have XO : Box w0 (w.heap.size + 1 + 1) (.slice none 0 0) (.slice none 0 0) := by rw [hw0]; unfold Box; simp [go_sem]
  have FR : Free w0 (w.heap.size + 1) := by rw [hw0]; unfold Free; simp [go_sem]
  have FO : Free w0 (w.heap.size + 1 + 1) := by rw [hw0]; unfold Free; simp [go_sem]
  have HA : Hid (Box w0 w.heap.size vr vt ∧ Box w0 (w.heap.size + 1) (.slice none 0 0) (.slice none 0 0) ∧ Box w0 (w.heap.size + 1 + 1) (.slice none 0 0) (.slice none 0 0) ∧ Free w0 (w.heap.size + 1) ∧ Free w0 (w.heap.size + 1 + 1)) := ⟨XA, XR, XO, FR, FO⟩
  obtain ⟨st, ct, et⟩ := hT.form
  obtain ⟨sr, cr, er⟩ := hR.form
  subst et er
  clear hT hR hw0 lT lR lR' XA XR XO FR FO
  generalize hlt : T.length = lt at *
  generalize hlr : R.length = lr at *
  have HLS : Hid (T.length = lt ∧ R.length = lr) := ⟨hlt, hlr⟩
  clear hlt hlr
  go_enter Try.func32, Try.ntmps32
  go_wp2_with fail
  rw [← HW0.out]
  refine (TR.out w0 B0.out).mono ?_
  rintro e w1 ⟨u1, rfl, x1, b1⟩
  have z0 := Z0.out
  have z1 := b1.size
  have B1 : Hid (Below w.heap.size w w1) := B0.out.trans (b1.mono B0.out.size)
  obtain ⟨ur, uc, er⟩ := x1.reads.form
  rw [HLS.out.2] at er
  subst er
  obtain ⟨A0, A1, A2, A3, A4⟩ := HA.out
  have HA1 : Box w1 w.heap.size (.slice sr lr cr) (.slice st lt ct) ∧ Box w1 (w.heap.size + 1) (.slice none 0 0) (.slice none 0 0) ∧ Box w1 (w.heap.size + 1 + 1) (.slice none 0 0) (.slice none 0 0) ∧ Free w1 (w.heap.size + 1) ∧ Free w1 (w.heap.size + 1 + 1) := ⟨A0.on b1 (by omega), A1.on b1 (by omega), A2.on b1 (by omega), A3.on b1 (by omega), A4.on b1 (by omega)⟩
  obtain ⟨w1', hw1'⟩ : ∃ x, x = w1.setCell ⟨w.heap.size + 1 + 1, 0, none⟩ (.slice ur lr uc) := ⟨_, rfl⟩
  have HW1 : Hid (w1' = w1.setCell ⟨w.heap.size + 1 + 1, 0, none⟩ (.slice ur lr uc)) := hw1'
  have Z1 : Hid (w1'.heap.size = w1.heap.size) := (by show _ = _; rw [hw1']; simp)
  have B1' : Hid (Below w.heap.size w w1') := (by show Below _ _ _; rw [hw1']; exact B1.out.setCell (p := ⟨w.heap.size + 1 + 1, 0, none⟩) (by show _ ≤ w.heap.size + 1 + 1; omega) _)
  have G1 : Hid (Tk.Row w1' w0.heap.size (.slice ur lr uc) R) := (by show Tk.Row _ _ _ _; rw [hw1']; exact row_set x1 _ _ _ (by omega))
  have HB : Hid (Box w1' w.heap.size (.slice sr lr cr) (.slice st lt ct) ∧ Box w1' (w.heap.size + 1) (.slice none 0 0) (.slice none 0 0) ∧ Box w1' (w.heap.size + 1 + 1) (.slice ur lr uc) (.slice none 0 0) ∧ Free w1' (w.heap.size + 1) ∧ Free w1' (w.heap.size + 1 + 1)) := (by
    show _ ∧ _
    rw [hw1']
    exact ⟨HA1.1.off (by omega), HA1.2.1.off (by omega), HA1.2.2.1.set0, HA1.2.2.2.1.off (by omega), HA1.2.2.2.2.own⟩)
  obtain ⟨⟨_, a2⟩, _, ⟨o1, _⟩, _, ⟨f1, _⟩⟩ := HA1
  have ZZ1 : Hid (w1.heap.size ≥ w0.heap.size) := z1
  clear hw1' x1 b1 z0 z1 A0 A1 A2 A3 A4
  go_wp2_with fail
  rw [← HW1.out]
  clear a2 o1 f1 HW1
  refine (TT.out w1' B1'.out).mono ?_
  rintro e w2 ⟨rfl, x2, b2⟩
  have z0 := Z0.out
  have z1 := Z1.out
  have zz1 := ZZ1.out
  have z2 := b2.size
  have B2 : Hid (Below w.heap.size w w2) := B1'.out.trans (b2.mono B1'.out.size)
  have G2 : Hid (Tk.Row w2 w0.heap.size (.slice ur lr uc) R) := G1.out.on b2
  have T2 : Hid (w2.ownsRow w1'.heap.size 2 1 (.slice (some ⟨w1'.heap.size, 0, none⟩) lt lt) lt (ints T)) := x2
  obtain ⟨A0, A1, A2, A3, A4⟩ := HB.out
  obtain ⟨p0, p1⟩ := A2.on b2 (by omega : w.heap.size + 1 + 1 < w1'.heap.size)
  obtain ⟨s0, s1⟩ := A1.on b2 (by omega : w.heap.size + 1 < w1'.heap.size)
  obtain ⟨f0, f1⟩ := A3.on b2 (by omega : w.heap.size + 1 < w1'.heap.size)
  obtain ⟨_, pf1⟩ := A4.on b2 (by omega : w.heap.size + 1 + 1 < w1'.heap.size)
  have LE : Hid (w.heap.size + 3 ≤ w0.heap.size ∧ w.heap.size + 3 ≤ w1'.heap.size) := ⟨by omega, by omega⟩
  clear b2 x2 z0 z1 z2 zz1 A0 A1 A2 A3 A4
  go_wp2_with fail
  refine bodyPost_ret (v := .agg #[.slice ur lr uc, .slice (some ⟨w1'.heap.size, 0, none⟩) lt lt]) (by simp [results, Try.results32, go_sem, s0, s1]) rfl ⟨_, _, rfl, ?_, ?_, ?_⟩
  · refine row_down ?_ (show w.heap.size ≤ w0.heap.size by have := LE.out; omega)
    have := LE.out
    exact row_set (row_set (row_set G2.out _ _ _ (by omega)) _ _ _ (by omega)) _ _ _ (by omega)
  · refine Tk1.own_down ?_ (show w.heap.size ≤ w1'.heap.size by have := LE.out; omega)
    have := LE.out
    exact Tk1.row_set (Tk1.row_set (Tk1.row_set T2.out _ _ _ (by omega)) _ _ _ (by omega)) _ _ _ (by omega)
  · exact ((B2.out.setCell (p := ⟨w.heap.size + 1 + 1, 1, none⟩) (Nat.le_trans (Nat.le_succ _) (Nat.le_succ _)) _).setCell (p := ⟨w.heap.size + 1, 0, none⟩) (Nat.le_succ _) _).setCell (p := ⟨w.heap.size + 1, 1, none⟩) (Nat.le_succ _) _
end Go.Proofs.Ytpdmfhbpedimaaa.Su
