/- A run tied: what is refused ahead of the loop. -/
import Derived.Test.YtfhpomfdkpfooaaTc
import Derived.Test.YtfhpomfdkpfooaaTg
import Derived.Test.YtfhpomfdkpfooaaGg
import Derived.Deep.RegionHeldLaw
import Derived.Deep.AppendLies
namespace Go.Proofs.Ytfhpomfdkpfooaa.Ty
open Go.ChangeShapes Go.WideShapes Go.ChangeAt Go.RowKit
open Go.Proofs.Ytfhpomfdkpfooaa.Lists Go.Proofs.Ytfhpomfdkpfooaa.Tm Go.Proofs.Ytfhpomfdkpfooaa.Rk Go.Proofs.Ytfhpomfdkpfooaa.Ru Go.Proofs.Ytfhpomfdkpfooaa.Al

abbrev nilS : Value := .slice none 0 0
theorem bel4 {B g : Nat} {a w : World} (h : Below B a w) (hg : B ≤ g) (u0 u1 u2 u3 : Value) : Below B a ((((w.setCell ⟨g, 0, none⟩ u0).setCell ⟨g, 1, none⟩ u1).setCell ⟨g, 2, none⟩ u2).setCell ⟨g, 3, none⟩ u3) :=
  (((h.setCell (p := ⟨g, 0, none⟩) hg _).setCell (p := ⟨g, 1, none⟩) hg _).setCell (p := ⟨g, 2, none⟩) hg _).setCell (p := ⟨g, 3, none⟩) hg _
abbrev noRun : Value := .tuple #[rv nilS nilS 0 nilS, nilS, .bool false]
theorem inn_eq (a b c : Int) : inn a b c = (decide (b ≤ a) && decide (a ≤ c)) := rfl
/-- the two boxes at the head of a function over a run -/
structure Hd (w : World) (h : Nat) (vr vx : Value) (now : Int) (vj : Value) : Prop where
  arg : Bl w h 30 #[vr, vx, .int .i64 now, vj]
  res : Bl w (h + 1) 30 #[nilS, nilS, .int .i64 0, nilS]
theorem Hd.on {w w' : World} {h : Nat} {vr vx : Value} {now : Int} {vj : Value} (t : Hd w h vr vx now vj) (hb : Below w.heap.size w w') : Hd w' h vr vx now vj := ⟨t.arg.on hb, t.res.on hb⟩
theorem Hd.new (w : World) (vr vx : Value) (now : Int) (vj : Value) : Hd ((w.alloc (.cells #[vr, vx, .int .i64 now, vj] 30)).alloc (.cells #[nilS, nilS, .int .i64 0, nilS] 30)) w.heap.size vr vx now vj := by
  refine ⟨(Bl.new w 30 _).on ((Below.refl _ _).alloc (Nat.le_refl _) _), ?_⟩
  have := Bl.new (w.alloc (.cells #[vr, vx, .int .i64 now, vj] 30)) 30 #[nilS, nilS, .int .i64 0, nilS]
  simpa using this

set_option maxHeartbeats 2000000 in
theorem tied_no1 (R : Tk.Ls) (X : List Int) (now : Int) (J : Jb.Ls) (vr vx vj : Value) (w : World) (hh : RR w vr vx vj R X J) (h1 : So.okS R X = false) :
    Calls Try.prog 28 #[rv vr vx now vj] w fun e w' => e = .returned noRun ∧ Below w.heap.size w w' := by
  obtain ⟨ar, cr, er⟩ := hh.1.form
  obtain ⟨ax, cx, ex⟩ := hh.2.1.form
  obtain ⟨aj, cj, ej⟩ := hh.2.2.form
  obtain ⟨w0, hw0⟩ : ∃ w0, w0 = (w.alloc (.cells #[vr, vx, .int .i64 now, vj] 30)).alloc (.cells #[nilS, nilS, .int .i64 0, nilS] 30) := ⟨_, rfl⟩
  have HW0 : Hid (w0 = (w.alloc (.cells #[vr, vx, .int .i64 now, vj] 30)).alloc (.cells #[nilS, nilS, .int .i64 0, nilS] 30)) := hw0
  have B0 : Hid (Below w.heap.size w w0) := (by show Below _ _ _; rw [hw0]; exact ((Below.refl _ _).alloc (Nat.le_refl _) _).alloc (by simp) _)
  have Y0 : Hid (Hd w0 w.heap.size vr vx now vj) := (by show Hd _ _ _ _ _ _; rw [hw0]; exact Hd.new w vr vx now vj)
  have Z0 : Hid (w0.heap.size = w.heap.size + 2) := (by show _ = _; rw [hw0]; simp)
  have fR := hh.1.fits
  have fJ := hh.2.2.fits
  have C1 : Hid (Calls Try.prog 35 #[Su.pv vr vx] w0 fun e w' => e = .returned (.bool (So.okS R X)) ∧ Below w0.heap.size w0 w') := So.isuite R X vr vx w0 (hh.1.on B0.out) (hh.2.1.on B0.out)
  rw [h1] at C1
  have IN : Hid (∀ w, Calls Try.prog 29 #[.int .i64 now, .int .i64 0, .int .i64 1000000000000] w fun e w' => e = .returned (.bool (inn now 0 1000000000000)) ∧ w' = w) := fun w => Lists.win_any now 0 1000000000000 w
  
  subst er ex ej
  generalize R.length = n at *
  generalize X.length = m at *
  generalize J.length = k at *
  clear hh hw0
  have y0 := (Y0.out.arg.cell 0).trans rfl
  have y1 := (Y0.out.arg.cell 1).trans rfl
  go_enter Try.func28, Try.ntmps28
  go_wp2_with fail
  rw [← HW0.out]
  refine (Calls.mono C1.out) ?_
  rintro e w1 ⟨rfl, hb⟩
  have B1 : Hid (Below w.heap.size w w1) := B0.out.trans (hb.mono B0.out.size)
  have Y1 : Hid (Hd w1 w.heap.size (.slice ar n cr) (.slice ax m cx) now (.slice aj k cj)) := Y0.out.on hb
  clear y0 y1 hb HW0 Y0 C1
  have y0 := (Y1.out.arg.cell 0).trans rfl
  have y2 := (Y1.out.arg.cell 2).trans rfl
  have y3 := (Y1.out.arg.cell 3).trans rfl
  have z0 := (Y1.out.res.cell 0).trans rfl
  have z1 := (Y1.out.res.cell 1).trans rfl
  have z2 := (Y1.out.res.cell 2).trans rfl
  have z3 := (Y1.out.res.cell 3).trans rfl
  have f0 := Y1.out.res.fz 0
  have f1 := Y1.out.res.fz 1
  have f2 := Y1.out.res.fz 2
  have f3 := Y1.out.res.fz 3
  go_wp2_with fail
  exact bodyPost_ret (v := noRun) (by simp [results, Try.results28, go_sem, z0, z1, z2, z3]) rfl ⟨rfl, bel4 B1.out (Nat.le_succ _) _ _ _ _⟩

set_option maxHeartbeats 2000000 in
theorem tied_no2 (R : Tk.Ls) (X : List Int) (now : Int) (J : Jb.Ls) (vr vx vj : Value) (w : World) (hh : RR w vr vx vj R X J) (h1 : So.okS R X = true) (h2 : inn now 0 1000000000000 = false) :
    Calls Try.prog 28 #[rv vr vx now vj] w fun e w' => e = .returned noRun ∧ Below w.heap.size w w' := by
  obtain ⟨ar, cr, er⟩ := hh.1.form
  obtain ⟨ax, cx, ex⟩ := hh.2.1.form
  obtain ⟨aj, cj, ej⟩ := hh.2.2.form
  obtain ⟨w0, hw0⟩ : ∃ w0, w0 = (w.alloc (.cells #[vr, vx, .int .i64 now, vj] 30)).alloc (.cells #[nilS, nilS, .int .i64 0, nilS] 30) := ⟨_, rfl⟩
  have HW0 : Hid (w0 = (w.alloc (.cells #[vr, vx, .int .i64 now, vj] 30)).alloc (.cells #[nilS, nilS, .int .i64 0, nilS] 30)) := hw0
  have B0 : Hid (Below w.heap.size w w0) := (by show Below _ _ _; rw [hw0]; exact ((Below.refl _ _).alloc (Nat.le_refl _) _).alloc (by simp) _)
  have Y0 : Hid (Hd w0 w.heap.size vr vx now vj) := (by show Hd _ _ _ _ _ _; rw [hw0]; exact Hd.new w vr vx now vj)
  have Z0 : Hid (w0.heap.size = w.heap.size + 2) := (by show _ = _; rw [hw0]; simp)
  have fR := hh.1.fits
  have fJ := hh.2.2.fits
  have C1 : Hid (Calls Try.prog 35 #[Su.pv vr vx] w0 fun e w' => e = .returned (.bool (So.okS R X)) ∧ Below w0.heap.size w0 w') := So.isuite R X vr vx w0 (hh.1.on B0.out) (hh.2.1.on B0.out)
  rw [h1] at C1
  have IN : Hid (∀ w, Calls Try.prog 29 #[.int .i64 now, .int .i64 0, .int .i64 1000000000000] w fun e w' => e = .returned (.bool (inn now 0 1000000000000)) ∧ w' = w) := fun w => Lists.win_any now 0 1000000000000 w
  rw [h2] at IN
  subst er ex ej
  generalize R.length = n at *
  generalize X.length = m at *
  generalize J.length = k at *
  clear hh hw0
  have y0 := (Y0.out.arg.cell 0).trans rfl
  have y1 := (Y0.out.arg.cell 1).trans rfl
  go_enter Try.func28, Try.ntmps28
  go_wp2_with fail
  rw [← HW0.out]
  refine (Calls.mono C1.out) ?_
  rintro e w1 ⟨rfl, hb⟩
  have B1 : Hid (Below w.heap.size w w1) := B0.out.trans (hb.mono B0.out.size)
  have Y1 : Hid (Hd w1 w.heap.size (.slice ar n cr) (.slice ax m cx) now (.slice aj k cj)) := Y0.out.on hb
  clear y0 y1 hb HW0 Y0 C1
  have y0 := (Y1.out.arg.cell 0).trans rfl
  have y2 := (Y1.out.arg.cell 2).trans rfl
  have y3 := (Y1.out.arg.cell 3).trans rfl
  have z0 := (Y1.out.res.cell 0).trans rfl
  have z1 := (Y1.out.res.cell 1).trans rfl
  have z2 := (Y1.out.res.cell 2).trans rfl
  have z3 := (Y1.out.res.cell 3).trans rfl
  have f0 := Y1.out.res.fz 0
  have f1 := Y1.out.res.fz 1
  have f2 := Y1.out.res.fz 2
  have f3 := Y1.out.res.fz 3
  go_wp2_with fail
  refine (IN.out _).mono ?_
  rintro e w2 ⟨rfl, hw2⟩
  subst w2
  go_wp2_with fail
  exact bodyPost_ret (v := noRun) (by simp [results, Try.results28, go_sem, z0, z1, z2, z3]) rfl ⟨rfl, bel4 B1.out (Nat.le_succ _) _ _ _ _⟩

set_option maxHeartbeats 2000000 in
theorem tied_no3 (R : Tk.Ls) (X : List Int) (now : Int) (J : Jb.Ls) (vr vx vj : Value) (w : World) (hh : RR w vr vx vj R X J) (h1 : So.okS R X = true) (h2 : inn now 0 1000000000000 = true) (h3 : ¬ J.length = R.length) :
    Calls Try.prog 28 #[rv vr vx now vj] w fun e w' => e = .returned noRun ∧ Below w.heap.size w w' := by
  obtain ⟨ar, cr, er⟩ := hh.1.form
  obtain ⟨ax, cx, ex⟩ := hh.2.1.form
  obtain ⟨aj, cj, ej⟩ := hh.2.2.form
  obtain ⟨w0, hw0⟩ : ∃ w0, w0 = (w.alloc (.cells #[vr, vx, .int .i64 now, vj] 30)).alloc (.cells #[nilS, nilS, .int .i64 0, nilS] 30) := ⟨_, rfl⟩
  have HW0 : Hid (w0 = (w.alloc (.cells #[vr, vx, .int .i64 now, vj] 30)).alloc (.cells #[nilS, nilS, .int .i64 0, nilS] 30)) := hw0
  have B0 : Hid (Below w.heap.size w w0) := (by show Below _ _ _; rw [hw0]; exact ((Below.refl _ _).alloc (Nat.le_refl _) _).alloc (by simp) _)
  have Y0 : Hid (Hd w0 w.heap.size vr vx now vj) := (by show Hd _ _ _ _ _ _; rw [hw0]; exact Hd.new w vr vx now vj)
  have Z0 : Hid (w0.heap.size = w.heap.size + 2) := (by show _ = _; rw [hw0]; simp)
  have fR := hh.1.fits
  have fJ := hh.2.2.fits
  have C1 : Hid (Calls Try.prog 35 #[Su.pv vr vx] w0 fun e w' => e = .returned (.bool (So.okS R X)) ∧ Below w0.heap.size w0 w') := So.isuite R X vr vx w0 (hh.1.on B0.out) (hh.2.1.on B0.out)
  rw [h1] at C1
  have IN : Hid (∀ w, Calls Try.prog 29 #[.int .i64 now, .int .i64 0, .int .i64 1000000000000] w fun e w' => e = .returned (.bool (inn now 0 1000000000000)) ∧ w' = w) := fun w => Lists.win_any now 0 1000000000000 w
  rw [h2] at IN
  subst er ex ej
  generalize R.length = n at *
  generalize X.length = m at *
  generalize J.length = k at *
  clear hh hw0
  have y0 := (Y0.out.arg.cell 0).trans rfl
  have y1 := (Y0.out.arg.cell 1).trans rfl
  go_enter Try.func28, Try.ntmps28
  go_wp2_with fail
  rw [← HW0.out]
  refine (Calls.mono C1.out) ?_
  rintro e w1 ⟨rfl, hb⟩
  have B1 : Hid (Below w.heap.size w w1) := B0.out.trans (hb.mono B0.out.size)
  have Y1 : Hid (Hd w1 w.heap.size (.slice ar n cr) (.slice ax m cx) now (.slice aj k cj)) := Y0.out.on hb
  clear y0 y1 hb HW0 Y0 C1
  have y0 := (Y1.out.arg.cell 0).trans rfl
  have y2 := (Y1.out.arg.cell 2).trans rfl
  have y3 := (Y1.out.arg.cell 3).trans rfl
  have z0 := (Y1.out.res.cell 0).trans rfl
  have z1 := (Y1.out.res.cell 1).trans rfl
  have z2 := (Y1.out.res.cell 2).trans rfl
  have z3 := (Y1.out.res.cell 3).trans rfl
  have f0 := Y1.out.res.fz 0
  have f1 := Y1.out.res.fz 1
  have f2 := Y1.out.res.fz 2
  have f3 := Y1.out.res.fz 3
  have h4 : ((k : Int) != (n : Int)) = true := by simpa using (by omega : ¬ (k : Int) = (n : Int))
  go_wp2_with fail
  refine (IN.out _).mono ?_
  rintro e w2 ⟨rfl, hw2⟩
  subst w2
  go_wp2_with fail
  exact bodyPost_ret (v := noRun) (by simp [results, Try.results28, go_sem, z0, z1, z2, z3]) rfl ⟨rfl, bel4 B1.out (Nat.le_succ _) _ _ _ _⟩
end Go.Proofs.Ytfhpomfdkpfooaa.Ty
