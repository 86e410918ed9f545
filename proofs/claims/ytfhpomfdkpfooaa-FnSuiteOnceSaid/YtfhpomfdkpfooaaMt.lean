/- TickRun: the model. -/
import Derived.Test.YtfhpomfdkpfooaaSc
import Derived.Test.YtfhpomfdkpfooaaIt
namespace Go.Proofs.Ytfhpomfdkpfooaa.Ty
open Go.ChangeShapes Go.WideShapes Go.ChangeAt Go.RowKit
open Go.Proofs.Ytfhpomfdkpfooaa.Lists Go.Proofs.Ytfhpomfdkpfooaa.Tm Go.Proofs.Ytfhpomfdkpfooaa.Rk Go.Proofs.Ytfhpomfdkpfooaa.Ru Go.Proofs.Ytfhpomfdkpfooaa.Al

theorem mo_kb {S : Nat → Prop} {w w' : World} {base : Nat} {r x j : Value} {R : Tk.Ls} {X : List Int} {J : Jb.Ls} (h : MO w base r x j R X J) (hb : KB S w w') (hs : ∀ b, S b → b < base ∨ w.heap.size ≤ b) : MO w' base r x j R X J := by
  have nn : ∀ {e k n : Nat} {v : Value} {ys : List Value} (g : Nat), w.ownsRow base e k v n ys → v.ownBlock = some g → ¬ S g := fun g hr hg hS => by
    have h1 := hr.lt g hg
    rcases hs g hS with q | q <;> omega
  obtain ⟨⟨xs, h1, h2⟩, h3, ys, h4, h5⟩ := h
  refine ⟨⟨xs, row_kb h1 hb (fun g hg => nn g h1 hg), fun i hi => ?_⟩, row_kb h3 hb (fun g hg => nn g h3 hg), ys, row_kb h4 hb (fun g hg => nn g h4 hg), h5⟩
  obtain ⟨a1, a2, a3, u, hu, hr⟩ := h2 i hi
  exact ⟨a1, a2, a3, u, hu, row_kb hr hb (fun g hg => nn g hr hg)⟩
theorem nw_two {now tn : Int} (h : 0 ≤ now ∧ now ≤ 1000000000000) : (if 1000000000000 < now + (if 1000000000000 < tn then 1000000000000 else tn) then 1000000000000 else now + (if 1000000000000 < tn then 1000000000000 else tn)) = nw now tn := by
  unfold nw
  repeat' split
  all_goals omega

set_option maxHeartbeats 2000000 in
theorem stick_no (R : Tk.Ls) (X : List Int) (now : Int) (J : Jb.Ls) (vr vx vj : Value) (tn : Int) (w : World) (hh : RR w vr vx vj R X J) (hk : okR R X now J = false) :
    Calls Try.prog 12 #[rv vr vx now vj, .int .i64 tn] w fun e w' => e = .returned (.tuple #[rv nilS nilS 0 nilS, (.slice (some ⟨w.heap.size + 2, 0, none⟩) 0 0)]) ∧ Below w.heap.size w w' := by
  obtain ⟨ar, cr, er⟩ := hh.1.form
  obtain ⟨ax, cx, ex⟩ := hh.2.1.form
  obtain ⟨aj, cj, ej⟩ := hh.2.2.form
  obtain ⟨w0, hw0⟩ : ∃ w0, w0 = (w.alloc (.cells #[vr, vx, .int .i64 now, vj] 30)).alloc (.cells #[nilS, nilS, .int .i64 0, nilS] 30) := ⟨_, rfl⟩
  have HW0 : Hid (w0 = (w.alloc (.cells #[vr, vx, .int .i64 now, vj] 30)).alloc (.cells #[nilS, nilS, .int .i64 0, nilS] 30)) := hw0
  have B0 : Hid (Below w.heap.size w w0) := (by show Below _ _ _; rw [hw0]; exact ((Below.refl _ _).alloc (Nat.le_refl _) _).alloc (by simp) _)
  have Y0 : Hid (Hd w0 w.heap.size vr vx now vj) := (by show Hd _ _ _ _ _ _; rw [hw0]; exact Hd.new w vr vx now vj)
  have Z0 : Hid (w0.heap.size = w.heap.size + 2) := (by show _ = _; rw [hw0]; simp)
  have C1 : Hid (∀ W, Below w.heap.size w W → Calls Try.prog 25 #[rv vr vx now vj] W fun e w' => e = .returned (.bool false) ∧ Below W.heap.size W w') := fun W hb => (by rw [← hk]; exact sok_any R X now J vr vx vj W (hh.on hb))
  obtain ⟨y0, y1, y2, y3⟩ := Y0.out.s
  subst er ex ej
  generalize R.length = n at *
  generalize X.length = m at *
  generalize J.length = k at *
  clear hh hw0 hk
  obtain ⟨wz, hwz⟩ : ∃ y, y = w0.alloc (.cells #[] 2) := ⟨_, rfl⟩
  have HWZ : Hid (wz = w0.alloc (.cells #[] 2)) := hwz
  have bz : Below w0.heap.size w0 wz := by rw [hwz]; exact (Below.refl _ _).alloc (Nat.le_refl _) _
  have BZ : Hid (Below w.heap.size w wz) := B0.out.trans (bz.mono B0.out.size)
  have YZ : Hid (Hd wz w.heap.size (.slice ar n cr) (.slice ax m cx) now (.slice aj k cj)) := Y0.out.on bz
  have ZZ : Hid (wz.heap.size = w.heap.size + 3) := (by show _ = _; rw [hwz]; simp [Z0.out])
  have RZ : Hid (wz.ownsRow (w.heap.size + 2) 2 1 (.slice (some ⟨w.heap.size + 2, 0, none⟩) 0 0) 0 []) := (by have q := Cp.empty_row (W := w0) 2 1; rw [← hwz, Z0.out] at q; exact q)
  clear bz hwz
  go_enter Try.func12, Try.ntmps12
  go_wp2_with fail
  rw [← HW0.out, ← HWZ.out]
  refine (C1.out wz BZ.out).mono ?_
  rintro e w1 ⟨rfl, b⟩
  have B1 : Hid (Below w.heap.size w w1) := BZ.out.trans (b.mono BZ.out.size)
  have Y1 : Hid (Hd w1 w.heap.size (.slice ar n cr) (.slice ax m cx) now (.slice aj k cj)) := YZ.out.on b
  have R1 : Hid (w1.ownsRow (w.heap.size + 2) 2 1 (.slice (some ⟨w.heap.size + 2, 0, none⟩) 0 0) 0 []) := Tk1.row_on RZ.out b
  have Z1 : Hid (w.heap.size + 3 ≤ w1.heap.size) := (by have := ZZ.out; have := b.size; show _ ≤ _; omega)
  clear y0 y1 y2 y3 b HW0 Y0 HWZ BZ YZ RZ ZZ
  have z0 : w1.cell? ⟨w.heap.size + 1, 0, none⟩ = some nilS := (Y1.out.res.cell 0).trans rfl
  have z1 : w1.cell? ⟨w.heap.size + 1, 1, none⟩ = some nilS := (Y1.out.res.cell 1).trans rfl
  have z2 : w1.cell? ⟨w.heap.size + 1, 2, none⟩ = some (.int .i64 0) := (Y1.out.res.cell 2).trans rfl
  have z3 : w1.cell? ⟨w.heap.size + 1, 3, none⟩ = some nilS := (Y1.out.res.cell 3).trans rfl
  have f0 := Y1.out.res.fz 0
  have f1 := Y1.out.res.fz 1
  have f2 := Y1.out.res.fz 2
  have f3 := Y1.out.res.fz 3
  go_wp2_with fail
  exact bodyPost_ret (v := .tuple #[rv nilS nilS 0 nilS, (.slice (some ⟨w.heap.size + 2, 0, none⟩) 0 0)]) (by simp [results, Try.results12, go_sem, z0, z1, z2, z3]) rfl ⟨rfl, bel4 B1.out (Nat.le_succ _) _ _ _ _⟩

set_option maxHeartbeats 4000000 in
set_option maxRecDepth 20000 in
theorem stick_neg (R : Tk.Ls) (X : List Int) (now : Int) (J : Jb.Ls) (vr vx vj : Value) (tn : Int) (w : World) (hh : RR w vr vx vj R X J) (hk : okR R X now J = true) (h4 : tn < 0) :
    Calls Try.prog 12 #[rv vr vx now vj, .int .i64 tn] w fun e w' => e = .returned (.tuple #[rv nilS nilS 0 nilS, (.slice (some ⟨w.heap.size + 2, 0, none⟩) 0 0)]) ∧ Below w.heap.size w w' := by
  obtain ⟨ar, cr, er⟩ := hh.1.form
  obtain ⟨ax, cx, ex⟩ := hh.2.1.form
  obtain ⟨aj, cj, ej⟩ := hh.2.2.form
  obtain ⟨w0, hw0⟩ : ∃ w0, w0 = (w.alloc (.cells #[vr, vx, .int .i64 now, vj] 30)).alloc (.cells #[nilS, nilS, .int .i64 0, nilS] 30) := ⟨_, rfl⟩
  have HW0 : Hid (w0 = (w.alloc (.cells #[vr, vx, .int .i64 now, vj] 30)).alloc (.cells #[nilS, nilS, .int .i64 0, nilS] 30)) := hw0
  have B0 : Hid (Below w.heap.size w w0) := (by show Below _ _ _; rw [hw0]; exact ((Below.refl _ _).alloc (Nat.le_refl _) _).alloc (by simp) _)
  have Y0 : Hid (Hd w0 w.heap.size vr vx now vj) := (by show Hd _ _ _ _ _ _; rw [hw0]; exact Hd.new w vr vx now vj)
  have Z0 : Hid (w0.heap.size = w.heap.size + 2) := (by show _ = _; rw [hw0]; simp)
  have C1 : Hid (∀ W, Below w.heap.size w W → Calls Try.prog 25 #[rv vr vx now vj] W fun e w' => e = .returned (.bool true) ∧ Below W.heap.size W w') := fun W hb => (by rw [← hk]; exact sok_any R X now J vr vx vj W (hh.on hb))
  have C2 : Hid (∀ W, Below w.heap.size w W → Calls Try.prog 26 #[rv vr vx now vj] W fun e w' => ∃ ra rc xa xc jb jc, e = .returned (rv (.slice ra R.length rc) (.slice xa X.length xc) now (.slice (some ⟨jb, 0, none⟩) J.length jc)) ∧ MO w' W.heap.size (.slice ra R.length rc) (.slice xa X.length xc) (.slice (some ⟨jb, 0, none⟩) J.length jc) R X J ∧ Below W.heap.size W w') := fun W hb => copy_any R X now J vr vx vj W (hh.on hb) hk
  obtain ⟨y0, y1, y2, y3⟩ := Y0.out.s
  obtain ⟨o1, o2, o3⟩ := okR_parts hk
  have F := fit_of o1
  have HF : Hid (Fit R X) := F
  have n60 := F.r60
  have n1 := F.r1
  have HR : Hid (RR w vr vx vj R X J) := hh
  have JB : Hid (∀ i, i < J.length → 0 ≤ tr J i ∧ tr J i ≤ 5) := fun i hi => jok_bd hk i hi
  have now0 : 0 ≤ now ∧ now ≤ 1000000000000 := by have h2 := o2; rw [inn_eq, Bool.and_eq_true, decide_eq_true_eq, decide_eq_true_eq] at h2; exact h2
  subst er ex ej
  obtain ⟨n, hn⟩ : ∃ n, R.length = n := ⟨_, rfl⟩
  obtain ⟨m, hm⟩ : ∃ m, X.length = m := ⟨_, rfl⟩
  have HN : Hid (R.length = n) := hn
  have HM : Hid (X.length = m) := hm
  have HJ : Hid (J.length = n) := o3.trans hn
  simp only [o3, hn, hm] at y0 y1 y2 y3 HW0 Y0 n60 n1 C1 C2 HR JB ⊢
  clear hh hw0 hk o1 o2 o3 hn hm F
  obtain ⟨wz, hwz⟩ : ∃ y, y = w0.alloc (.cells #[] 2) := ⟨_, rfl⟩
  have HWZ : Hid (wz = w0.alloc (.cells #[] 2)) := hwz
  have bz : Below w0.heap.size w0 wz := by rw [hwz]; exact (Below.refl _ _).alloc (Nat.le_refl _) _
  have BZ : Hid (Below w.heap.size w wz) := B0.out.trans (bz.mono B0.out.size)
  have YZ : Hid (Hd wz w.heap.size (.slice ar n cr) (.slice ax m cx) now (.slice aj n cj)) := Y0.out.on bz
  have ZZ : Hid (wz.heap.size = w.heap.size + 3) := (by show _ = _; rw [hwz]; simp [Z0.out])
  have RZ : Hid (wz.ownsRow (w.heap.size + 2) 2 1 (.slice (some ⟨w.heap.size + 2, 0, none⟩) 0 0) 0 []) := (by have q := Cp.empty_row (W := w0) 2 1; rw [← hwz, Z0.out] at q; exact q)
  clear bz hwz
  go_enter Try.func12, Try.ntmps12
  go_wp2_with fail
  rw [← HW0.out, ← HWZ.out]
  refine (C1.out wz BZ.out).mono ?_
  rintro e w1 ⟨rfl, b⟩
  have B1 : Hid (Below w.heap.size w w1) := BZ.out.trans (b.mono BZ.out.size)
  have Y1 : Hid (Hd w1 w.heap.size (.slice ar n cr) (.slice ax m cx) now (.slice aj n cj)) := YZ.out.on b
  have R1 : Hid (w1.ownsRow (w.heap.size + 2) 2 1 (.slice (some ⟨w.heap.size + 2, 0, none⟩) 0 0) 0 []) := Tk1.row_on RZ.out b
  have Z1 : Hid (w.heap.size + 3 ≤ w1.heap.size) := (by have := ZZ.out; have := b.size; show _ ≤ _; omega)
  clear y0 y1 y2 y3 b HW0 Y0 HWZ BZ YZ RZ ZZ
  have z0 : w1.cell? ⟨w.heap.size + 1, 0, none⟩ = some nilS := (Y1.out.res.cell 0).trans rfl
  have z1 : w1.cell? ⟨w.heap.size + 1, 1, none⟩ = some nilS := (Y1.out.res.cell 1).trans rfl
  have z2 : w1.cell? ⟨w.heap.size + 1, 2, none⟩ = some (.int .i64 0) := (Y1.out.res.cell 2).trans rfl
  have z3 : w1.cell? ⟨w.heap.size + 1, 3, none⟩ = some nilS := (Y1.out.res.cell 3).trans rfl
  have f0 := Y1.out.res.fz 0
  have f1 := Y1.out.res.fz 1
  have f2 := Y1.out.res.fz 2
  have f3 := Y1.out.res.fz 3
  go_wp2_with fail
  exact bodyPost_ret (v := .tuple #[rv nilS nilS 0 nilS, (.slice (some ⟨w.heap.size + 2, 0, none⟩) 0 0)]) (by simp [results, Try.results12, go_sem, z0, z1, z2, z3]) rfl ⟨rfl, bel4 B1.out (Nat.le_succ _) _ _ _ _⟩

set_option maxHeartbeats 4000000 in
set_option maxRecDepth 20000 in
theorem stick_yes (R : Tk.Ls) (X : List Int) (now : Int) (J : Jb.Ls) (vr vx vj : Value) (tn : Int) (w : World) (hh : RR w vr vx vj R X J) (hk : okR R X now J = true) (h4 : 0 ≤ tn) :
    Calls Try.prog 12 #[rv vr vx now vj, .int .i64 tn] w fun e w' => ∃ ra rc xa xc ja jc la lc, e = .returned (.tuple #[rv (.slice ra R.length rc) (.slice xa X.length xc) (nw now tn) (.slice ja J.length jc), .slice la (lts R J now (nw now tn) R.length).length lc]) ∧ MO w' w.heap.size (.slice ra R.length rc) (.slice xa X.length xc) (.slice ja J.length jc) R X J ∧ Lists.Reads w' (.slice la (lts R J now (nw now tn) R.length).length lc) (lts R J now (nw now tn) R.length) ∧ Below w.heap.size w w' := by
  obtain ⟨ar, cr, er⟩ := hh.1.form
  obtain ⟨ax, cx, ex⟩ := hh.2.1.form
  obtain ⟨aj, cj, ej⟩ := hh.2.2.form
  obtain ⟨w0, hw0⟩ : ∃ w0, w0 = (w.alloc (.cells #[vr, vx, .int .i64 now, vj] 30)).alloc (.cells #[nilS, nilS, .int .i64 0, nilS] 30) := ⟨_, rfl⟩
  have HW0 : Hid (w0 = (w.alloc (.cells #[vr, vx, .int .i64 now, vj] 30)).alloc (.cells #[nilS, nilS, .int .i64 0, nilS] 30)) := hw0
  have B0 : Hid (Below w.heap.size w w0) := (by show Below _ _ _; rw [hw0]; exact ((Below.refl _ _).alloc (Nat.le_refl _) _).alloc (by simp) _)
  have Y0 : Hid (Hd w0 w.heap.size vr vx now vj) := (by show Hd _ _ _ _ _ _; rw [hw0]; exact Hd.new w vr vx now vj)
  have Z0 : Hid (w0.heap.size = w.heap.size + 2) := (by show _ = _; rw [hw0]; simp)
  have C1 : Hid (∀ W, Below w.heap.size w W → Calls Try.prog 25 #[rv vr vx now vj] W fun e w' => e = .returned (.bool true) ∧ Below W.heap.size W w') := fun W hb => (by rw [← hk]; exact sok_any R X now J vr vx vj W (hh.on hb))
  have C2 : Hid (∀ W, Below w.heap.size w W → Calls Try.prog 26 #[rv vr vx now vj] W fun e w' => ∃ ra rc xa xc jb jc, e = .returned (rv (.slice ra R.length rc) (.slice xa X.length xc) now (.slice (some ⟨jb, 0, none⟩) J.length jc)) ∧ MO w' W.heap.size (.slice ra R.length rc) (.slice xa X.length xc) (.slice (some ⟨jb, 0, none⟩) J.length jc) R X J ∧ Below W.heap.size W w') := fun W hb => copy_any R X now J vr vx vj W (hh.on hb) hk
  obtain ⟨y0, y1, y2, y3⟩ := Y0.out.s
  obtain ⟨o1, o2, o3⟩ := okR_parts hk
  have F := fit_of o1
  have HF : Hid (Fit R X) := F
  have n60 := F.r60
  have n1 := F.r1
  have HR : Hid (RR w vr vx vj R X J) := hh
  have JB : Hid (∀ i, i < J.length → 0 ≤ tr J i ∧ tr J i ≤ 5) := fun i hi => jok_bd hk i hi
  have now0 : 0 ≤ now ∧ now ≤ 1000000000000 := by have h2 := o2; rw [inn_eq, Bool.and_eq_true, decide_eq_true_eq, decide_eq_true_eq] at h2; exact h2
  subst er ex ej
  obtain ⟨n, hn⟩ : ∃ n, R.length = n := ⟨_, rfl⟩
  obtain ⟨m, hm⟩ : ∃ m, X.length = m := ⟨_, rfl⟩
  have HN : Hid (R.length = n) := hn
  have HM : Hid (X.length = m) := hm
  have HJ : Hid (J.length = n) := o3.trans hn
  simp only [o3, hn, hm] at y0 y1 y2 y3 HW0 Y0 n60 n1 C1 C2 HR JB ⊢
  clear hh hw0 hk o1 o2 o3 hn hm F
  obtain ⟨wz, hwz⟩ : ∃ y, y = w0.alloc (.cells #[] 2) := ⟨_, rfl⟩
  have HWZ : Hid (wz = w0.alloc (.cells #[] 2)) := hwz
  have bz : Below w0.heap.size w0 wz := by rw [hwz]; exact (Below.refl _ _).alloc (Nat.le_refl _) _
  have BZ : Hid (Below w.heap.size w wz) := B0.out.trans (bz.mono B0.out.size)
  have YZ : Hid (Hd wz w.heap.size (.slice ar n cr) (.slice ax m cx) now (.slice aj n cj)) := Y0.out.on bz
  have ZZ : Hid (wz.heap.size = w.heap.size + 3) := (by show _ = _; rw [hwz]; simp [Z0.out])
  have RZ : Hid (wz.ownsRow (w.heap.size + 2) 2 1 (.slice (some ⟨w.heap.size + 2, 0, none⟩) 0 0) 0 []) := (by have q := Cp.empty_row (W := w0) 2 1; rw [← hwz, Z0.out] at q; exact q)
  clear bz hwz
  go_enter Try.func12, Try.ntmps12
  go_wp2_with fail
  rw [← HW0.out, ← HWZ.out]
  refine (C1.out wz BZ.out).mono ?_
  rintro e w1 ⟨rfl, b⟩
  have B1 : Hid (Below w.heap.size w w1) := BZ.out.trans (b.mono BZ.out.size)
  have Y1 : Hid (Hd w1 w.heap.size (.slice ar n cr) (.slice ax m cx) now (.slice aj n cj)) := YZ.out.on b
  have R1 : Hid (w1.ownsRow (w.heap.size + 2) 2 1 (.slice (some ⟨w.heap.size + 2, 0, none⟩) 0 0) 0 []) := Tk1.row_on RZ.out b
  have Z1 : Hid (w.heap.size + 3 ≤ w1.heap.size) := (by have := ZZ.out; have := b.size; show _ ≤ _; omega)
  clear y0 y1 y2 y3 b HW0 Y0 HWZ BZ YZ RZ ZZ
  obtain ⟨y0, y1, y2, y3⟩ := Y1.out.s
  have h4' : ¬ tn < 0 := by omega
  go_wp2_with fail
  refine (C2.out w1 B1.out).mono ?_
  rintro e w2 ⟨ra, rc, xa, xc, jb, jc, rfl, t2, b2⟩
  have B2 : Below w.heap.size w w2 := B1.out.trans (b2.mono B1.out.size)
  have Y2 := Y1.out.on b2
  have l1 : w.heap.size + 3 ≤ w1.heap.size := Z1.out
  have R2 := Tk1.row_on R1.out b2
  obtain ⟨w3, hw3⟩ : ∃ y, y = w2.alloc (.cells #[.slice ra n rc, .slice xa m xc, .int .i64 now, .slice (some ⟨jb, 0, none⟩) n jc] 30) := ⟨_, rfl⟩
  have HW3 : Hid (w3 = w2.alloc (.cells #[.slice ra n rc, .slice xa m xc, .int .i64 now, .slice (some ⟨jb, 0, none⟩) n jc] 30)) := hw3
  obtain ⟨nb, hnb⟩ : ∃ nb, nb = w2.heap.size := ⟨_, rfl⟩
  have HNB : Hid (nb = w2.heap.size) := hnb
  have bA : Below w2.heap.size w2 w3 := by rw [hw3]; exact (Below.refl _ _).alloc (Nat.le_refl _) _
  have B3 : Hid (Below w.heap.size w w3) := B2.trans (bA.mono B2.size)
  have X3 : Hid (Bx w3 (w.heap.size + 1) nb (.slice ra n rc) (.slice xa m xc) now (.slice (some ⟨jb, 0, none⟩) n jc)) := ⟨by rw [hw3, hnb]; exact Bl.new w2 30 _, (Y2.on bA).res, by have := Y2.res.lt; omega⟩
  have A3 : Hid (Bl w3 w.heap.size 30 #[.slice ar n cr, .slice ax m cx, .int .i64 now, .slice aj n cj]) := (Y2.on bA).arg
  have T3 : Hid (MO w3 (w.heap.size + 3) (.slice ra n rc) (.slice xa m xc) (.slice (some ⟨jb, 0, none⟩) n jc) R X J) := (t2.on bA).down l1
  have R3 : Hid (w3.ownsRow (w.heap.size + 2) 2 1 (.slice (some ⟨w.heap.size + 2, 0, none⟩) 0 0) 0 []) := Tk1.row_on R2 bA
  clear R2 R1
  have NBL : Hid (w.heap.size + 2 < nb) := (by have := b2.size; show _ < _; omega)
  clear hw3 hnb bA Y2 t2 b2 y0 y1 y2 y3 C1 C2 B0 B1 Y1 B2 l1
  go_upto_region 5 with fail
  rw [← HW3.out, ← HNB.out]
  clear HW3 HNB
  obtain ⟨⟨c0, c1, c2, c3⟩, ⟨z0, z1, z2, z3⟩, ⟨f0, f1, f2, f3⟩⟩ := X3.out.s
  have a2 : w3.cell? ⟨w.heap.size, 2, none⟩ = some (.int .i64 now) := (A3.out.cell 2).trans rfl
  have fb2 := X3.out.box.fz 2
  have nbw := nw_bd now0 h4
  have NE : Hid ((if 1000000000000 < now + (if 1000000000000 < tn then 1000000000000 else tn) then 1000000000000 else now + (if 1000000000000 < tn then 1000000000000 else tn)) = nw now tn) := nw_two now0
  go_upto_region 6 with fail
  rw [NE.out]
  clear NE
  generalize (if 1000000000000 < tn then 1000000000000 else tn) = mz
  have NL := X3.out.box.lt
  have NB0 : w.heap.size + 2 < nb := NBL.out
  obtain ⟨H0, hH0⟩ : ∃ y, y = w3.heap.size := ⟨_, rfl⟩
  obtain ⟨w4, hw4⟩ : ∃ y, y = w3.setCell ⟨nb, 2, none⟩ (.int .i64 (nw now tn)) := ⟨_, rfl⟩
  have HW4 : Hid (w4 = w3.setCell ⟨nb, 2, none⟩ (.int .i64 (nw now tn))) := hw4
  have ks : KB (fun b => b = nb) w3 w4 := by rw [hw4]; exact kb_set w3 nb 2 _
  have X4 : Hid (Bx w4 (w.heap.size + 1) nb (.slice ra n rc) (.slice xa m xc) (nw now tn) (.slice (some ⟨jb, 0, none⟩) n jc)) := (by show Bx _ _ _ _ _ _ _; rw [hw4]; exact bx_now X3.out _)
  have T4 : Hid (MO w4 (w.heap.size + 3) (.slice ra n rc) (.slice xa m xc) (.slice (some ⟨jb, 0, none⟩) n jc) R X J) := mo_box T3.out ks X3.out.box.ty
  have A4 : Hid (Bx w4 (w.heap.size + 1) w.heap.size (.slice ar n cr) (.slice ax m cx) now (.slice aj n cj)) := ⟨A3.out.kb ks (fun e => by omega), X4.out.res, by omega⟩
  have B4 : Hid (Below w.heap.size w w4) := (by show Below _ _ _; rw [hw4]; exact B3.out.setCell (p := ⟨nb, 2, none⟩) (by show w.heap.size ≤ nb; omega) _)
  have Z4 : Hid (w4.heap.size = H0) := (by show _ = _; rw [hw4, hH0]; simp)
  have S4 : Hid (KB (fun b => b = w.heap.size + 2 ∨ H0 ≤ b) w4 w4 ∧ World.ownsRow w4 (w.heap.size + 2) 2 1 (.slice (some ⟨w.heap.size + 2, 0, none⟩) 0 0) (lts R J now (nw now tn) 0).length (ints (lts R J now (nw now tn) 0)) ∧ (∀ g, Value.ownBlock (.slice (some ⟨w.heap.size + 2, 0, none⟩) 0 0) = some g → g = w.heap.size + 2 ∨ H0 ≤ g)) := (by
    refine ⟨KB.refl _ _, ?_, fun g hg => .inl (by simp [Value.ownBlock] at hg; omega)⟩
    exact row_kb R3.out ks (fun g hg e => (row_ty R3.out g hg).ne X3.out.box.ty (by decide) e))
  have NBH : Hid (w.heap.size + 2 < nb ∧ nb < H0) := ⟨NB0, by omega⟩
  rw [← HW4.out]
  obtain ⟨br, or, KR0, hvr⟩ := tasks_at HR.out.1
  obtain ⟨rlt, rcap, hre⟩ := hvr (by rw [HN.out]; omega)
  rw [HN.out] at hre
  simp at hre
  obtain ⟨hre1, hre2⟩ := hre
  subst hre1
  obtain ⟨vb, vo, KJ0, hvj⟩ := jobs_at HR.out.2.2
  obtain ⟨vlt, vcap, hve⟩ := hvj (by rw [HJ.out]; omega)
  rw [HJ.out] at hve
  simp at hve
  obtain ⟨hve1, hve2⟩ := hve
  subst hve1
  have KR : Hid (∀ w', Below w.heap.size w w' → ∀ i, i < R.length → Tk.Cs w' br or R i) := KR0
  have KJ : Hid (∀ w', Below w.heap.size w w' → ∀ i, i < J.length → Jb.Cs w' vb vo J i) := KJ0
  clear hH0 hw4 HW4 ks X3 T3 A3 B3 R3 NB0 NL c0 c1 c2 c3 z0 z1 z2 z3 f0 f1 f2 f3 a2 fb2 h4' KR0 hvr hre2 KJ0 hvj hve2 HR NBL
  have BK : Hid (∀ W, KB (fun b => b = w.heap.size + 2 ∨ H0 ≤ b) w4 W → Below w.heap.size w W ∧ Bx W (w.heap.size + 1) nb (.slice ra n rc) (.slice xa m xc) (nw now tn) (.slice (some ⟨jb, 0, none⟩) n jc) ∧ Bx W (w.heap.size + 1) w.heap.size (.slice (some ⟨br, or, none⟩) n cr) (.slice ax m cx) now (.slice (some ⟨vb, vo, none⟩) n cj)) := fun W hk => (by
    have h1 := NBH.out
    refine ⟨B4.out.trans (hk.below B4.out.size (fun b hb => by rcases hb with q | q <;> omega)), ⟨X4.out.box.kb hk (by omega), X4.out.res.kb hk (by omega), X4.out.ne⟩, ⟨A4.out.box.kb hk (by omega), A4.out.res.kb hk (by omega), A4.out.ne⟩⟩)
  obtain ⟨i0, hi, hz0, hz1, hz2⟩ := info_parts Lists.Try.info2
  go_upto_region 7 with fail
  go_loopw [8, 6] (fun c v wr => ∃ (k : Nat) (la : Option Addr) (lc : Nat), k ≤ n ∧ c = .int .i64 k ∧ v = (.slice la (lts R J now (nw now tn) k).length lc) ∧ Hid (KB (fun b => b = w.heap.size + 2 ∨ H0 ≤ b) w4 wr ∧ World.ownsRow wr (w.heap.size + 2) 2 1 (.slice la (lts R J now (nw now tn) k).length lc) (lts R J now (nw now tn) k).length (ints (lts R J now (nw now tn) k)) ∧ (∀ g, Value.ownBlock (.slice la (lts R J now (nw now tn) k).length lc) = some g → g = w.heap.size + 2 ∨ H0 ≤ g))) (fun c _ _ => n - (intOf c).toNat)
  case atStart => exact ⟨0, some ⟨w.heap.size + 2, 0, none⟩, 0, Nat.zero_le _, rfl, rfl, S4⟩
  case round =>
    clear S4
    obtain ⟨k, la, lc, hk, rfl, rfl, S⟩ := hrel
    obtain ⟨BW, XW, AW⟩ := BK.out wr S.out.1
    have a0 : wr.cell? ⟨w.heap.size, 0, none⟩ = some (.slice (some ⟨br, or, none⟩) n cr) := (AW.box.cell 0).trans rfl
    have a2 : wr.cell? ⟨w.heap.size, 2, none⟩ = some (.int .i64 now) := (AW.box.cell 2).trans rfl
    have a3 : wr.cell? ⟨w.heap.size, 3, none⟩ = some (.slice (some ⟨vb, vo, none⟩) n cj) := (AW.box.cell 3).trans rfl
    obtain ⟨⟨c0, c1, c2, c3⟩, ⟨z0, z1, z2, z3⟩, ⟨f0, f1, f2, f3⟩⟩ := XW.s
    by_cases hlt : k < n
    · have hkR : k < R.length := by rw [HN.out]; exact hlt
      have hkJ : k < J.length := by rw [HJ.out]; exact hlt
      obtain ⟨q1, q2, q3, u, q0, qr⟩ := KR.out wr BW k hkR
      obtain ⟨ua, uc, hu⟩ := qr.form
      subst hu
      clear qr
      generalize (Tk.cl R k).length = ul at q0
      obtain ⟨j0, _⟩ := KJ.out wr BW k hkJ
      have j0' : wr.cell? ⟨vb, vo + k * 2, none⟩ = some (.int .i64 (hw J k)) := j0
      have i0' : (0 : Int) ≤ (k : Int) := by omega
      have i1 : (k : Int) < (n : Int) := by omega
      have hl := lts_len R J now (nw now tn) k
      have nl := XW.box.lt
      have al := AW.box.lt
      have vl := Nat.lt_of_lt_of_le vlt BW.size
      have rl := Nat.lt_of_lt_of_le rlt BW.size
      have d1 : ¬ nb = wr.heap.size := by omega
      have d2 : ¬ w.heap.size = wr.heap.size := by omega
      have d3 : ¬ vb = wr.heap.size := by omega
      have d4 : ¬ br = wr.heap.size := by omega
      have SQ : Hid (KB (fun b => b = w.heap.size + 2 ∨ H0 ≤ b) w4 (wr.alloc (.cells #[.slice ua ul uc, .int .i64 (Tk.cz R k 1), .int .i64 (Tk.cz R k 2), .int .i64 (Tk.cz R k 3)] 50)) ∧ World.ownsRow (wr.alloc (.cells #[.slice ua ul uc, .int .i64 (Tk.cz R k 1), .int .i64 (Tk.cz R k 2), .int .i64 (Tk.cz R k 3)] 50)) (w.heap.size + 2) 2 1 (.slice la (lts R J now (nw now tn) k).length lc) (lts R J now (nw now tn) k).length (ints (lts R J now (nw now tn) k)) ∧ (∀ g, Value.ownBlock (.slice la (lts R J now (nw now tn) k).length lc) = some g → g = w.heap.size + 2 ∨ H0 ≤ g)) := (by
        obtain ⟨s1, s2, s3⟩ := S.out
        have bA : Below wr.heap.size wr (wr.alloc (.cells #[.slice ua ul uc, .int .i64 (Tk.cz R k 1), .int .i64 (Tk.cz R k 2), .int .i64 (Tk.cz R k 3)] 50)) := (Below.refl _ _).alloc (Nat.le_refl _) _
        exact ⟨s1.trans (KB.of_below bA), Tk1.row_on s2 bA, s3⟩)
      clear z0 z1 z2 z3 f0 f1 f2 f3 S c0 c1 c3 XW AW j0
      cases hin : isL R J now (nw now tn) k
      · have HL : Hid (lts R J now (nw now tn) (k + 1) = lts R J now (nw now tn) k) := lts_no hin
        by_cases hd : 0 < Tk.cz R k 2
        · by_cases hs : hw J k = 2
          · have hs2 : (hw J k != 2) = false := by simpa using hs
            clear hs hin
            go_wp2_with fail
            go_roundw
            case rel => exact ⟨k + 1, la, lc, by omega, by go_num, by rw [HL.out], by rw [HL.out]; exact SQ⟩
            case measure => simp [intOf]; omega
          · have hs2 : (hw J k != 2) = true := by simpa using hs
            by_cases hg : now ≤ Tk.cz R k 2
            · have hg2 : ¬ Tk.cz R k 2 < nw now tn := fun hc => by
                rw [isL, inn_eq, decide_eq_true hd, hs2, decide_eq_true hg, decide_eq_true (show Tk.cz R k 2 ≤ nw now tn - 1 by omega)] at hin
                simp at hin
              clear hs hin
              go_wp2_with fail
              go_roundw
              case rel => exact ⟨k + 1, la, lc, by omega, by go_num, by rw [HL.out], by rw [HL.out]; exact SQ⟩
              case measure => simp [intOf]; omega
            · clear hs hin
              go_wp2_with fail
              go_roundw
              case rel => exact ⟨k + 1, la, lc, by omega, by go_num, by rw [HL.out], by rw [HL.out]; exact SQ⟩
              case measure => simp [intOf]; omega
        · clear hin
          go_wp2_with fail
          go_roundw
          case rel => exact ⟨k + 1, la, lc, by omega, by go_num, by rw [HL.out], by rw [HL.out]; exact SQ⟩
          case measure => simp [intOf]; omega
      · have HL : Hid (lts R J now (nw now tn) (k + 1) = lts R J now (nw now tn) k ++ [(k : Int) + 1]) := lts_yes hin
        rw [isL, inn_eq, Bool.and_eq_true, Bool.and_eq_true, Bool.and_eq_true, decide_eq_true_eq, decide_eq_true_eq, decide_eq_true_eq] at hin
        obtain ⟨⟨hd, hs2⟩, hg, hg3⟩ := hin
        have hg2 : Tk.cz R k 2 < nw now tn := by omega
        clear hg3
        have ek2 : IntKind.i64.wrap ((k : Int) + 1) = (k : Int) + 1 := IntWalk.i64_in _ (by omega)
        go_upto_region 11 with fail
        generalize (wr.alloc (.cells #[.slice ua ul uc, .int .i64 (Tk.cz R k 1), .int .i64 (Tk.cz R k 2), .int .i64 (Tk.cz R k 3)] 50)) = wq at SQ ⊢
        clear a0 a2 a3 q0 q1 q2 q3 j0' c2 d1 d2 d3 d4 nl al vl rl hd hs2 hg hg2
        have OA : Hid ((wq.alloc (.cells #[.int .i64 ((k : Int) + 1)] 2)).ownsRow (w.heap.size + 2) 2 1 (.slice la (lts R J now (nw now tn) k).length lc) (lts R J now (nw now tn) k).length (ints (lts R J now (nw now tn) k))) := SQ.out.2.1.alloc _
        have ZA : Hid (w.heap.size + 2 ≤ (wq.alloc (.cells #[.int .i64 ((k : Int) + 1)] 2)).heap.size ∧ H0 ≤ wq.heap.size) := (by have := SQ.out.1.size; have := Z4.out; have := NBH.out; exact ⟨by simp; omega, by omega⟩)
        obtain ⟨len, hlen⟩ : ∃ y, (lts R J now (nw now tn) k).length = y := ⟨_, rfl⟩
        rw [hlen] at hl
        have HLN : Hid ((lts R J now (nw now tn) k).length = len) := hlen
        simp only [hlen] at OA SQ ⊢
        clear hlen
        go_wp2_with (at_builtin; refine wpList_append_own_at _ rfl _ _ 25 rfl (w.heap.size + 2) 2 i0 (.int .i64 0) 1 8 Try.underlying25 hi hz0 hz1 hz2 rfl (by decide) _ _ _ rfl OA.out ⟨wq.heap.size, 0, none⟩ 1 1 [.int .i64 ((k : Int) + 1)] rfl rfl ?c1 ?c2 ?c3 ?c4 ZA.out.1 ?_)
        case c1 =>
          intro j u hj
          match j, hj with
          | 0, hj => simp at hj; subst hj; simp [Addr.add]
        case c2 => intro u hu; simp at hu; subst hu; rfl
        case c3 => unfold maxLen; omega
        case c4 => omega
        intro v5 w5 hown hgrow hnil5 hat
        obtain ⟨g5, c5, rfl, p1, p2, p3, p4⟩ := Cp.row_some hown (by first | exact hnil5 | (intro e; have := hnil5.1 e; simp at this))
        have SN : Hid (KB (fun b => b = w.heap.size + 2 ∨ H0 ≤ b) w4 w5 ∧ World.ownsRow w5 (w.heap.size + 2) 2 1 (.slice (some ⟨g5, 0, none⟩) (len + 1) c5) (lts R J now (nw now tn) (k + 1)).length (ints (lts R J now (nw now tn) (k + 1))) ∧ (∀ g, Value.ownBlock (.slice (some ⟨g5, 0, none⟩) (len + 1) c5) = some g → g = w.heap.size + 2 ∨ H0 ≤ g)) := (by
          obtain ⟨s1, s2, s3⟩ := SQ.out
          have bA : Below wq.heap.size wq (wq.alloc (.cells #[.int .i64 ((k : Int) + 1)] 2)) := (Below.refl _ _).alloc (Nat.le_refl _) _
          refine ⟨(s1.trans (KB.of_below bA)).trans (KB.of_grown hgrow (fun b hb => s3 b hb)), ?_, ?_⟩
          · rw [HL.out]
            simpa [ints, HLN.out] using hown
          · intro g hg
            rcases hat with q | q
            · exact s3 g (by rw [← q]; exact hg)
            · have e1 : Value.ownBlock (.slice (some ⟨g5, 0, none⟩) (len + 1) c5) = some g := hg
              rw [q] at e1
              simp at e1
              have := ZA.out.2
              omega)
        have HL2 : Hid ((lts R J now (nw now tn) (k + 1)).length = len + 1) := (by show _ = _; rw [HL.out]; simp [HLN.out])
        clear hown hgrow hnil5 hat p1 p2 p3 p4 SQ OA ZA
        go_wp2_with fail
        go_roundw
        case rel => exact ⟨k + 1, some ⟨g5, 0, none⟩, c5, by omega, by go_num, by rw [HL2.out], by have q := SN; rw [HL2.out] at q ⊢; exact q⟩
        case measure => simp [intOf]; omega
    · have ek : k = n := by omega
      subst ek
      have nne := XW.ne
      have i1 : ¬ (k : Int) < (k : Int) := by omega
      clear a0 a2
      go_wp2_with fail
      have kq := kb4 wr (w.heap.size + 1) (.slice ra k rc) (.slice xa m xc) (.int .i64 (nw now tn)) (.slice (some ⟨jb, 0, none⟩) k jc)
      refine bodyPost_ret (v := .tuple #[rv (.slice ra k rc) (.slice xa m xc) (nw now tn) (.slice (some ⟨jb, 0, none⟩) k jc), (.slice la (lts R J now (nw now tn) k).length lc)]) (by simp [results, Try.results12, go_sem, z0, z1, z2, z3]) rfl ⟨ra, rc, xa, xc, some ⟨jb, 0, none⟩, jc, la, lc, rfl, ?_, ?_, bel4 BW (by omega) _ _ _ _⟩
      · exact (mo_box (mo_kb T4.out S.out.1 (fun b hb => by have := Z4.out; rcases hb with q | q <;> omega)) kq XW.res.ty).down (by omega)
      · have q := row_kb S.out.2.1 kq (fun g hg e => (row_ty S.out.2.1 g hg).ne XW.res.ty (by decide) e)
        exact Lists.reads_row q
end Go.Proofs.Ytfhpomfdkpfooaa.Ty
