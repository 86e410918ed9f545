/- Report: the model. -/
import Derived.Test.YtfhpomfdkpfooaaSc
import Derived.Test.YtfhpomfdkpfooaaMc
import Derived.Test.YtfhpomfdkpfooaaIr
import Derived.Test.YtfhpomfdkpfooaaIc
namespace Go.Proofs.Ytfhpomfdkpfooaa.Ty
open Go.ChangeShapes Go.WideShapes Go.ChangeAt Go.RowKit
open Go.Proofs.Ytfhpomfdkpfooaa.Lists Go.Proofs.Ytfhpomfdkpfooaa.Tm Go.Proofs.Ytfhpomfdkpfooaa.Rk Go.Proofs.Ytfhpomfdkpfooaa.Ru Go.Proofs.Ytfhpomfdkpfooaa.Al

set_option maxHeartbeats 2000000 in
theorem srep_no (R : Tk.Ls) (X : List Int) (now : Int) (J : Jb.Ls) (vr vx vj : Value) (tk : Int) (ok : Bool) (w : World) (hh : RR w vr vx vj R X J) (hk : okR R X now J = false) :
    Calls Try.prog 8 #[rv vr vx now vj, .int .i64 tk, .bool ok] w fun e w' => e = .returned (.tuple #[rv nilS nilS 0 nilS, .bool false]) ∧ Below w.heap.size w w' := by
  obtain ⟨ar, cr, er⟩ := hh.1.form
  obtain ⟨ax, cx, ex⟩ := hh.2.1.form
  obtain ⟨aj, cj, ej⟩ := hh.2.2.form
  obtain ⟨w0, hw0⟩ : ∃ w0, w0 = (w.alloc (.cells #[vr, vx, .int .i64 now, vj] 30)).alloc (.cells #[nilS, nilS, .int .i64 0, nilS] 30) := ⟨_, rfl⟩
  have HW0 : Hid (w0 = (w.alloc (.cells #[vr, vx, .int .i64 now, vj] 30)).alloc (.cells #[nilS, nilS, .int .i64 0, nilS] 30)) := hw0
  have B0 : Hid (Below w.heap.size w w0) := (by show Below _ _ _; rw [hw0]; exact ((Below.refl _ _).alloc (Nat.le_refl _) _).alloc (by simp) _)
  have Y0 : Hid (Hd w0 w.heap.size vr vx now vj) := (by show Hd _ _ _ _ _ _; rw [hw0]; exact Hd.new w vr vx now vj)
  have Z0 : Hid (w0.heap.size = w.heap.size + 2) := (by show _ = _; rw [hw0]; simp)
  have C1 : Hid (∀ W, Below w.heap.size w W → Calls Try.prog 25 #[rv vr vx now vj] W fun e w' => e = .returned (.bool false) ∧ Below W.heap.size W w') := fun W hb => (by rw [← hk]; exact sok_any R X now J vr vx vj W (hh.on hb))
  obtain ⟨y0, y1, y2, y3⟩ := Y0.out.s
  subst er ex ej
  generalize R.length = n at *
  generalize X.length = m at *
  generalize J.length = k at *
  clear hh hw0 hk
  go_enter Try.func8, Try.ntmps8
  go_wp2_with fail
  rw [← HW0.out]
  refine (C1.out w0 B0.out).mono ?_
  rintro e w1 ⟨rfl, hb⟩
  have B1 : Hid (Below w.heap.size w w1) := B0.out.trans (hb.mono B0.out.size)
  have Y1 : Hid (Hd w1 w.heap.size (.slice ar n cr) (.slice ax m cx) now (.slice aj k cj)) := Y0.out.on hb
  clear y0 y1 y2 y3 hb HW0 Y0 C1
  have z0 : w1.cell? ⟨w.heap.size + 1, 0, none⟩ = some nilS := (Y1.out.res.cell 0).trans rfl
  have z1 : w1.cell? ⟨w.heap.size + 1, 1, none⟩ = some nilS := (Y1.out.res.cell 1).trans rfl
  have z2 : w1.cell? ⟨w.heap.size + 1, 2, none⟩ = some (.int .i64 0) := (Y1.out.res.cell 2).trans rfl
  have z3 : w1.cell? ⟨w.heap.size + 1, 3, none⟩ = some nilS := (Y1.out.res.cell 3).trans rfl
  have f0 := Y1.out.res.fz 0
  have f1 := Y1.out.res.fz 1
  have f2 := Y1.out.res.fz 2
  have f3 := Y1.out.res.fz 3
  go_wp2_with fail
  exact bodyPost_ret (v := .tuple #[rv nilS nilS 0 nilS, .bool false]) (by simp [results, Try.results8, go_sem, z0, z1, z2, z3]) rfl ⟨rfl, bel4 B1.out (Nat.le_succ _) _ _ _ _⟩

set_option maxHeartbeats 4000000 in
set_option maxRecDepth 20000 in
theorem srep_out (R : Tk.Ls) (X : List Int) (now : Int) (J : Jb.Ls) (vr vx vj : Value) (tk : Int) (ok : Bool) (w : World) (hh : RR w vr vx vj R X J) (hk : okR R X now J = true) (h4 : ¬ (1 ≤ tk ∧ tk ≤ (J.length : Int))) :
    Calls Try.prog 8 #[rv vr vx now vj, .int .i64 tk, .bool ok] w fun e w' => ∃ ra rc xa xc ja jc, e = .returned (.tuple #[rv (.slice ra R.length rc) (.slice xa X.length xc) now (.slice ja J.length jc), .bool false]) ∧ MO w' w.heap.size (.slice ra R.length rc) (.slice xa X.length xc) (.slice ja J.length jc) R X J ∧ Below w.heap.size w w' := by
  obtain ⟨ar, cr, er⟩ := hh.1.form
  obtain ⟨ax, cx, ex⟩ := hh.2.1.form
  obtain ⟨aj, cj, ej⟩ := hh.2.2.form
  obtain ⟨w0, hw0⟩ : ∃ w0, w0 = (w.alloc (.cells #[vr, vx, .int .i64 now, vj] 30)).alloc (.cells #[nilS, nilS, .int .i64 0, nilS] 30) := ⟨_, rfl⟩
  have HW0 : Hid (w0 = (w.alloc (.cells #[vr, vx, .int .i64 now, vj] 30)).alloc (.cells #[nilS, nilS, .int .i64 0, nilS] 30)) := hw0
  have B0 : Hid (Below w.heap.size w w0) := (by show Below _ _ _; rw [hw0]; exact ((Below.refl _ _).alloc (Nat.le_refl _) _).alloc (by simp) _)
  have Y0 : Hid (Hd w0 w.heap.size vr vx now vj) := (by show Hd _ _ _ _ _ _; rw [hw0]; exact Hd.new w vr vx now vj)
  have Z0 : Hid (w0.heap.size = w.heap.size + 2) := (by show _ = _; rw [hw0]; simp)
  have C1 : Hid (∀ W, Below w.heap.size w W → Calls Try.prog 25 #[rv vr vx now vj] W fun e w' => e = .returned (.bool true) ∧ Below W.heap.size W w') := fun W hb => (by rw [← hk]; exact sok_any R X now J vr vx vj W (hh.on hb))
  have C2 : Hid (∀ W, Below w.heap.size w W → Calls Try.prog 26 #[rv vr vx now vj] W fun e w' => ∃ ra rc xa xc jb jc, e = .returned (rv (.slice ra R.length rc) (.slice xa X.length xc) now (.slice (some ⟨jb, 0, none⟩) J.length jc)) ∧ MO w' W.heap.size (.slice ra R.length rc) (.slice xa X.length xc) (.slice (some ⟨jb, 0, none⟩) J.length jc) R X J ∧ Below W.heap.size W w') := fun W hb => copy_any R X now J vr vx vj W (hh.on hb) hk
  obtain ⟨y0, y1, y2, y3⟩ := Y0.out.s
  obtain ⟨o1, o2, o3⟩ := okR_parts hk
  have F := fit_of o1
  have HF : Hid (Fit R X) := F
  have n60 := F.r60
  have n1 := F.r1
  have HR : Hid (RR w vr vx vj R X J) := hh
  have JB : Hid (∀ i, i < J.length → 0 ≤ tr J i ∧ tr J i ≤ 5) := fun i hi => jok_bd hk i hi
  have now0 : 0 ≤ now ∧ now ≤ 1000000000000 := by have h2 := o2; rw [inn_eq, Bool.and_eq_true, decide_eq_true_eq, decide_eq_true_eq] at h2; exact h2
  subst er ex ej
  obtain ⟨n, hn⟩ : ∃ n, R.length = n := ⟨_, rfl⟩
  obtain ⟨m, hm⟩ : ∃ m, X.length = m := ⟨_, rfl⟩
  have HN : Hid (R.length = n) := hn
  have HM : Hid (X.length = m) := hm
  have HJ : Hid (J.length = n) := o3.trans hn
  simp only [o3, hn, hm] at y0 y1 y2 y3 HW0 Y0 n60 n1 C1 C2 HR JB h4 ⊢
  clear hh hw0 hk o1 o2 o3 hn hm F
  go_enter Try.func8, Try.ntmps8
  go_wp2_with fail
  rw [← HW0.out]
  refine (C1.out w0 B0.out).mono ?_
  rintro e w1 ⟨rfl, b⟩
  have B1 : Hid (Below w.heap.size w w1) := B0.out.trans (b.mono B0.out.size)
  have Y1 : Hid (Hd w1 w.heap.size (.slice ar n cr) (.slice ax m cx) now (.slice aj n cj)) := Y0.out.on b
  clear y0 y1 y2 y3 b HW0 Y0
  obtain ⟨y0, y1, y2, y3⟩ := Y1.out.s
  go_wp2_with fail
  refine (C2.out w1 B1.out).mono ?_
  rintro e w2 ⟨ra, rc, xa, xc, jb, jc, rfl, t2, b2⟩
  have B2 : Below w.heap.size w w2 := B1.out.trans (b2.mono B1.out.size)
  have Y2 := Y1.out.on b2
  have l1 : w.heap.size + 2 ≤ w1.heap.size := (by have := Y1.out.res.lt; omega)
  obtain ⟨w3, hw3⟩ : ∃ y, y = w2.alloc (.cells #[.slice ra n rc, .slice xa m xc, .int .i64 now, .slice (some ⟨jb, 0, none⟩) n jc] 30) := ⟨_, rfl⟩
  have HW3 : Hid (w3 = w2.alloc (.cells #[.slice ra n rc, .slice xa m xc, .int .i64 now, .slice (some ⟨jb, 0, none⟩) n jc] 30)) := hw3
  obtain ⟨nb, hnb⟩ : ∃ nb, nb = w2.heap.size := ⟨_, rfl⟩
  have HNB : Hid (nb = w2.heap.size) := hnb
  have bA : Below w2.heap.size w2 w3 := by rw [hw3]; exact (Below.refl _ _).alloc (Nat.le_refl _) _
  have B3 : Hid (Below w.heap.size w w3) := B2.trans (bA.mono B2.size)
  have X3 : Hid (Bx w3 (w.heap.size + 1) nb (.slice ra n rc) (.slice xa m xc) now (.slice (some ⟨jb, 0, none⟩) n jc)) := ⟨by rw [hw3, hnb]; exact Bl.new w2 30 _, (Y2.on bA).res, by have := Y2.res.lt; omega⟩
  have A3 : Hid (Bl w3 w.heap.size 30 #[.slice ar n cr, .slice ax m cx, .int .i64 now, .slice aj n cj]) := (Y2.on bA).arg
  have T3 : Hid (MO w3 (w.heap.size + 2) (.slice ra n rc) (.slice xa m xc) (.slice (some ⟨jb, 0, none⟩) n jc) R X J) := (t2.on bA).down l1
  clear hw3 hnb bA Y2 t2 b2 y0 y1 y2 y3 C1 C2 B0 B1 Y1 B2 l1
  go_upto_region 4 with fail
  rw [← HW3.out, ← HNB.out]
  clear HW3 HNB
  have IN : Hid (∀ w, Calls Try.prog 27 #[.int .i64 tk, .int .i64 1, .int .i64 (n : Int)] w fun e w' => e = .returned (.bool (decide (1 ≤ tk) && decide (tk ≤ (n : Int)))) ∧ w' = w) := fun w => Lists.sin_any tk 1 n w
  have a3 : w3.cell? ⟨w.heap.size, 3, none⟩ = some (.slice aj n cj) := (A3.out.cell 3).trans rfl
  have a2 : w3.cell? ⟨w.heap.size, 2, none⟩ = some (.int .i64 now) := (A3.out.cell 2).trans rfl
  have hb : (decide (1 ≤ tk) && decide (tk ≤ (n : Int))) = false := by rw [Bool.and_eq_false_iff, decide_eq_false_iff_not, decide_eq_false_iff_not]; omega
  rw [hb] at IN
  clear hb
  go_wp2_with fail
  refine (IN.out _).mono ?_
  rintro e w4 ⟨rfl, hw4⟩
  subst w4
  obtain ⟨⟨c0, c1, c2, c3⟩, ⟨z0, z1, z2, z3⟩, ⟨f0, f1, f2, f3⟩⟩ := X3.out.s
  have nne := X3.out.ne
  go_wp2_with fail
  refine bodyPost_ret (v := .tuple #[rv (.slice ra n rc) (.slice xa m xc) now (.slice (some ⟨jb, 0, none⟩) n jc), .bool false]) (by simp [results, Try.results8, go_sem, z0, z1, z2, z3]) rfl ⟨ra, rc, xa, xc, some ⟨jb, 0, none⟩, jc, rfl, ?_, bel4 B3.out (by omega) _ _ _ _⟩
  exact (mo_box T3.out (kb4 w3 (w.heap.size + 1) (.slice ra n rc) (.slice xa m xc) (.int .i64 now) (.slice (some ⟨jb, 0, none⟩) n jc)) X3.out.res.ty).down (by omega)

set_option maxHeartbeats 4000000 in
set_option maxRecDepth 20000 in
theorem srep_not (R : Tk.Ls) (X : List Int) (now : Int) (J : Jb.Ls) (vr vx vj : Value) (i : Nat) (ok : Bool) (w : World) (hh : RR w vr vx vj R X J) (hk : okR R X now J = true) (h4 : i < J.length) (h5 : ¬ hw J i = 1) :
    Calls Try.prog 8 #[rv vr vx now vj, .int .i64 ((i : Int) + 1), .bool ok] w fun e w' => ∃ ra rc xa xc ja jc, e = .returned (.tuple #[rv (.slice ra R.length rc) (.slice xa X.length xc) now (.slice ja J.length jc), .bool false]) ∧ MO w' w.heap.size (.slice ra R.length rc) (.slice xa X.length xc) (.slice ja J.length jc) R X J ∧ Below w.heap.size w w' := by
  obtain ⟨ar, cr, er⟩ := hh.1.form
  obtain ⟨ax, cx, ex⟩ := hh.2.1.form
  obtain ⟨aj, cj, ej⟩ := hh.2.2.form
  obtain ⟨w0, hw0⟩ : ∃ w0, w0 = (w.alloc (.cells #[vr, vx, .int .i64 now, vj] 30)).alloc (.cells #[nilS, nilS, .int .i64 0, nilS] 30) := ⟨_, rfl⟩
  have HW0 : Hid (w0 = (w.alloc (.cells #[vr, vx, .int .i64 now, vj] 30)).alloc (.cells #[nilS, nilS, .int .i64 0, nilS] 30)) := hw0
  have B0 : Hid (Below w.heap.size w w0) := (by show Below _ _ _; rw [hw0]; exact ((Below.refl _ _).alloc (Nat.le_refl _) _).alloc (by simp) _)
  have Y0 : Hid (Hd w0 w.heap.size vr vx now vj) := (by show Hd _ _ _ _ _ _; rw [hw0]; exact Hd.new w vr vx now vj)
  have Z0 : Hid (w0.heap.size = w.heap.size + 2) := (by show _ = _; rw [hw0]; simp)
  have C1 : Hid (∀ W, Below w.heap.size w W → Calls Try.prog 25 #[rv vr vx now vj] W fun e w' => e = .returned (.bool true) ∧ Below W.heap.size W w') := fun W hb => (by rw [← hk]; exact sok_any R X now J vr vx vj W (hh.on hb))
  have C2 : Hid (∀ W, Below w.heap.size w W → Calls Try.prog 26 #[rv vr vx now vj] W fun e w' => ∃ ra rc xa xc jb jc, e = .returned (rv (.slice ra R.length rc) (.slice xa X.length xc) now (.slice (some ⟨jb, 0, none⟩) J.length jc)) ∧ MO w' W.heap.size (.slice ra R.length rc) (.slice xa X.length xc) (.slice (some ⟨jb, 0, none⟩) J.length jc) R X J ∧ Below W.heap.size W w') := fun W hb => copy_any R X now J vr vx vj W (hh.on hb) hk
  obtain ⟨y0, y1, y2, y3⟩ := Y0.out.s
  obtain ⟨o1, o2, o3⟩ := okR_parts hk
  have F := fit_of o1
  have HF : Hid (Fit R X) := F
  have n60 := F.r60
  have n1 := F.r1
  have HR : Hid (RR w vr vx vj R X J) := hh
  have JB : Hid (∀ i, i < J.length → 0 ≤ tr J i ∧ tr J i ≤ 5) := fun i hi => jok_bd hk i hi
  have now0 : 0 ≤ now ∧ now ≤ 1000000000000 := by have h2 := o2; rw [inn_eq, Bool.and_eq_true, decide_eq_true_eq, decide_eq_true_eq] at h2; exact h2
  subst er ex ej
  obtain ⟨n, hn⟩ : ∃ n, R.length = n := ⟨_, rfl⟩
  obtain ⟨m, hm⟩ : ∃ m, X.length = m := ⟨_, rfl⟩
  have HN : Hid (R.length = n) := hn
  have HM : Hid (X.length = m) := hm
  have HJ : Hid (J.length = n) := o3.trans hn
  simp only [o3, hn, hm] at y0 y1 y2 y3 HW0 Y0 n60 n1 C1 C2 HR JB h4 ⊢
  clear hh hw0 hk o1 o2 o3 hn hm F
  go_enter Try.func8, Try.ntmps8
  go_wp2_with fail
  rw [← HW0.out]
  refine (C1.out w0 B0.out).mono ?_
  rintro e w1 ⟨rfl, b⟩
  have B1 : Hid (Below w.heap.size w w1) := B0.out.trans (b.mono B0.out.size)
  have Y1 : Hid (Hd w1 w.heap.size (.slice ar n cr) (.slice ax m cx) now (.slice aj n cj)) := Y0.out.on b
  clear y0 y1 y2 y3 b HW0 Y0
  obtain ⟨y0, y1, y2, y3⟩ := Y1.out.s
  go_wp2_with fail
  refine (C2.out w1 B1.out).mono ?_
  rintro e w2 ⟨ra, rc, xa, xc, jb, jc, rfl, t2, b2⟩
  have B2 : Below w.heap.size w w2 := B1.out.trans (b2.mono B1.out.size)
  have Y2 := Y1.out.on b2
  have l1 : w.heap.size + 2 ≤ w1.heap.size := (by have := Y1.out.res.lt; omega)
  obtain ⟨w3, hw3⟩ : ∃ y, y = w2.alloc (.cells #[.slice ra n rc, .slice xa m xc, .int .i64 now, .slice (some ⟨jb, 0, none⟩) n jc] 30) := ⟨_, rfl⟩
  have HW3 : Hid (w3 = w2.alloc (.cells #[.slice ra n rc, .slice xa m xc, .int .i64 now, .slice (some ⟨jb, 0, none⟩) n jc] 30)) := hw3
  obtain ⟨nb, hnb⟩ : ∃ nb, nb = w2.heap.size := ⟨_, rfl⟩
  have HNB : Hid (nb = w2.heap.size) := hnb
  have bA : Below w2.heap.size w2 w3 := by rw [hw3]; exact (Below.refl _ _).alloc (Nat.le_refl _) _
  have B3 : Hid (Below w.heap.size w w3) := B2.trans (bA.mono B2.size)
  have X3 : Hid (Bx w3 (w.heap.size + 1) nb (.slice ra n rc) (.slice xa m xc) now (.slice (some ⟨jb, 0, none⟩) n jc)) := ⟨by rw [hw3, hnb]; exact Bl.new w2 30 _, (Y2.on bA).res, by have := Y2.res.lt; omega⟩
  have A3 : Hid (Bl w3 w.heap.size 30 #[.slice ar n cr, .slice ax m cx, .int .i64 now, .slice aj n cj]) := (Y2.on bA).arg
  have T3 : Hid (MO w3 (w.heap.size + 2) (.slice ra n rc) (.slice xa m xc) (.slice (some ⟨jb, 0, none⟩) n jc) R X J) := (t2.on bA).down l1
  clear hw3 hnb bA Y2 t2 b2 y0 y1 y2 y3 C1 C2 B0 B1 Y1 B2 l1
  go_upto_region 4 with fail
  rw [← HW3.out, ← HNB.out]
  clear HW3 HNB
  have IN : Hid (∀ w, Calls Try.prog 27 #[.int .i64 ((i : Int) + 1), .int .i64 1, .int .i64 (n : Int)] w fun e w' => e = .returned (.bool (decide (1 ≤ (i : Int) + 1) && decide ((i : Int) + 1 ≤ (n : Int)))) ∧ w' = w) := fun w => Lists.sin_any ((i : Int) + 1) 1 n w
  have a3 : w3.cell? ⟨w.heap.size, 3, none⟩ = some (.slice aj n cj) := (A3.out.cell 3).trans rfl
  have a2 : w3.cell? ⟨w.heap.size, 2, none⟩ = some (.int .i64 now) := (A3.out.cell 2).trans rfl
  have hin : i < n := h4
  have hb : (decide (1 ≤ (i : Int) + 1) && decide ((i : Int) + 1 ≤ (n : Int))) = true := by rw [Bool.and_eq_true, decide_eq_true_eq, decide_eq_true_eq]; omega
  rw [hb] at IN
  have hkR : i < R.length := by rw [HN.out]; exact hin
  have hkJ : i < J.length := by rw [HJ.out]; exact hin
  obtain ⟨vb, vo, KJ, hv⟩ := jobs_at HR.out.2.2
  obtain ⟨vlt, vcap, hve⟩ := hv (by rw [HJ.out]; omega)
  rw [HJ.out] at hve
  simp at hve
  obtain ⟨hve1, hve2⟩ := hve
  subst hve1
  obtain ⟨j0, j1⟩ := KJ w3 B3.out i hkJ
  have j0' : w3.cell? ⟨vb, vo + i * 2, none⟩ = some (.int .i64 (hw J i)) := j0
  have i0 : (0 : Int) ≤ (i : Int) := by omega
  have i1 : (i : Int) < (n : Int) := by omega
  have ib : (i : Int) ≤ 60 := by omega
  have wi : IntKind.i64.wrap (i : Int) = (i : Int) := IntWalk.i64_in _ (by omega)
  clear hb h4 KJ hv hve2 j0 j1
  have hs2 : (hw J i != 1) = true := by simpa using h5
  go_wp2_with fail
  refine (IN.out _).mono ?_
  rintro e w4 ⟨rfl, hw4⟩
  subst w4
  obtain ⟨⟨c0, c1, c2, c3⟩, ⟨z0, z1, z2, z3⟩, ⟨f0, f1, f2, f3⟩⟩ := X3.out.s
  have nne := X3.out.ne
  go_wp2_with fail
  refine bodyPost_ret (v := .tuple #[rv (.slice ra n rc) (.slice xa m xc) now (.slice (some ⟨jb, 0, none⟩) n jc), .bool false]) (by simp [results, Try.results8, go_sem, z0, z1, z2, z3]) rfl ⟨ra, rc, xa, xc, some ⟨jb, 0, none⟩, jc, rfl, ?_, bel4 B3.out (by omega) _ _ _ _⟩
  exact (mo_box T3.out (kb4 w3 (w.heap.size + 1) (.slice ra n rc) (.slice xa m xc) (.int .i64 now) (.slice (some ⟨jb, 0, none⟩) n jc)) X3.out.res.ty).down (by omega)

set_option maxHeartbeats 4000000 in
set_option maxRecDepth 20000 in
theorem srep_ok (R : Tk.Ls) (X : List Int) (now : Int) (J : Jb.Ls) (vr vx vj : Value) (i : Nat) (w : World) (hh : RR w vr vx vj R X J) (hk : okR R X now J = true) (h4 : i < J.length) (h5 : hw J i = 1) :
    Calls Try.prog 8 #[rv vr vx now vj, .int .i64 ((i : Int) + 1), .bool true] w fun e w' => ∃ ra rc xa xc ja jc, e = .returned (.tuple #[rv (.slice ra R.length rc) (.slice xa X.length xc) now (.slice ja J.length jc), .bool true]) ∧ MO w' w.heap.size (.slice ra R.length rc) (.slice xa X.length xc) (.slice ja J.length jc) R X (js J i 2 (tr J i)) ∧ Below w.heap.size w w' := by
  obtain ⟨ar, cr, er⟩ := hh.1.form
  obtain ⟨ax, cx, ex⟩ := hh.2.1.form
  obtain ⟨aj, cj, ej⟩ := hh.2.2.form
  obtain ⟨w0, hw0⟩ : ∃ w0, w0 = (w.alloc (.cells #[vr, vx, .int .i64 now, vj] 30)).alloc (.cells #[nilS, nilS, .int .i64 0, nilS] 30) := ⟨_, rfl⟩
  have HW0 : Hid (w0 = (w.alloc (.cells #[vr, vx, .int .i64 now, vj] 30)).alloc (.cells #[nilS, nilS, .int .i64 0, nilS] 30)) := hw0
  have B0 : Hid (Below w.heap.size w w0) := (by show Below _ _ _; rw [hw0]; exact ((Below.refl _ _).alloc (Nat.le_refl _) _).alloc (by simp) _)
  have Y0 : Hid (Hd w0 w.heap.size vr vx now vj) := (by show Hd _ _ _ _ _ _; rw [hw0]; exact Hd.new w vr vx now vj)
  have Z0 : Hid (w0.heap.size = w.heap.size + 2) := (by show _ = _; rw [hw0]; simp)
  have C1 : Hid (∀ W, Below w.heap.size w W → Calls Try.prog 25 #[rv vr vx now vj] W fun e w' => e = .returned (.bool true) ∧ Below W.heap.size W w') := fun W hb => (by rw [← hk]; exact sok_any R X now J vr vx vj W (hh.on hb))
  have C2 : Hid (∀ W, Below w.heap.size w W → Calls Try.prog 26 #[rv vr vx now vj] W fun e w' => ∃ ra rc xa xc jb jc, e = .returned (rv (.slice ra R.length rc) (.slice xa X.length xc) now (.slice (some ⟨jb, 0, none⟩) J.length jc)) ∧ MO w' W.heap.size (.slice ra R.length rc) (.slice xa X.length xc) (.slice (some ⟨jb, 0, none⟩) J.length jc) R X J ∧ Below W.heap.size W w') := fun W hb => copy_any R X now J vr vx vj W (hh.on hb) hk
  obtain ⟨y0, y1, y2, y3⟩ := Y0.out.s
  obtain ⟨o1, o2, o3⟩ := okR_parts hk
  have F := fit_of o1
  have HF : Hid (Fit R X) := F
  have n60 := F.r60
  have n1 := F.r1
  have HR : Hid (RR w vr vx vj R X J) := hh
  have JB : Hid (∀ i, i < J.length → 0 ≤ tr J i ∧ tr J i ≤ 5) := fun i hi => jok_bd hk i hi
  have now0 : 0 ≤ now ∧ now ≤ 1000000000000 := by have h2 := o2; rw [inn_eq, Bool.and_eq_true, decide_eq_true_eq, decide_eq_true_eq] at h2; exact h2
  subst er ex ej
  obtain ⟨n, hn⟩ : ∃ n, R.length = n := ⟨_, rfl⟩
  obtain ⟨m, hm⟩ : ∃ m, X.length = m := ⟨_, rfl⟩
  have HN : Hid (R.length = n) := hn
  have HM : Hid (X.length = m) := hm
  have HJ : Hid (J.length = n) := o3.trans hn
  simp only [o3, hn, hm] at y0 y1 y2 y3 HW0 Y0 n60 n1 C1 C2 HR JB h4 ⊢
  clear hh hw0 hk o1 o2 o3 hn hm F
  go_enter Try.func8, Try.ntmps8
  go_wp2_with fail
  rw [← HW0.out]
  refine (C1.out w0 B0.out).mono ?_
  rintro e w1 ⟨rfl, b⟩
  have B1 : Hid (Below w.heap.size w w1) := B0.out.trans (b.mono B0.out.size)
  have Y1 : Hid (Hd w1 w.heap.size (.slice ar n cr) (.slice ax m cx) now (.slice aj n cj)) := Y0.out.on b
  clear y0 y1 y2 y3 b HW0 Y0
  obtain ⟨y0, y1, y2, y3⟩ := Y1.out.s
  go_wp2_with fail
  refine (C2.out w1 B1.out).mono ?_
  rintro e w2 ⟨ra, rc, xa, xc, jb, jc, rfl, t2, b2⟩
  have B2 : Below w.heap.size w w2 := B1.out.trans (b2.mono B1.out.size)
  have Y2 := Y1.out.on b2
  have l1 : w.heap.size + 2 ≤ w1.heap.size := (by have := Y1.out.res.lt; omega)
  obtain ⟨w3, hw3⟩ : ∃ y, y = w2.alloc (.cells #[.slice ra n rc, .slice xa m xc, .int .i64 now, .slice (some ⟨jb, 0, none⟩) n jc] 30) := ⟨_, rfl⟩
  have HW3 : Hid (w3 = w2.alloc (.cells #[.slice ra n rc, .slice xa m xc, .int .i64 now, .slice (some ⟨jb, 0, none⟩) n jc] 30)) := hw3
  obtain ⟨nb, hnb⟩ : ∃ nb, nb = w2.heap.size := ⟨_, rfl⟩
  have HNB : Hid (nb = w2.heap.size) := hnb
  have bA : Below w2.heap.size w2 w3 := by rw [hw3]; exact (Below.refl _ _).alloc (Nat.le_refl _) _
  have B3 : Hid (Below w.heap.size w w3) := B2.trans (bA.mono B2.size)
  have X3 : Hid (Bx w3 (w.heap.size + 1) nb (.slice ra n rc) (.slice xa m xc) now (.slice (some ⟨jb, 0, none⟩) n jc)) := ⟨by rw [hw3, hnb]; exact Bl.new w2 30 _, (Y2.on bA).res, by have := Y2.res.lt; omega⟩
  have A3 : Hid (Bl w3 w.heap.size 30 #[.slice ar n cr, .slice ax m cx, .int .i64 now, .slice aj n cj]) := (Y2.on bA).arg
  have T3 : Hid (MO w3 (w.heap.size + 2) (.slice ra n rc) (.slice xa m xc) (.slice (some ⟨jb, 0, none⟩) n jc) R X J) := (t2.on bA).down l1
  clear hw3 hnb bA Y2 t2 b2 y0 y1 y2 y3 C1 C2 B0 B1 Y1 B2 l1
  go_upto_region 4 with fail
  rw [← HW3.out, ← HNB.out]
  clear HW3 HNB
  have IN : Hid (∀ w, Calls Try.prog 27 #[.int .i64 ((i : Int) + 1), .int .i64 1, .int .i64 (n : Int)] w fun e w' => e = .returned (.bool (decide (1 ≤ (i : Int) + 1) && decide ((i : Int) + 1 ≤ (n : Int)))) ∧ w' = w) := fun w => Lists.sin_any ((i : Int) + 1) 1 n w
  have a3 : w3.cell? ⟨w.heap.size, 3, none⟩ = some (.slice aj n cj) := (A3.out.cell 3).trans rfl
  have a2 : w3.cell? ⟨w.heap.size, 2, none⟩ = some (.int .i64 now) := (A3.out.cell 2).trans rfl
  have hin : i < n := h4
  have hb : (decide (1 ≤ (i : Int) + 1) && decide ((i : Int) + 1 ≤ (n : Int))) = true := by rw [Bool.and_eq_true, decide_eq_true_eq, decide_eq_true_eq]; omega
  rw [hb] at IN
  have hkR : i < R.length := by rw [HN.out]; exact hin
  have hkJ : i < J.length := by rw [HJ.out]; exact hin
  obtain ⟨vb, vo, KJ, hv⟩ := jobs_at HR.out.2.2
  obtain ⟨vlt, vcap, hve⟩ := hv (by rw [HJ.out]; omega)
  rw [HJ.out] at hve
  simp at hve
  obtain ⟨hve1, hve2⟩ := hve
  subst hve1
  obtain ⟨j0, j1⟩ := KJ w3 B3.out i hkJ
  have j0' : w3.cell? ⟨vb, vo + i * 2, none⟩ = some (.int .i64 (hw J i)) := j0
  have i0 : (0 : Int) ≤ (i : Int) := by omega
  have i1 : (i : Int) < (n : Int) := by omega
  have ib : (i : Int) ≤ 60 := by omega
  have wi : IntKind.i64.wrap (i : Int) = (i : Int) := IntWalk.i64_in _ (by omega)
  clear hb h4 KJ hv hve2 j0 j1

  have hs2 : (hw J i != 1) = false := by simpa using h5
  have QR := T3.out.2.2
  have QR' : Jb.Row w3 (w.heap.size + 2) (.slice (some ⟨jb, 0, none⟩) J.length jc) J := by rw [HJ.out]; exact QR
  obtain ⟨g0, g1⟩ := jrow_cell QR' i hkJ
  have g0' : w3.cell? ⟨jb, i * 2, none⟩ = some (.int .i64 (hw J i)) := g0
  have g1' : w3.cell? ⟨jb, i * 2 + 1, none⟩ = some (.int .i64 (tr J i)) := g1
  have fz0 := jrow_fz QR' (i * 2)
  have fz1 := jrow_fz QR' (i * 2 + 1)
  have jl := (jrow_ty QR').lt
  have jne : ¬ jb = w3.heap.size := by omega
  obtain ⟨rb, erb⟩ : ∃ rb, ra = some ⟨rb, 0, none⟩ := by
    obtain ⟨zs, hz, _⟩ := T3.out.1
    rcases Tk.row_cases hz with ⟨hz, _⟩ | ⟨g, cap, hg, _⟩
    · rw [HN.out] at hz; omega
    · simp at hg; exact ⟨g, hg.1⟩
  subst erb
  obtain ⟨m3, rbl⟩ : w3.cell? ⟨rb, i * 4 + 3, none⟩ = some (.int .i64 (Tk.cz R i 3)) ∧ rb < w3.heap.size := by
    obtain ⟨zs, hz, hg⟩ := T3.out.1
    obtain ⟨_, _, q3, _⟩ := hg i hkR
    rw [HN.out] at hz
    exact ⟨(hz.cellAt _ (by omega)).trans q3, (row_ty hz rb rfl).lt⟩
  have rne : ¬ rb = w3.heap.size := by omega
  obtain ⟨⟨c0, c1, c2, c3⟩, _, _⟩ := X3.out.s
  have nl := X3.out.box.lt
  have nne2 : ¬ nb = w3.heap.size := by omega
  have njb : ¬ nb = jb := X3.out.box.ty.ne (jrow_ty QR') (by decide)
  rw [h5] at j0' g0'
  clear g0 g1 QR
  have SET : Hid (∀ W, Below w3.heap.size w3 W → MO ((W.setCell ⟨jb, i * 2, none⟩ (.int .i64 2)).setCell ⟨jb, i * 2 + 1, none⟩ (.int .i64 (tr J i))) (w.heap.size + 2) (.slice (some ⟨rb, 0, none⟩) n rc) (.slice xa m xc) (.slice (some ⟨jb, 0, none⟩) n jc) R X (js J i 2 (tr J i)) ∧ Bx ((W.setCell ⟨jb, i * 2, none⟩ (.int .i64 2)).setCell ⟨jb, i * 2 + 1, none⟩ (.int .i64 (tr J i))) (w.heap.size + 1) nb (.slice (some ⟨rb, 0, none⟩) n rc) (.slice xa m xc) now (.slice (some ⟨jb, 0, none⟩) n jc) ∧ Below w.heap.size w ((W.setCell ⟨jb, i * 2, none⟩ (.int .i64 2)).setCell ⟨jb, i * 2 + 1, none⟩ (.int .i64 (tr J i)))) := fun W hb => (by
    have tW := T3.out.on hb
    have xW := X3.out.on hb
    have bW := B3.out.trans (hb.mono B3.out.size)
    have qW : Jb.Row W (w.heap.size + 2) (.slice (some ⟨jb, 0, none⟩) J.length jc) J := QR'.on hb
    obtain ⟨r1, r2⟩ := two_jobs qW i hkJ 2 (tr J i)
    have hlo := (qW.lt jb rfl).1
    have hJ' := HJ.out
    refine ⟨?_, xW.off (e := 34) r2 (jrow_ty qW) (by decide), bW.trans (r2.below bW.size (fun b hb' => by have hb2 : b = jb := hb'; omega))⟩
    rw [← hJ'] at tW ⊢
    exact mo_jobs tW r2 r1)
  go_wp2_with fail
  refine (IN.out _).mono ?_
  rintro e w4 ⟨rfl, hw4⟩
  subst w4
  go_upto_region 13 with fail
  have bq : Below w3.heap.size w3 w3 := Below.refl _ _
  obtain ⟨tS, xS, bS⟩ := SET.out w3 bq
  have bA : Below ((w3.setCell ⟨jb, i * 2, none⟩ (.int .i64 2)).setCell ⟨jb, i * 2 + 1, none⟩ (.int .i64 (tr J i))).heap.size ((w3.setCell ⟨jb, i * 2, none⟩ (.int .i64 2)).setCell ⟨jb, i * 2 + 1, none⟩ (.int .i64 (tr J i))) (((w3.setCell ⟨jb, i * 2, none⟩ (.int .i64 2)).setCell ⟨jb, i * 2 + 1, none⟩ (.int .i64 (tr J i))).alloc (.cells #[.int .i64 2, .int .i64 (tr J i)] 34)) := (Below.refl _ _).alloc (Nat.le_refl _) _
  have T4 : Hid (MO (((w3.setCell ⟨jb, i * 2, none⟩ (.int .i64 2)).setCell ⟨jb, i * 2 + 1, none⟩ (.int .i64 (tr J i))).alloc (.cells #[.int .i64 2, .int .i64 (tr J i)] 34)) (w.heap.size + 2) (.slice (some ⟨rb, 0, none⟩) n rc) (.slice xa m xc) (.slice (some ⟨jb, 0, none⟩) n jc) R X (js J i 2 (tr J i))) := tS.on bA
  have X4 : Hid (Bx (((w3.setCell ⟨jb, i * 2, none⟩ (.int .i64 2)).setCell ⟨jb, i * 2 + 1, none⟩ (.int .i64 (tr J i))).alloc (.cells #[.int .i64 2, .int .i64 (tr J i)] 34)) (w.heap.size + 1) nb (.slice (some ⟨rb, 0, none⟩) n rc) (.slice xa m xc) now (.slice (some ⟨jb, 0, none⟩) n jc)) := xS.on bA
  have B4 : Hid (Below w.heap.size w (((w3.setCell ⟨jb, i * 2, none⟩ (.int .i64 2)).setCell ⟨jb, i * 2 + 1, none⟩ (.int .i64 (tr J i))).alloc (.cells #[.int .i64 2, .int .i64 (tr J i)] 34))) := bS.trans (bA.mono bS.size)
  clear tS xS bS bA bq SET
  generalize (((w3.setCell ⟨jb, i * 2, none⟩ (.int .i64 2)).setCell ⟨jb, i * 2 + 1, none⟩ (.int .i64 (tr J i))).alloc (.cells #[.int .i64 2, .int .i64 (tr J i)] 34)) = w5 at T4 X4 B4 ⊢
  clear c0 c1 c2 c3 g0' g1' fz0 fz1 m3 j0' a2 a3
  obtain ⟨⟨c0, c1, c2, c3⟩, ⟨z0, z1, z2, z3⟩, ⟨f0, f1, f2, f3⟩⟩ := X4.out.s
  have nne := X4.out.ne
  go_wp2_with fail
  refine bodyPost_ret (v := .tuple #[rv (.slice (some ⟨rb, 0, none⟩) n rc) (.slice xa m xc) now (.slice (some ⟨jb, 0, none⟩) n jc), .bool true]) (by simp [results, Try.results8, go_sem, z0, z1, z2, z3]) rfl ⟨some ⟨rb, 0, none⟩, rc, xa, xc, some ⟨jb, 0, none⟩, jc, rfl, ?_, bel4 B4.out (by omega) _ _ _ _⟩
  exact (mo_box T4.out (kb4 w5 (w.heap.size + 1) (.slice (some ⟨rb, 0, none⟩) n rc) (.slice xa m xc) (.int .i64 now) (.slice (some ⟨jb, 0, none⟩) n jc)) X4.out.res.ty).down (by omega)

set_option maxHeartbeats 4000000 in
set_option maxRecDepth 20000 in
theorem srep_lost (R : Tk.Ls) (X : List Int) (now : Int) (J : Jb.Ls) (vr vx vj : Value) (i : Nat) (w : World) (hh : RR w vr vx vj R X J) (hk : okR R X now J = true) (h4 : i < J.length) (h5 : hw J i = 1) (h6 : tr J i = Tk.cz R i 3) :
    Calls Try.prog 8 #[rv vr vx now vj, .int .i64 ((i : Int) + 1), .bool false] w fun e w' => ∃ ra rc xa xc ja jc, e = .returned (.tuple #[rv (.slice ra R.length rc) (.slice xa X.length xc) now (.slice ja J.length jc), .bool true]) ∧ MO w' w.heap.size (.slice ra R.length rc) (.slice xa X.length xc) (.slice ja J.length jc) R X (js J i 3 (tr J i)) ∧ Below w.heap.size w w' := by
  obtain ⟨ar, cr, er⟩ := hh.1.form
  obtain ⟨ax, cx, ex⟩ := hh.2.1.form
  obtain ⟨aj, cj, ej⟩ := hh.2.2.form
  obtain ⟨w0, hw0⟩ : ∃ w0, w0 = (w.alloc (.cells #[vr, vx, .int .i64 now, vj] 30)).alloc (.cells #[nilS, nilS, .int .i64 0, nilS] 30) := ⟨_, rfl⟩
  have HW0 : Hid (w0 = (w.alloc (.cells #[vr, vx, .int .i64 now, vj] 30)).alloc (.cells #[nilS, nilS, .int .i64 0, nilS] 30)) := hw0
  have B0 : Hid (Below w.heap.size w w0) := (by show Below _ _ _; rw [hw0]; exact ((Below.refl _ _).alloc (Nat.le_refl _) _).alloc (by simp) _)
  have Y0 : Hid (Hd w0 w.heap.size vr vx now vj) := (by show Hd _ _ _ _ _ _; rw [hw0]; exact Hd.new w vr vx now vj)
  have Z0 : Hid (w0.heap.size = w.heap.size + 2) := (by show _ = _; rw [hw0]; simp)
  have C1 : Hid (∀ W, Below w.heap.size w W → Calls Try.prog 25 #[rv vr vx now vj] W fun e w' => e = .returned (.bool true) ∧ Below W.heap.size W w') := fun W hb => (by rw [← hk]; exact sok_any R X now J vr vx vj W (hh.on hb))
  have C2 : Hid (∀ W, Below w.heap.size w W → Calls Try.prog 26 #[rv vr vx now vj] W fun e w' => ∃ ra rc xa xc jb jc, e = .returned (rv (.slice ra R.length rc) (.slice xa X.length xc) now (.slice (some ⟨jb, 0, none⟩) J.length jc)) ∧ MO w' W.heap.size (.slice ra R.length rc) (.slice xa X.length xc) (.slice (some ⟨jb, 0, none⟩) J.length jc) R X J ∧ Below W.heap.size W w') := fun W hb => copy_any R X now J vr vx vj W (hh.on hb) hk
  obtain ⟨y0, y1, y2, y3⟩ := Y0.out.s
  obtain ⟨o1, o2, o3⟩ := okR_parts hk
  have F := fit_of o1
  have HF : Hid (Fit R X) := F
  have n60 := F.r60
  have n1 := F.r1
  have HR : Hid (RR w vr vx vj R X J) := hh
  have JB : Hid (∀ i, i < J.length → 0 ≤ tr J i ∧ tr J i ≤ 5) := fun i hi => jok_bd hk i hi
  have now0 : 0 ≤ now ∧ now ≤ 1000000000000 := by have h2 := o2; rw [inn_eq, Bool.and_eq_true, decide_eq_true_eq, decide_eq_true_eq] at h2; exact h2
  subst er ex ej
  obtain ⟨n, hn⟩ : ∃ n, R.length = n := ⟨_, rfl⟩
  obtain ⟨m, hm⟩ : ∃ m, X.length = m := ⟨_, rfl⟩
  have HN : Hid (R.length = n) := hn
  have HM : Hid (X.length = m) := hm
  have HJ : Hid (J.length = n) := o3.trans hn
  simp only [o3, hn, hm] at y0 y1 y2 y3 HW0 Y0 n60 n1 C1 C2 HR JB h4 ⊢
  clear hh hw0 hk o1 o2 o3 hn hm F
  go_enter Try.func8, Try.ntmps8
  go_wp2_with fail
  rw [← HW0.out]
  refine (C1.out w0 B0.out).mono ?_
  rintro e w1 ⟨rfl, b⟩
  have B1 : Hid (Below w.heap.size w w1) := B0.out.trans (b.mono B0.out.size)
  have Y1 : Hid (Hd w1 w.heap.size (.slice ar n cr) (.slice ax m cx) now (.slice aj n cj)) := Y0.out.on b
  clear y0 y1 y2 y3 b HW0 Y0
  obtain ⟨y0, y1, y2, y3⟩ := Y1.out.s
  go_wp2_with fail
  refine (C2.out w1 B1.out).mono ?_
  rintro e w2 ⟨ra, rc, xa, xc, jb, jc, rfl, t2, b2⟩
  have B2 : Below w.heap.size w w2 := B1.out.trans (b2.mono B1.out.size)
  have Y2 := Y1.out.on b2
  have l1 : w.heap.size + 2 ≤ w1.heap.size := (by have := Y1.out.res.lt; omega)
  obtain ⟨w3, hw3⟩ : ∃ y, y = w2.alloc (.cells #[.slice ra n rc, .slice xa m xc, .int .i64 now, .slice (some ⟨jb, 0, none⟩) n jc] 30) := ⟨_, rfl⟩
  have HW3 : Hid (w3 = w2.alloc (.cells #[.slice ra n rc, .slice xa m xc, .int .i64 now, .slice (some ⟨jb, 0, none⟩) n jc] 30)) := hw3
  obtain ⟨nb, hnb⟩ : ∃ nb, nb = w2.heap.size := ⟨_, rfl⟩
  have HNB : Hid (nb = w2.heap.size) := hnb
  have bA : Below w2.heap.size w2 w3 := by rw [hw3]; exact (Below.refl _ _).alloc (Nat.le_refl _) _
  have B3 : Hid (Below w.heap.size w w3) := B2.trans (bA.mono B2.size)
  have X3 : Hid (Bx w3 (w.heap.size + 1) nb (.slice ra n rc) (.slice xa m xc) now (.slice (some ⟨jb, 0, none⟩) n jc)) := ⟨by rw [hw3, hnb]; exact Bl.new w2 30 _, (Y2.on bA).res, by have := Y2.res.lt; omega⟩
  have A3 : Hid (Bl w3 w.heap.size 30 #[.slice ar n cr, .slice ax m cx, .int .i64 now, .slice aj n cj]) := (Y2.on bA).arg
  have T3 : Hid (MO w3 (w.heap.size + 2) (.slice ra n rc) (.slice xa m xc) (.slice (some ⟨jb, 0, none⟩) n jc) R X J) := (t2.on bA).down l1
  clear hw3 hnb bA Y2 t2 b2 y0 y1 y2 y3 C1 C2 B0 B1 Y1 B2 l1
  go_upto_region 4 with fail
  rw [← HW3.out, ← HNB.out]
  clear HW3 HNB
  have IN : Hid (∀ w, Calls Try.prog 27 #[.int .i64 ((i : Int) + 1), .int .i64 1, .int .i64 (n : Int)] w fun e w' => e = .returned (.bool (decide (1 ≤ (i : Int) + 1) && decide ((i : Int) + 1 ≤ (n : Int)))) ∧ w' = w) := fun w => Lists.sin_any ((i : Int) + 1) 1 n w
  have a3 : w3.cell? ⟨w.heap.size, 3, none⟩ = some (.slice aj n cj) := (A3.out.cell 3).trans rfl
  have a2 : w3.cell? ⟨w.heap.size, 2, none⟩ = some (.int .i64 now) := (A3.out.cell 2).trans rfl
  have hin : i < n := h4
  have hb : (decide (1 ≤ (i : Int) + 1) && decide ((i : Int) + 1 ≤ (n : Int))) = true := by rw [Bool.and_eq_true, decide_eq_true_eq, decide_eq_true_eq]; omega
  rw [hb] at IN
  have hkR : i < R.length := by rw [HN.out]; exact hin
  have hkJ : i < J.length := by rw [HJ.out]; exact hin
  obtain ⟨vb, vo, KJ, hv⟩ := jobs_at HR.out.2.2
  obtain ⟨vlt, vcap, hve⟩ := hv (by rw [HJ.out]; omega)
  rw [HJ.out] at hve
  simp at hve
  obtain ⟨hve1, hve2⟩ := hve
  subst hve1
  obtain ⟨j0, j1⟩ := KJ w3 B3.out i hkJ
  have j0' : w3.cell? ⟨vb, vo + i * 2, none⟩ = some (.int .i64 (hw J i)) := j0
  have i0 : (0 : Int) ≤ (i : Int) := by omega
  have i1 : (i : Int) < (n : Int) := by omega
  have ib : (i : Int) ≤ 60 := by omega
  have wi : IntKind.i64.wrap (i : Int) = (i : Int) := IntWalk.i64_in _ (by omega)
  clear hb h4 KJ hv hve2 j0 j1

  have hs2 : (hw J i != 1) = false := by simpa using h5
  have QR := T3.out.2.2
  have QR' : Jb.Row w3 (w.heap.size + 2) (.slice (some ⟨jb, 0, none⟩) J.length jc) J := by rw [HJ.out]; exact QR
  obtain ⟨g0, g1⟩ := jrow_cell QR' i hkJ
  have g0' : w3.cell? ⟨jb, i * 2, none⟩ = some (.int .i64 (hw J i)) := g0
  have g1' : w3.cell? ⟨jb, i * 2 + 1, none⟩ = some (.int .i64 (tr J i)) := g1
  have fz0 := jrow_fz QR' (i * 2)
  have fz1 := jrow_fz QR' (i * 2 + 1)
  have jl := (jrow_ty QR').lt
  have jne : ¬ jb = w3.heap.size := by omega
  obtain ⟨rb, erb⟩ : ∃ rb, ra = some ⟨rb, 0, none⟩ := by
    obtain ⟨zs, hz, _⟩ := T3.out.1
    rcases Tk.row_cases hz with ⟨hz, _⟩ | ⟨g, cap, hg, _⟩
    · rw [HN.out] at hz; omega
    · simp at hg; exact ⟨g, hg.1⟩
  subst erb
  obtain ⟨m3, rbl⟩ : w3.cell? ⟨rb, i * 4 + 3, none⟩ = some (.int .i64 (Tk.cz R i 3)) ∧ rb < w3.heap.size := by
    obtain ⟨zs, hz, hg⟩ := T3.out.1
    obtain ⟨_, _, q3, _⟩ := hg i hkR
    rw [HN.out] at hz
    exact ⟨(hz.cellAt _ (by omega)).trans q3, (row_ty hz rb rfl).lt⟩
  have rne : ¬ rb = w3.heap.size := by omega
  obtain ⟨⟨c0, c1, c2, c3⟩, _, _⟩ := X3.out.s
  have nl := X3.out.box.lt
  have nne2 : ¬ nb = w3.heap.size := by omega
  have njb : ¬ nb = jb := X3.out.box.ty.ne (jrow_ty QR') (by decide)
  rw [h5] at j0' g0'
  clear g0 g1 QR
  have SET : Hid (∀ W, Below w3.heap.size w3 W → MO ((W.setCell ⟨jb, i * 2, none⟩ (.int .i64 3)).setCell ⟨jb, i * 2 + 1, none⟩ (.int .i64 (tr J i))) (w.heap.size + 2) (.slice (some ⟨rb, 0, none⟩) n rc) (.slice xa m xc) (.slice (some ⟨jb, 0, none⟩) n jc) R X (js J i 3 (tr J i)) ∧ Bx ((W.setCell ⟨jb, i * 2, none⟩ (.int .i64 3)).setCell ⟨jb, i * 2 + 1, none⟩ (.int .i64 (tr J i))) (w.heap.size + 1) nb (.slice (some ⟨rb, 0, none⟩) n rc) (.slice xa m xc) now (.slice (some ⟨jb, 0, none⟩) n jc) ∧ Below w.heap.size w ((W.setCell ⟨jb, i * 2, none⟩ (.int .i64 3)).setCell ⟨jb, i * 2 + 1, none⟩ (.int .i64 (tr J i)))) := fun W hb => (by
    have tW := T3.out.on hb
    have xW := X3.out.on hb
    have bW := B3.out.trans (hb.mono B3.out.size)
    have qW : Jb.Row W (w.heap.size + 2) (.slice (some ⟨jb, 0, none⟩) J.length jc) J := QR'.on hb
    obtain ⟨r1, r2⟩ := two_jobs qW i hkJ 3 (tr J i)
    have hlo := (qW.lt jb rfl).1
    have hJ' := HJ.out
    refine ⟨?_, xW.off (e := 34) r2 (jrow_ty qW) (by decide), bW.trans (r2.below bW.size (fun b hb' => by have hb2 : b = jb := hb'; omega))⟩
    rw [← hJ'] at tW ⊢
    exact mo_jobs tW r2 r1)
  rw [← h6] at m3
  clear h6
  go_wp2_with fail
  refine (IN.out _).mono ?_
  rintro e w4 ⟨rfl, hw4⟩
  subst w4
  go_wp2_with fail
  go_quiet (fail)
  go_upto_region 13 with fail
  have bq : Below w3.heap.size w3 (((w3.alloc (.cells #[.int .i64 1, .int .i64 (tr J i)] 34)).drewN nq).setCell ⟨w3.heap.size, 0, none⟩ (.int .i64 3)) := (below_drewN ((Below.refl _ _).alloc (Nat.le_refl _) _) _).setCell (p := ⟨w3.heap.size, 0, none⟩) (Nat.le_refl _) _
  obtain ⟨tS, xS, bS⟩ := SET.out (((w3.alloc (.cells #[.int .i64 1, .int .i64 (tr J i)] 34)).drewN nq).setCell ⟨w3.heap.size, 0, none⟩ (.int .i64 3)) bq
  have bA : Below (((((w3.alloc (.cells #[.int .i64 1, .int .i64 (tr J i)] 34)).drewN nq).setCell ⟨w3.heap.size, 0, none⟩ (.int .i64 3)).setCell ⟨jb, i * 2, none⟩ (.int .i64 3)).setCell ⟨jb, i * 2 + 1, none⟩ (.int .i64 (tr J i))).heap.size (((((w3.alloc (.cells #[.int .i64 1, .int .i64 (tr J i)] 34)).drewN nq).setCell ⟨w3.heap.size, 0, none⟩ (.int .i64 3)).setCell ⟨jb, i * 2, none⟩ (.int .i64 3)).setCell ⟨jb, i * 2 + 1, none⟩ (.int .i64 (tr J i))) (((((w3.alloc (.cells #[.int .i64 1, .int .i64 (tr J i)] 34)).drewN nq).setCell ⟨w3.heap.size, 0, none⟩ (.int .i64 3)).setCell ⟨jb, i * 2, none⟩ (.int .i64 3)).setCell ⟨jb, i * 2 + 1, none⟩ (.int .i64 (tr J i))) := Below.refl _ _
  have T4 : Hid (MO (((((w3.alloc (.cells #[.int .i64 1, .int .i64 (tr J i)] 34)).drewN nq).setCell ⟨w3.heap.size, 0, none⟩ (.int .i64 3)).setCell ⟨jb, i * 2, none⟩ (.int .i64 3)).setCell ⟨jb, i * 2 + 1, none⟩ (.int .i64 (tr J i))) (w.heap.size + 2) (.slice (some ⟨rb, 0, none⟩) n rc) (.slice xa m xc) (.slice (some ⟨jb, 0, none⟩) n jc) R X (js J i 3 (tr J i))) := tS.on bA
  have X4 : Hid (Bx (((((w3.alloc (.cells #[.int .i64 1, .int .i64 (tr J i)] 34)).drewN nq).setCell ⟨w3.heap.size, 0, none⟩ (.int .i64 3)).setCell ⟨jb, i * 2, none⟩ (.int .i64 3)).setCell ⟨jb, i * 2 + 1, none⟩ (.int .i64 (tr J i))) (w.heap.size + 1) nb (.slice (some ⟨rb, 0, none⟩) n rc) (.slice xa m xc) now (.slice (some ⟨jb, 0, none⟩) n jc)) := xS.on bA
  have B4 : Hid (Below w.heap.size w (((((w3.alloc (.cells #[.int .i64 1, .int .i64 (tr J i)] 34)).drewN nq).setCell ⟨w3.heap.size, 0, none⟩ (.int .i64 3)).setCell ⟨jb, i * 2, none⟩ (.int .i64 3)).setCell ⟨jb, i * 2 + 1, none⟩ (.int .i64 (tr J i)))) := bS.trans (bA.mono bS.size)
  clear tS xS bS bA bq SET
  generalize (((((w3.alloc (.cells #[.int .i64 1, .int .i64 (tr J i)] 34)).drewN nq).setCell ⟨w3.heap.size, 0, none⟩ (.int .i64 3)).setCell ⟨jb, i * 2, none⟩ (.int .i64 3)).setCell ⟨jb, i * 2 + 1, none⟩ (.int .i64 (tr J i))) = w5 at T4 X4 B4 ⊢
  clear c0 c1 c2 c3 g0' g1' fz0 fz1 m3 j0' a2 a3
  obtain ⟨⟨c0, c1, c2, c3⟩, ⟨z0, z1, z2, z3⟩, ⟨f0, f1, f2, f3⟩⟩ := X4.out.s
  have nne := X4.out.ne
  go_wp2_with fail
  refine bodyPost_ret (v := .tuple #[rv (.slice (some ⟨rb, 0, none⟩) n rc) (.slice xa m xc) now (.slice (some ⟨jb, 0, none⟩) n jc), .bool true]) (by simp [results, Try.results8, go_sem, z0, z1, z2, z3]) rfl ⟨some ⟨rb, 0, none⟩, rc, xa, xc, some ⟨jb, 0, none⟩, jc, rfl, ?_, bel4 B4.out (by omega) _ _ _ _⟩
  exact (mo_box T4.out (kb4 w5 (w.heap.size + 1) (.slice (some ⟨rb, 0, none⟩) n rc) (.slice xa m xc) (.int .i64 now) (.slice (some ⟨jb, 0, none⟩) n jc)) X4.out.res.ty).down (by omega)

set_option maxHeartbeats 4000000 in
set_option maxRecDepth 20000 in
theorem srep_wait (R : Tk.Ls) (X : List Int) (now : Int) (J : Jb.Ls) (vr vx vj : Value) (i : Nat) (w : World) (hh : RR w vr vx vj R X J) (hk : okR R X now J = true) (h4 : i < J.length) (h5 : hw J i = 1) (h6 : ¬ tr J i = Tk.cz R i 3) :
    Calls Try.prog 8 #[rv vr vx now vj, .int .i64 ((i : Int) + 1), .bool false] w fun e w' => ∃ ra rc xa xc ja jc, e = .returned (.tuple #[rv (.slice ra R.length rc) (.slice xa X.length xc) now (.slice ja J.length jc), .bool true]) ∧ MO w' w.heap.size (.slice ra R.length rc) (.slice xa X.length xc) (.slice ja J.length jc) R X (js J i 0 (tr J i)) ∧ Below w.heap.size w w' := by
  obtain ⟨ar, cr, er⟩ := hh.1.form
  obtain ⟨ax, cx, ex⟩ := hh.2.1.form
  obtain ⟨aj, cj, ej⟩ := hh.2.2.form
  obtain ⟨w0, hw0⟩ : ∃ w0, w0 = (w.alloc (.cells #[vr, vx, .int .i64 now, vj] 30)).alloc (.cells #[nilS, nilS, .int .i64 0, nilS] 30) := ⟨_, rfl⟩
  have HW0 : Hid (w0 = (w.alloc (.cells #[vr, vx, .int .i64 now, vj] 30)).alloc (.cells #[nilS, nilS, .int .i64 0, nilS] 30)) := hw0
  have B0 : Hid (Below w.heap.size w w0) := (by show Below _ _ _; rw [hw0]; exact ((Below.refl _ _).alloc (Nat.le_refl _) _).alloc (by simp) _)
  have Y0 : Hid (Hd w0 w.heap.size vr vx now vj) := (by show Hd _ _ _ _ _ _; rw [hw0]; exact Hd.new w vr vx now vj)
  have Z0 : Hid (w0.heap.size = w.heap.size + 2) := (by show _ = _; rw [hw0]; simp)
  have C1 : Hid (∀ W, Below w.heap.size w W → Calls Try.prog 25 #[rv vr vx now vj] W fun e w' => e = .returned (.bool true) ∧ Below W.heap.size W w') := fun W hb => (by rw [← hk]; exact sok_any R X now J vr vx vj W (hh.on hb))
  have C2 : Hid (∀ W, Below w.heap.size w W → Calls Try.prog 26 #[rv vr vx now vj] W fun e w' => ∃ ra rc xa xc jb jc, e = .returned (rv (.slice ra R.length rc) (.slice xa X.length xc) now (.slice (some ⟨jb, 0, none⟩) J.length jc)) ∧ MO w' W.heap.size (.slice ra R.length rc) (.slice xa X.length xc) (.slice (some ⟨jb, 0, none⟩) J.length jc) R X J ∧ Below W.heap.size W w') := fun W hb => copy_any R X now J vr vx vj W (hh.on hb) hk
  obtain ⟨y0, y1, y2, y3⟩ := Y0.out.s
  obtain ⟨o1, o2, o3⟩ := okR_parts hk
  have F := fit_of o1
  have HF : Hid (Fit R X) := F
  have n60 := F.r60
  have n1 := F.r1
  have HR : Hid (RR w vr vx vj R X J) := hh
  have JB : Hid (∀ i, i < J.length → 0 ≤ tr J i ∧ tr J i ≤ 5) := fun i hi => jok_bd hk i hi
  have now0 : 0 ≤ now ∧ now ≤ 1000000000000 := by have h2 := o2; rw [inn_eq, Bool.and_eq_true, decide_eq_true_eq, decide_eq_true_eq] at h2; exact h2
  subst er ex ej
  obtain ⟨n, hn⟩ : ∃ n, R.length = n := ⟨_, rfl⟩
  obtain ⟨m, hm⟩ : ∃ m, X.length = m := ⟨_, rfl⟩
  have HN : Hid (R.length = n) := hn
  have HM : Hid (X.length = m) := hm
  have HJ : Hid (J.length = n) := o3.trans hn
  simp only [o3, hn, hm] at y0 y1 y2 y3 HW0 Y0 n60 n1 C1 C2 HR JB h4 ⊢
  clear hh hw0 hk o1 o2 o3 hn hm F
  go_enter Try.func8, Try.ntmps8
  go_wp2_with fail
  rw [← HW0.out]
  refine (C1.out w0 B0.out).mono ?_
  rintro e w1 ⟨rfl, b⟩
  have B1 : Hid (Below w.heap.size w w1) := B0.out.trans (b.mono B0.out.size)
  have Y1 : Hid (Hd w1 w.heap.size (.slice ar n cr) (.slice ax m cx) now (.slice aj n cj)) := Y0.out.on b
  clear y0 y1 y2 y3 b HW0 Y0
  obtain ⟨y0, y1, y2, y3⟩ := Y1.out.s
  go_wp2_with fail
  refine (C2.out w1 B1.out).mono ?_
  rintro e w2 ⟨ra, rc, xa, xc, jb, jc, rfl, t2, b2⟩
  have B2 : Below w.heap.size w w2 := B1.out.trans (b2.mono B1.out.size)
  have Y2 := Y1.out.on b2
  have l1 : w.heap.size + 2 ≤ w1.heap.size := (by have := Y1.out.res.lt; omega)
  obtain ⟨w3, hw3⟩ : ∃ y, y = w2.alloc (.cells #[.slice ra n rc, .slice xa m xc, .int .i64 now, .slice (some ⟨jb, 0, none⟩) n jc] 30) := ⟨_, rfl⟩
  have HW3 : Hid (w3 = w2.alloc (.cells #[.slice ra n rc, .slice xa m xc, .int .i64 now, .slice (some ⟨jb, 0, none⟩) n jc] 30)) := hw3
  obtain ⟨nb, hnb⟩ : ∃ nb, nb = w2.heap.size := ⟨_, rfl⟩
  have HNB : Hid (nb = w2.heap.size) := hnb
  have bA : Below w2.heap.size w2 w3 := by rw [hw3]; exact (Below.refl _ _).alloc (Nat.le_refl _) _
  have B3 : Hid (Below w.heap.size w w3) := B2.trans (bA.mono B2.size)
  have X3 : Hid (Bx w3 (w.heap.size + 1) nb (.slice ra n rc) (.slice xa m xc) now (.slice (some ⟨jb, 0, none⟩) n jc)) := ⟨by rw [hw3, hnb]; exact Bl.new w2 30 _, (Y2.on bA).res, by have := Y2.res.lt; omega⟩
  have A3 : Hid (Bl w3 w.heap.size 30 #[.slice ar n cr, .slice ax m cx, .int .i64 now, .slice aj n cj]) := (Y2.on bA).arg
  have T3 : Hid (MO w3 (w.heap.size + 2) (.slice ra n rc) (.slice xa m xc) (.slice (some ⟨jb, 0, none⟩) n jc) R X J) := (t2.on bA).down l1
  clear hw3 hnb bA Y2 t2 b2 y0 y1 y2 y3 C1 C2 B0 B1 Y1 B2 l1
  go_upto_region 4 with fail
  rw [← HW3.out, ← HNB.out]
  clear HW3 HNB
  have IN : Hid (∀ w, Calls Try.prog 27 #[.int .i64 ((i : Int) + 1), .int .i64 1, .int .i64 (n : Int)] w fun e w' => e = .returned (.bool (decide (1 ≤ (i : Int) + 1) && decide ((i : Int) + 1 ≤ (n : Int)))) ∧ w' = w) := fun w => Lists.sin_any ((i : Int) + 1) 1 n w
  have a3 : w3.cell? ⟨w.heap.size, 3, none⟩ = some (.slice aj n cj) := (A3.out.cell 3).trans rfl
  have a2 : w3.cell? ⟨w.heap.size, 2, none⟩ = some (.int .i64 now) := (A3.out.cell 2).trans rfl
  have hin : i < n := h4
  have hb : (decide (1 ≤ (i : Int) + 1) && decide ((i : Int) + 1 ≤ (n : Int))) = true := by rw [Bool.and_eq_true, decide_eq_true_eq, decide_eq_true_eq]; omega
  rw [hb] at IN
  have hkR : i < R.length := by rw [HN.out]; exact hin
  have hkJ : i < J.length := by rw [HJ.out]; exact hin
  obtain ⟨vb, vo, KJ, hv⟩ := jobs_at HR.out.2.2
  obtain ⟨vlt, vcap, hve⟩ := hv (by rw [HJ.out]; omega)
  rw [HJ.out] at hve
  simp at hve
  obtain ⟨hve1, hve2⟩ := hve
  subst hve1
  obtain ⟨j0, j1⟩ := KJ w3 B3.out i hkJ
  have j0' : w3.cell? ⟨vb, vo + i * 2, none⟩ = some (.int .i64 (hw J i)) := j0
  have i0 : (0 : Int) ≤ (i : Int) := by omega
  have i1 : (i : Int) < (n : Int) := by omega
  have ib : (i : Int) ≤ 60 := by omega
  have wi : IntKind.i64.wrap (i : Int) = (i : Int) := IntWalk.i64_in _ (by omega)
  clear hb h4 KJ hv hve2 j0 j1

  have hs2 : (hw J i != 1) = false := by simpa using h5
  have QR := T3.out.2.2
  have QR' : Jb.Row w3 (w.heap.size + 2) (.slice (some ⟨jb, 0, none⟩) J.length jc) J := by rw [HJ.out]; exact QR
  obtain ⟨g0, g1⟩ := jrow_cell QR' i hkJ
  have g0' : w3.cell? ⟨jb, i * 2, none⟩ = some (.int .i64 (hw J i)) := g0
  have g1' : w3.cell? ⟨jb, i * 2 + 1, none⟩ = some (.int .i64 (tr J i)) := g1
  have fz0 := jrow_fz QR' (i * 2)
  have fz1 := jrow_fz QR' (i * 2 + 1)
  have jl := (jrow_ty QR').lt
  have jne : ¬ jb = w3.heap.size := by omega
  obtain ⟨rb, erb⟩ : ∃ rb, ra = some ⟨rb, 0, none⟩ := by
    obtain ⟨zs, hz, _⟩ := T3.out.1
    rcases Tk.row_cases hz with ⟨hz, _⟩ | ⟨g, cap, hg, _⟩
    · rw [HN.out] at hz; omega
    · simp at hg; exact ⟨g, hg.1⟩
  subst erb
  obtain ⟨m3, rbl⟩ : w3.cell? ⟨rb, i * 4 + 3, none⟩ = some (.int .i64 (Tk.cz R i 3)) ∧ rb < w3.heap.size := by
    obtain ⟨zs, hz, hg⟩ := T3.out.1
    obtain ⟨_, _, q3, _⟩ := hg i hkR
    rw [HN.out] at hz
    exact ⟨(hz.cellAt _ (by omega)).trans q3, (row_ty hz rb rfl).lt⟩
  have rne : ¬ rb = w3.heap.size := by omega
  obtain ⟨⟨c0, c1, c2, c3⟩, _, _⟩ := X3.out.s
  have nl := X3.out.box.lt
  have nne2 : ¬ nb = w3.heap.size := by omega
  have njb : ¬ nb = jb := X3.out.box.ty.ne (jrow_ty QR') (by decide)
  rw [h5] at j0' g0'
  clear g0 g1 QR
  have SET : Hid (∀ W, Below w3.heap.size w3 W → MO ((W.setCell ⟨jb, i * 2, none⟩ (.int .i64 0)).setCell ⟨jb, i * 2 + 1, none⟩ (.int .i64 (tr J i))) (w.heap.size + 2) (.slice (some ⟨rb, 0, none⟩) n rc) (.slice xa m xc) (.slice (some ⟨jb, 0, none⟩) n jc) R X (js J i 0 (tr J i)) ∧ Bx ((W.setCell ⟨jb, i * 2, none⟩ (.int .i64 0)).setCell ⟨jb, i * 2 + 1, none⟩ (.int .i64 (tr J i))) (w.heap.size + 1) nb (.slice (some ⟨rb, 0, none⟩) n rc) (.slice xa m xc) now (.slice (some ⟨jb, 0, none⟩) n jc) ∧ Below w.heap.size w ((W.setCell ⟨jb, i * 2, none⟩ (.int .i64 0)).setCell ⟨jb, i * 2 + 1, none⟩ (.int .i64 (tr J i)))) := fun W hb => (by
    have tW := T3.out.on hb
    have xW := X3.out.on hb
    have bW := B3.out.trans (hb.mono B3.out.size)
    have qW : Jb.Row W (w.heap.size + 2) (.slice (some ⟨jb, 0, none⟩) J.length jc) J := QR'.on hb
    obtain ⟨r1, r2⟩ := two_jobs qW i hkJ 0 (tr J i)
    have hlo := (qW.lt jb rfl).1
    have hJ' := HJ.out
    refine ⟨?_, xW.off (e := 34) r2 (jrow_ty qW) (by decide), bW.trans (r2.below bW.size (fun b hb' => by have hb2 : b = jb := hb'; omega))⟩
    rw [← hJ'] at tW ⊢
    exact mo_jobs tW r2 r1)
  have h7 : (tr J i == Tk.cz R i 3) = false := by simpa using h6
  go_wp2_with fail
  refine (IN.out _).mono ?_
  rintro e w4 ⟨rfl, hw4⟩
  subst w4
  go_wp2_with fail
  go_quiet (fail)
  go_upto_region 13 with fail
  have bq : Below w3.heap.size w3 (((w3.alloc (.cells #[.int .i64 1, .int .i64 (tr J i)] 34)).drewN nq).setCell ⟨w3.heap.size, 0, none⟩ (.int .i64 0)) := (below_drewN ((Below.refl _ _).alloc (Nat.le_refl _) _) _).setCell (p := ⟨w3.heap.size, 0, none⟩) (Nat.le_refl _) _
  obtain ⟨tS, xS, bS⟩ := SET.out (((w3.alloc (.cells #[.int .i64 1, .int .i64 (tr J i)] 34)).drewN nq).setCell ⟨w3.heap.size, 0, none⟩ (.int .i64 0)) bq
  have bA : Below (((((w3.alloc (.cells #[.int .i64 1, .int .i64 (tr J i)] 34)).drewN nq).setCell ⟨w3.heap.size, 0, none⟩ (.int .i64 0)).setCell ⟨jb, i * 2, none⟩ (.int .i64 0)).setCell ⟨jb, i * 2 + 1, none⟩ (.int .i64 (tr J i))).heap.size (((((w3.alloc (.cells #[.int .i64 1, .int .i64 (tr J i)] 34)).drewN nq).setCell ⟨w3.heap.size, 0, none⟩ (.int .i64 0)).setCell ⟨jb, i * 2, none⟩ (.int .i64 0)).setCell ⟨jb, i * 2 + 1, none⟩ (.int .i64 (tr J i))) (((((w3.alloc (.cells #[.int .i64 1, .int .i64 (tr J i)] 34)).drewN nq).setCell ⟨w3.heap.size, 0, none⟩ (.int .i64 0)).setCell ⟨jb, i * 2, none⟩ (.int .i64 0)).setCell ⟨jb, i * 2 + 1, none⟩ (.int .i64 (tr J i))) := Below.refl _ _
  have T4 : Hid (MO (((((w3.alloc (.cells #[.int .i64 1, .int .i64 (tr J i)] 34)).drewN nq).setCell ⟨w3.heap.size, 0, none⟩ (.int .i64 0)).setCell ⟨jb, i * 2, none⟩ (.int .i64 0)).setCell ⟨jb, i * 2 + 1, none⟩ (.int .i64 (tr J i))) (w.heap.size + 2) (.slice (some ⟨rb, 0, none⟩) n rc) (.slice xa m xc) (.slice (some ⟨jb, 0, none⟩) n jc) R X (js J i 0 (tr J i))) := tS.on bA
  have X4 : Hid (Bx (((((w3.alloc (.cells #[.int .i64 1, .int .i64 (tr J i)] 34)).drewN nq).setCell ⟨w3.heap.size, 0, none⟩ (.int .i64 0)).setCell ⟨jb, i * 2, none⟩ (.int .i64 0)).setCell ⟨jb, i * 2 + 1, none⟩ (.int .i64 (tr J i))) (w.heap.size + 1) nb (.slice (some ⟨rb, 0, none⟩) n rc) (.slice xa m xc) now (.slice (some ⟨jb, 0, none⟩) n jc)) := xS.on bA
  have B4 : Hid (Below w.heap.size w (((((w3.alloc (.cells #[.int .i64 1, .int .i64 (tr J i)] 34)).drewN nq).setCell ⟨w3.heap.size, 0, none⟩ (.int .i64 0)).setCell ⟨jb, i * 2, none⟩ (.int .i64 0)).setCell ⟨jb, i * 2 + 1, none⟩ (.int .i64 (tr J i)))) := bS.trans (bA.mono bS.size)
  clear tS xS bS bA bq SET
  generalize (((((w3.alloc (.cells #[.int .i64 1, .int .i64 (tr J i)] 34)).drewN nq).setCell ⟨w3.heap.size, 0, none⟩ (.int .i64 0)).setCell ⟨jb, i * 2, none⟩ (.int .i64 0)).setCell ⟨jb, i * 2 + 1, none⟩ (.int .i64 (tr J i))) = w5 at T4 X4 B4 ⊢
  clear c0 c1 c2 c3 g0' g1' fz0 fz1 m3 j0' a2 a3
  obtain ⟨⟨c0, c1, c2, c3⟩, ⟨z0, z1, z2, z3⟩, ⟨f0, f1, f2, f3⟩⟩ := X4.out.s
  have nne := X4.out.ne
  go_wp2_with fail
  refine bodyPost_ret (v := .tuple #[rv (.slice (some ⟨rb, 0, none⟩) n rc) (.slice xa m xc) now (.slice (some ⟨jb, 0, none⟩) n jc), .bool true]) (by simp [results, Try.results8, go_sem, z0, z1, z2, z3]) rfl ⟨some ⟨rb, 0, none⟩, rc, xa, xc, some ⟨jb, 0, none⟩, jc, rfl, ?_, bel4 B4.out (by omega) _ _ _ _⟩
  exact (mo_box T4.out (kb4 w5 (w.heap.size + 1) (.slice (some ⟨rb, 0, none⟩) n rc) (.slice xa m xc) (.int .i64 now) (.slice (some ⟨jb, 0, none⟩) n jc)) X4.out.res.ty).down (by omega)
end Go.Proofs.Ytfhpomfdkpfooaa.Ty
