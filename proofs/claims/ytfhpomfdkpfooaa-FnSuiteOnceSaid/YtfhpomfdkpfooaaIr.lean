/- Report: the program. -/
import Derived.Test.YtfhpomfdkpfooaaIc
namespace Go.Proofs.Ytfhpomfdkpfooaa.Ty
open Go.ChangeShapes Go.WideShapes Go.ChangeAt Go.RowKit
open Go.Proofs.Ytfhpomfdkpfooaa.Lists Go.Proofs.Ytfhpomfdkpfooaa.Tm Go.Proofs.Ytfhpomfdkpfooaa.Rk Go.Proofs.Ytfhpomfdkpfooaa.Ru Go.Proofs.Ytfhpomfdkpfooaa.Al

/-- what a report of a task leaves -/
def rps (R : Tk.Ls) (J : Jb.Ls) (tk : Int) (ok : Bool) : Jb.Ls := if 1 ≤ tk ∧ tk ≤ (J.length : Int) ∧ hw J (tk - 1).toNat = 1 then js J (tk - 1).toNat (ez ok (tr J (tk - 1).toNat) (Tk.cz R (tk - 1).toNat 3)) (tr J (tk - 1).toNat) else J
def rpb (J : Jb.Ls) (tk : Int) : Bool := decide (1 ≤ tk ∧ tk ≤ (J.length : Int) ∧ hw J (tk - 1).toNat = 1)
theorem rps_len (R : Tk.Ls) (J : Jb.Ls) (tk : Int) (ok : Bool) : (rps R J tk ok).length = J.length := by
  unfold rps
  split
  · exact js_len _ _ _ _
  · rfl

set_option maxHeartbeats 2000000 in
theorem irep_no (R : Tk.Ls) (X : List Int) (now : Int) (J : Jb.Ls) (vr vx vj : Value) (tk : Int) (ok : Bool) (w : World) (hh : RR w vr vx vj R X J) (hk : okR R X now J = false) :
    Calls Try.prog 9 #[rv vr vx now vj, .int .i64 tk, .bool ok] w fun e w' => e = .returned (.tuple #[rv nilS nilS 0 nilS, .bool false]) ∧ Below w.heap.size w w' := by
  obtain ⟨ar, cr, er⟩ := hh.1.form
  obtain ⟨ax, cx, ex⟩ := hh.2.1.form
  obtain ⟨aj, cj, ej⟩ := hh.2.2.form
  obtain ⟨w0, hw0⟩ : ∃ w0, w0 = (w.alloc (.cells #[vr, vx, .int .i64 now, vj] 30)).alloc (.cells #[nilS, nilS, .int .i64 0, nilS] 30) := ⟨_, rfl⟩
  have HW0 : Hid (w0 = (w.alloc (.cells #[vr, vx, .int .i64 now, vj] 30)).alloc (.cells #[nilS, nilS, .int .i64 0, nilS] 30)) := hw0
  have B0 : Hid (Below w.heap.size w w0) := (by show Below _ _ _; rw [hw0]; exact ((Below.refl _ _).alloc (Nat.le_refl _) _).alloc (by simp) _)
  have Y0 : Hid (Hd w0 w.heap.size vr vx now vj) := (by show Hd _ _ _ _ _ _; rw [hw0]; exact Hd.new w vr vx now vj)
  have Z0 : Hid (w0.heap.size = w.heap.size + 2) := (by show _ = _; rw [hw0]; simp)
  have C1 : Hid (Calls Try.prog 28 #[rv vr vx now vj] w0 fun e w' => e = .returned noRun ∧ Below w0.heap.size w0 w') := tied_no R X now J vr vx vj w0 (hh.on B0.out) hk
  obtain ⟨y0, y1, y2, y3⟩ := Y0.out.s
  subst er ex ej
  generalize R.length = n at *
  generalize X.length = m at *
  generalize J.length = k at *
  clear hh hw0 hk
  go_enter Try.func9, Try.ntmps9
  go_wp2_with fail
  rw [← HW0.out]
  refine (Calls.mono C1.out) ?_
  rintro e w1 ⟨rfl, hb⟩
  have B1 : Hid (Below w.heap.size w w1) := B0.out.trans (hb.mono B0.out.size)
  have Y1 : Hid (Hd w1 w.heap.size (.slice ar n cr) (.slice ax m cx) now (.slice aj k cj)) := Y0.out.on hb
  have BA : Hid (Below w.heap.size w (w1.alloc (.cells #[nilS, nilS, .int .i64 0, nilS] 30))) := B1.out.alloc B1.out.size _
  clear y0 y1 y2 y3 hb HW0 Y0 C1
  have rl := Y1.out.res.lt
  have rne : ¬ w.heap.size + 1 = w1.heap.size := by omega
  have z0 : w1.cell? ⟨w.heap.size + 1, 0, none⟩ = some nilS := (Y1.out.res.cell 0).trans rfl
  have z1 : w1.cell? ⟨w.heap.size + 1, 1, none⟩ = some nilS := (Y1.out.res.cell 1).trans rfl
  have z2 : w1.cell? ⟨w.heap.size + 1, 2, none⟩ = some (.int .i64 0) := (Y1.out.res.cell 2).trans rfl
  have z3 : w1.cell? ⟨w.heap.size + 1, 3, none⟩ = some nilS := (Y1.out.res.cell 3).trans rfl
  have f0 := Y1.out.res.fz 0
  have f1 := Y1.out.res.fz 1
  have f2 := Y1.out.res.fz 2
  have f3 := Y1.out.res.fz 3
  go_wp2_with fail
  have QB : Bl (((((w1.setCell ⟨w.heap.size + 1, 0, none⟩ nilS).setCell ⟨w.heap.size + 1, 1, none⟩ nilS).setCell ⟨w.heap.size + 1, 2, none⟩ (.int .i64 0)).setCell ⟨w.heap.size + 1, 3, none⟩ nilS).alloc (.cells #[nilS, nilS, .int .i64 0, nilS] 30)) (w.heap.size + 1) 30 z35 := (bl_set4 Y1.out.res _ _ _ _).on ((Below.refl _ _).alloc (Nat.le_refl _) _)
  have BB : Below w.heap.size w (((((w1.setCell ⟨w.heap.size + 1, 0, none⟩ nilS).setCell ⟨w.heap.size + 1, 1, none⟩ nilS).setCell ⟨w.heap.size + 1, 2, none⟩ (.int .i64 0)).setCell ⟨w.heap.size + 1, 3, none⟩ nilS).alloc (.cells #[nilS, nilS, .int .i64 0, nilS] 30)) := (bel4 B1.out (Nat.le_succ _) _ _ _ _).alloc (bel4 B1.out (Nat.le_succ _) _ _ _ _).size _
  generalize (((((w1.setCell ⟨w.heap.size + 1, 0, none⟩ nilS).setCell ⟨w.heap.size + 1, 1, none⟩ nilS).setCell ⟨w.heap.size + 1, 2, none⟩ (.int .i64 0)).setCell ⟨w.heap.size + 1, 3, none⟩ nilS).alloc (.cells #[nilS, nilS, .int .i64 0, nilS] 30)) = W at QB BB ⊢
  have q0 : W.cell? ⟨w.heap.size + 1, 0, none⟩ = some nilS := (QB.cell 0).trans rfl
  have q1 : W.cell? ⟨w.heap.size + 1, 1, none⟩ = some nilS := (QB.cell 1).trans rfl
  have q2 : W.cell? ⟨w.heap.size + 1, 2, none⟩ = some (.int .i64 0) := (QB.cell 2).trans rfl
  have q3 : W.cell? ⟨w.heap.size + 1, 3, none⟩ = some nilS := (QB.cell 3).trans rfl
  exact bodyPost_ret (v := .tuple #[rv nilS nilS 0 nilS, .bool false]) (by simp [results, Try.results9, go_sem, q0, q1, q2, q3]) rfl ⟨rfl, BB⟩

set_option maxHeartbeats 4000000 in
set_option maxRecDepth 20000 in
theorem irep_out (R : Tk.Ls) (X : List Int) (now : Int) (J : Jb.Ls) (vr vx vj : Value) (tk : Int) (ok : Bool) (w : World) (hh : RR w vr vx vj R X J) (hk : okR R X now J = true) (h4 : ¬ (1 ≤ tk ∧ tk ≤ (J.length : Int))) :
    Calls Try.prog 9 #[rv vr vx now vj, .int .i64 tk, .bool ok] w fun e w' => ∃ ra rc xa xc ja jc, e = .returned (.tuple #[rv (.slice ra R.length rc) (.slice xa X.length xc) now (.slice ja J.length jc), .bool false]) ∧ (∃ xs, RO w' w.heap.size (.slice ra R.length rc) (.slice xa X.length xc) (.slice ja J.length jc) xs R X J) ∧ Below w.heap.size w w' := by
  obtain ⟨ar, cr, er⟩ := hh.1.form
  obtain ⟨ax, cx, ex⟩ := hh.2.1.form
  obtain ⟨aj, cj, ej⟩ := hh.2.2.form
  obtain ⟨w0, hw0⟩ : ∃ w0, w0 = (w.alloc (.cells #[vr, vx, .int .i64 now, vj] 30)).alloc (.cells #[nilS, nilS, .int .i64 0, nilS] 30) := ⟨_, rfl⟩
  have HW0 : Hid (w0 = (w.alloc (.cells #[vr, vx, .int .i64 now, vj] 30)).alloc (.cells #[nilS, nilS, .int .i64 0, nilS] 30)) := hw0
  have B0 : Hid (Below w.heap.size w w0) := (by show Below _ _ _; rw [hw0]; exact ((Below.refl _ _).alloc (Nat.le_refl _) _).alloc (by simp) _)
  have Y0 : Hid (Hd w0 w.heap.size vr vx now vj) := (by show Hd _ _ _ _ _ _; rw [hw0]; exact Hd.new w vr vx now vj)
  have Z0 : Hid (w0.heap.size = w.heap.size + 2) := (by show _ = _; rw [hw0]; simp)
  have C1 : Hid (Calls Try.prog 28 #[rv vr vx now vj] w0 fun e w' => ∃ ra rc xa xc jb jc tb h xs u a P, e = .returned (.tuple #[rv (.slice ra R.length rc) (.slice xa X.length xc) now (.slice (some ⟨jb, 0, none⟩) J.length jc), .slice (some ⟨tb, 0, none⟩) R.length R.length, .bool true]) ∧
      Tied w0.heap.size R X J (.slice ra R.length rc) (.slice xa X.length xc) jb jc tb h xs u a P (fun g => rn R J g R.length) (fun _ => false) w' ∧ Below w0.heap.size w0 w') := tied_yes R X now J vr vx vj w0 (hh.on B0.out) hk
  obtain ⟨y0, y1, y2, y3⟩ := Y0.out.s
  obtain ⟨o1, o2, o3⟩ := okR_parts hk
  have F := fit_of o1
  have HF : Hid (Fit R X) := F
  have n60 := F.r60
  have n1 := F.r1
  have now0 : 0 ≤ now ∧ now ≤ 1000000000000 := by have h2 := o2; rw [inn_eq, Bool.and_eq_true, decide_eq_true_eq, decide_eq_true_eq] at h2; exact h2
  subst er ex ej
  obtain ⟨n, hn⟩ : ∃ n, R.length = n := ⟨_, rfl⟩
  obtain ⟨m, hm⟩ : ∃ m, X.length = m := ⟨_, rfl⟩
  have HN : Hid (R.length = n) := hn
  have HM : Hid (X.length = m) := hm
  have HJ : Hid (J.length = n) := o3.trans hn
  have HOK : Hid (okR R X now J = true) := hk
  have JB : Hid (∀ i, i < n → 0 ≤ tr J i ∧ tr J i ≤ 5) := fun i hi => jok_bd hk i (by omega)
  simp only [o3, hn, hm] at y0 y1 y2 y3 HW0 Y0 n60 n1 h4
  have C2 : Hid (Calls Try.prog 28 #[rv (.slice ar n cr) (.slice ax m cx) now (.slice aj n cj)] w0 fun e w' => ∃ ra rc xa xc jb jc tb h xs u a P, e = .returned (.tuple #[rv (.slice ra n rc) (.slice xa m xc) now (.slice (some ⟨jb, 0, none⟩) n jc), .slice (some ⟨tb, 0, none⟩) n n, .bool true]) ∧
      Tied w0.heap.size R X J (.slice ra n rc) (.slice xa m xc) jb jc tb h xs u a P (fun g => rn R J g n) (fun _ => false) w' ∧ Below w0.heap.size w0 w') := (by have := C1.out; simp only [o3, hn, hm] at this; exact this)
  simp only [o3, hn, hm]
  clear hh hw0 hk o1 o2 o3 hn hm F C1
  go_enter Try.func9, Try.ntmps9
  go_wp2_with fail
  rw [← HW0.out]
  refine (Calls.mono C2.out) ?_
  rintro e w1 ⟨ra, rc, xa, xc, jb, jc, tb, h, xs, u, a, P, rfl, t1, b1⟩
  have B1 : Below w.heap.size w w1 := B0.out.trans (b1.mono B0.out.size)
  have Y1 := Y0.out.on b1
  obtain ⟨w2, hw2⟩ : ∃ y, y = w1.alloc (.cells #[.slice ra n rc, .slice xa m xc, .int .i64 now, .slice (some ⟨jb, 0, none⟩) n jc] 30) := ⟨_, rfl⟩
  have HW2 : Hid (w2 = w1.alloc (.cells #[.slice ra n rc, .slice xa m xc, .int .i64 now, .slice (some ⟨jb, 0, none⟩) n jc] 30)) := hw2
  obtain ⟨nb, hnb⟩ : ∃ nb, nb = w1.heap.size := ⟨_, rfl⟩
  have HNB : Hid (nb = w1.heap.size) := hnb
  have bA : Below w1.heap.size w1 w2 := by rw [hw2]; exact (Below.refl _ _).alloc (Nat.le_refl _) _
  have B2 : Hid (Below w.heap.size w w2) := B1.trans (bA.mono B1.size)
  have X2 : Hid (Bx w2 (w.heap.size + 1) nb (.slice ra n rc) (.slice xa m xc) now (.slice (some ⟨jb, 0, none⟩) n jc)) := ⟨by rw [hw2, hnb]; exact Bl.new w1 30 _, (Y1.on bA).res, by have := Y1.res.lt; omega⟩
  have A2 : Hid (Bl w2 w.heap.size 30 #[.slice ar n cr, .slice ax m cx, .int .i64 now, .slice aj n cj]) := (Y1.on bA).arg
  have T2 : Hid (Tied w0.heap.size R X J (.slice ra n rc) (.slice xa m xc) jb jc tb h xs u a P (fun g => rn R J g n) (fun _ => false) w2) := t1.on bA
  have NB0 : Hid (w.heap.size + 1 < nb) := (by have := Y1.res.lt; show _ < _; omega)
  clear hw2 hnb bA B1 Y1 t1 b1 y0 y1 y2 y3 HW0 C2 B0 Y0
  go_upto_region 4 with fail
  rw [← HW2.out, ← HNB.out]
  clear HW2 HNB
  have IN : Hid (∀ w, Calls Try.prog 29 #[.int .i64 tk, .int .i64 1, .int .i64 (n : Int)] w fun e w' => e = .returned (.bool (decide (1 ≤ tk) && decide (tk ≤ (n : Int)))) ∧ w' = w) := fun w => Lists.win_any tk 1 n w
  have hb : (decide (1 ≤ tk) && decide (tk ≤ (n : Int))) = false := by rw [Bool.and_eq_false_iff, decide_eq_false_iff_not, decide_eq_false_iff_not]; omega
  rw [hb] at IN
  clear hb
  go_wp2_with fail
  refine (IN.out _).mono ?_
  rintro e w3 ⟨rfl, hw3⟩
  subst w3
  obtain ⟨⟨c0, c1, c2, c3⟩, ⟨z0, z1, z2, z3⟩, ⟨f0, f1, f2, f3⟩⟩ := X2.out.s
  have nne := X2.out.ne
  go_wp2_with fail
  refine bodyPost_ret (v := .tuple #[rv (.slice ra n rc) (.slice xa m xc) now (.slice (some ⟨jb, 0, none⟩) n jc), .bool false]) (by simp [results, Try.results9, go_sem, z0, z1, z2, z3]) rfl ⟨ra, rc, xa, xc, some ⟨jb, 0, none⟩, jc, rfl, ⟨xs, ?_⟩, bel4 B2.out (by omega) _ _ _ _⟩
  have q := (T2.out.box (kb4 w2 (w.heap.size + 1) (.slice ra n rc) (.slice xa m xc) (.int .i64 now) (.slice (some ⟨jb, 0, none⟩) n jc)) X2.out.res.ty).ro
  rw [HJ.out] at q
  exact ro_down q (by rw [Z0.out]; exact Nat.le_add_right _ 2)

set_option maxHeartbeats 4000000 in
set_option maxRecDepth 20000 in
theorem irep_not (R : Tk.Ls) (X : List Int) (now : Int) (J : Jb.Ls) (vr vx vj : Value) (i : Nat) (ok : Bool) (w : World) (hh : RR w vr vx vj R X J) (hk : okR R X now J = true) (h4 : i < J.length) (h5 : ¬ hw J i = 1) :
    Calls Try.prog 9 #[rv vr vx now vj, .int .i64 ((i : Int) + 1), .bool ok] w fun e w' => ∃ ra rc xa xc ja jc, e = .returned (.tuple #[rv (.slice ra R.length rc) (.slice xa X.length xc) now (.slice ja J.length jc), .bool false]) ∧ (∃ xs, RO w' w.heap.size (.slice ra R.length rc) (.slice xa X.length xc) (.slice ja J.length jc) xs R X J) ∧ Below w.heap.size w w' := by
  obtain ⟨ar, cr, er⟩ := hh.1.form
  obtain ⟨ax, cx, ex⟩ := hh.2.1.form
  obtain ⟨aj, cj, ej⟩ := hh.2.2.form
  obtain ⟨w0, hw0⟩ : ∃ w0, w0 = (w.alloc (.cells #[vr, vx, .int .i64 now, vj] 30)).alloc (.cells #[nilS, nilS, .int .i64 0, nilS] 30) := ⟨_, rfl⟩
  have HW0 : Hid (w0 = (w.alloc (.cells #[vr, vx, .int .i64 now, vj] 30)).alloc (.cells #[nilS, nilS, .int .i64 0, nilS] 30)) := hw0
  have B0 : Hid (Below w.heap.size w w0) := (by show Below _ _ _; rw [hw0]; exact ((Below.refl _ _).alloc (Nat.le_refl _) _).alloc (by simp) _)
  have Y0 : Hid (Hd w0 w.heap.size vr vx now vj) := (by show Hd _ _ _ _ _ _; rw [hw0]; exact Hd.new w vr vx now vj)
  have Z0 : Hid (w0.heap.size = w.heap.size + 2) := (by show _ = _; rw [hw0]; simp)
  have C1 : Hid (Calls Try.prog 28 #[rv vr vx now vj] w0 fun e w' => ∃ ra rc xa xc jb jc tb h xs u a P, e = .returned (.tuple #[rv (.slice ra R.length rc) (.slice xa X.length xc) now (.slice (some ⟨jb, 0, none⟩) J.length jc), .slice (some ⟨tb, 0, none⟩) R.length R.length, .bool true]) ∧
      Tied w0.heap.size R X J (.slice ra R.length rc) (.slice xa X.length xc) jb jc tb h xs u a P (fun g => rn R J g R.length) (fun _ => false) w' ∧ Below w0.heap.size w0 w') := tied_yes R X now J vr vx vj w0 (hh.on B0.out) hk
  obtain ⟨y0, y1, y2, y3⟩ := Y0.out.s
  obtain ⟨o1, o2, o3⟩ := okR_parts hk
  have F := fit_of o1
  have HF : Hid (Fit R X) := F
  have n60 := F.r60
  have n1 := F.r1
  have now0 : 0 ≤ now ∧ now ≤ 1000000000000 := by have h2 := o2; rw [inn_eq, Bool.and_eq_true, decide_eq_true_eq, decide_eq_true_eq] at h2; exact h2
  subst er ex ej
  obtain ⟨n, hn⟩ : ∃ n, R.length = n := ⟨_, rfl⟩
  obtain ⟨m, hm⟩ : ∃ m, X.length = m := ⟨_, rfl⟩
  have HN : Hid (R.length = n) := hn
  have HM : Hid (X.length = m) := hm
  have HJ : Hid (J.length = n) := o3.trans hn
  have HOK : Hid (okR R X now J = true) := hk
  have JB : Hid (∀ i, i < n → 0 ≤ tr J i ∧ tr J i ≤ 5) := fun i hi => jok_bd hk i (by omega)
  simp only [o3, hn, hm] at y0 y1 y2 y3 HW0 Y0 n60 n1 h4
  have C2 : Hid (Calls Try.prog 28 #[rv (.slice ar n cr) (.slice ax m cx) now (.slice aj n cj)] w0 fun e w' => ∃ ra rc xa xc jb jc tb h xs u a P, e = .returned (.tuple #[rv (.slice ra n rc) (.slice xa m xc) now (.slice (some ⟨jb, 0, none⟩) n jc), .slice (some ⟨tb, 0, none⟩) n n, .bool true]) ∧
      Tied w0.heap.size R X J (.slice ra n rc) (.slice xa m xc) jb jc tb h xs u a P (fun g => rn R J g n) (fun _ => false) w' ∧ Below w0.heap.size w0 w') := (by have := C1.out; simp only [o3, hn, hm] at this; exact this)
  simp only [o3, hn, hm]
  clear hh hw0 hk o1 o2 o3 hn hm F C1
  go_enter Try.func9, Try.ntmps9
  go_wp2_with fail
  rw [← HW0.out]
  refine (Calls.mono C2.out) ?_
  rintro e w1 ⟨ra, rc, xa, xc, jb, jc, tb, h, xs, u, a, P, rfl, t1, b1⟩
  have B1 : Below w.heap.size w w1 := B0.out.trans (b1.mono B0.out.size)
  have Y1 := Y0.out.on b1
  obtain ⟨w2, hw2⟩ : ∃ y, y = w1.alloc (.cells #[.slice ra n rc, .slice xa m xc, .int .i64 now, .slice (some ⟨jb, 0, none⟩) n jc] 30) := ⟨_, rfl⟩
  have HW2 : Hid (w2 = w1.alloc (.cells #[.slice ra n rc, .slice xa m xc, .int .i64 now, .slice (some ⟨jb, 0, none⟩) n jc] 30)) := hw2
  obtain ⟨nb, hnb⟩ : ∃ nb, nb = w1.heap.size := ⟨_, rfl⟩
  have HNB : Hid (nb = w1.heap.size) := hnb
  have bA : Below w1.heap.size w1 w2 := by rw [hw2]; exact (Below.refl _ _).alloc (Nat.le_refl _) _
  have B2 : Hid (Below w.heap.size w w2) := B1.trans (bA.mono B1.size)
  have X2 : Hid (Bx w2 (w.heap.size + 1) nb (.slice ra n rc) (.slice xa m xc) now (.slice (some ⟨jb, 0, none⟩) n jc)) := ⟨by rw [hw2, hnb]; exact Bl.new w1 30 _, (Y1.on bA).res, by have := Y1.res.lt; omega⟩
  have A2 : Hid (Bl w2 w.heap.size 30 #[.slice ar n cr, .slice ax m cx, .int .i64 now, .slice aj n cj]) := (Y1.on bA).arg
  have T2 : Hid (Tied w0.heap.size R X J (.slice ra n rc) (.slice xa m xc) jb jc tb h xs u a P (fun g => rn R J g n) (fun _ => false) w2) := t1.on bA
  have NB0 : Hid (w.heap.size + 1 < nb) := (by have := Y1.res.lt; show _ < _; omega)
  clear hw2 hnb bA B1 Y1 t1 b1 y0 y1 y2 y3 HW0 C2 B0 Y0
  go_upto_region 4 with fail
  rw [← HW2.out, ← HNB.out]
  clear HW2 HNB
  have IN : Hid (∀ w, Calls Try.prog 29 #[.int .i64 ((i : Int) + 1), .int .i64 1, .int .i64 (n : Int)] w fun e w' => e = .returned (.bool (decide (1 ≤ (i : Int) + 1) && decide ((i : Int) + 1 ≤ (n : Int)))) ∧ w' = w) := fun w => Lists.win_any ((i : Int) + 1) 1 n w
  have hin : i < n := h4
  have hb : (decide (1 ≤ (i : Int) + 1) && decide ((i : Int) + 1 ≤ (n : Int))) = true := by rw [Bool.and_eq_true, decide_eq_true_eq, decide_eq_true_eq]; omega
  rw [hb] at IN
  have hkR : i < R.length := by rw [HN.out]; exact hin
  have hkJ : i < J.length := by rw [HJ.out]; exact hin
  have tk0 := T2.out.task i hkR
  obtain ⟨_, _, t4, t5, _⟩ := T2.out.cells i hkR
  obtain ⟨j0, j1, f0', f1'⟩ := T2.out.job i hkJ
  have i0 : (0 : Int) ≤ (i : Int) := by omega
  have i1 : (i : Int) < (n : Int) := by omega
  have ib : (i : Int) ≤ 60 := by omega
  have wi : IntKind.i64.wrap (i : Int) = (i : Int) := IntWalk.i64_in _ (by omega)
  have hs2 : (hw J i != 1) = true := by simpa using h5
  clear hb h4
  go_wp2_with fail
  refine (IN.out _).mono ?_
  rintro e w3 ⟨rfl, hw3⟩
  subst w3
  obtain ⟨⟨c0, c1, c2, c3⟩, ⟨z0, z1, z2, z3⟩, ⟨f0, f1, f2, f3⟩⟩ := X2.out.s
  have nne := X2.out.ne
  go_wp2_with fail
  refine bodyPost_ret (v := .tuple #[rv (.slice ra n rc) (.slice xa m xc) now (.slice (some ⟨jb, 0, none⟩) n jc), .bool false]) (by simp [results, Try.results9, go_sem, z0, z1, z2, z3]) rfl ⟨ra, rc, xa, xc, some ⟨jb, 0, none⟩, jc, rfl, ⟨xs, ?_⟩, bel4 B2.out (by omega) _ _ _ _⟩
  have q := (T2.out.box (kb4 w2 (w.heap.size + 1) (.slice ra n rc) (.slice xa m xc) (.int .i64 now) (.slice (some ⟨jb, 0, none⟩) n jc)) X2.out.res.ty).ro
  rw [HJ.out] at q
  exact ro_down q (by rw [Z0.out]; exact Nat.le_add_right _ 2)

set_option maxHeartbeats 4000000 in
set_option maxRecDepth 20000 in
theorem irep_end (R : Tk.Ls) (X : List Int) (now : Int) (J : Jb.Ls) (vr vx vj : Value) (i : Nat) (ok : Bool) (w : World) (hh : RR w vr vx vj R X J) (hk : okR R X now J = true) (h4 : i < J.length) (h5 : hw J i = 1) :
    Calls Try.prog 9 #[rv vr vx now vj, .int .i64 ((i : Int) + 1), .bool ok] w fun e w' => ∃ ra rc xa xc ja jc, e = .returned (.tuple #[rv (.slice ra R.length rc) (.slice xa X.length xc) now (.slice ja J.length jc), .bool true]) ∧ (∃ xs, RO w' w.heap.size (.slice ra R.length rc) (.slice xa X.length xc) (.slice ja J.length jc) xs R X (js J i (ez ok (tr J i) (Tk.cz R i 3)) (tr J i))) ∧ Below w.heap.size w w' := by
  obtain ⟨ar, cr, er⟩ := hh.1.form
  obtain ⟨ax, cx, ex⟩ := hh.2.1.form
  obtain ⟨aj, cj, ej⟩ := hh.2.2.form
  obtain ⟨w0, hw0⟩ : ∃ w0, w0 = (w.alloc (.cells #[vr, vx, .int .i64 now, vj] 30)).alloc (.cells #[nilS, nilS, .int .i64 0, nilS] 30) := ⟨_, rfl⟩
  have HW0 : Hid (w0 = (w.alloc (.cells #[vr, vx, .int .i64 now, vj] 30)).alloc (.cells #[nilS, nilS, .int .i64 0, nilS] 30)) := hw0
  have B0 : Hid (Below w.heap.size w w0) := (by show Below _ _ _; rw [hw0]; exact ((Below.refl _ _).alloc (Nat.le_refl _) _).alloc (by simp) _)
  have Y0 : Hid (Hd w0 w.heap.size vr vx now vj) := (by show Hd _ _ _ _ _ _; rw [hw0]; exact Hd.new w vr vx now vj)
  have Z0 : Hid (w0.heap.size = w.heap.size + 2) := (by show _ = _; rw [hw0]; simp)
  have C1 : Hid (Calls Try.prog 28 #[rv vr vx now vj] w0 fun e w' => ∃ ra rc xa xc jb jc tb h xs u a P, e = .returned (.tuple #[rv (.slice ra R.length rc) (.slice xa X.length xc) now (.slice (some ⟨jb, 0, none⟩) J.length jc), .slice (some ⟨tb, 0, none⟩) R.length R.length, .bool true]) ∧
      Tied w0.heap.size R X J (.slice ra R.length rc) (.slice xa X.length xc) jb jc tb h xs u a P (fun g => rn R J g R.length) (fun _ => false) w' ∧ Below w0.heap.size w0 w') := tied_yes R X now J vr vx vj w0 (hh.on B0.out) hk
  obtain ⟨y0, y1, y2, y3⟩ := Y0.out.s
  obtain ⟨o1, o2, o3⟩ := okR_parts hk
  have F := fit_of o1
  have HF : Hid (Fit R X) := F
  have n60 := F.r60
  have n1 := F.r1
  have now0 : 0 ≤ now ∧ now ≤ 1000000000000 := by have h2 := o2; rw [inn_eq, Bool.and_eq_true, decide_eq_true_eq, decide_eq_true_eq] at h2; exact h2
  subst er ex ej
  obtain ⟨n, hn⟩ : ∃ n, R.length = n := ⟨_, rfl⟩
  obtain ⟨m, hm⟩ : ∃ m, X.length = m := ⟨_, rfl⟩
  have HN : Hid (R.length = n) := hn
  have HM : Hid (X.length = m) := hm
  have HJ : Hid (J.length = n) := o3.trans hn
  have HOK : Hid (okR R X now J = true) := hk
  have JB : Hid (∀ i, i < n → 0 ≤ tr J i ∧ tr J i ≤ 5) := fun i hi => jok_bd hk i (by omega)
  simp only [o3, hn, hm] at y0 y1 y2 y3 HW0 Y0 n60 n1 h4
  have C2 : Hid (Calls Try.prog 28 #[rv (.slice ar n cr) (.slice ax m cx) now (.slice aj n cj)] w0 fun e w' => ∃ ra rc xa xc jb jc tb h xs u a P, e = .returned (.tuple #[rv (.slice ra n rc) (.slice xa m xc) now (.slice (some ⟨jb, 0, none⟩) n jc), .slice (some ⟨tb, 0, none⟩) n n, .bool true]) ∧
      Tied w0.heap.size R X J (.slice ra n rc) (.slice xa m xc) jb jc tb h xs u a P (fun g => rn R J g n) (fun _ => false) w' ∧ Below w0.heap.size w0 w') := (by have := C1.out; simp only [o3, hn, hm] at this; exact this)
  simp only [o3, hn, hm]
  clear hh hw0 hk o1 o2 o3 hn hm F C1
  go_enter Try.func9, Try.ntmps9
  go_wp2_with fail
  rw [← HW0.out]
  refine (Calls.mono C2.out) ?_
  rintro e w1 ⟨ra, rc, xa, xc, jb, jc, tb, h, xs, u, a, P, rfl, t1, b1⟩
  have B1 : Below w.heap.size w w1 := B0.out.trans (b1.mono B0.out.size)
  have Y1 := Y0.out.on b1
  obtain ⟨w2, hw2⟩ : ∃ y, y = w1.alloc (.cells #[.slice ra n rc, .slice xa m xc, .int .i64 now, .slice (some ⟨jb, 0, none⟩) n jc] 30) := ⟨_, rfl⟩
  have HW2 : Hid (w2 = w1.alloc (.cells #[.slice ra n rc, .slice xa m xc, .int .i64 now, .slice (some ⟨jb, 0, none⟩) n jc] 30)) := hw2
  obtain ⟨nb, hnb⟩ : ∃ nb, nb = w1.heap.size := ⟨_, rfl⟩
  have HNB : Hid (nb = w1.heap.size) := hnb
  have bA : Below w1.heap.size w1 w2 := by rw [hw2]; exact (Below.refl _ _).alloc (Nat.le_refl _) _
  have B2 : Hid (Below w.heap.size w w2) := B1.trans (bA.mono B1.size)
  have X2 : Hid (Bx w2 (w.heap.size + 1) nb (.slice ra n rc) (.slice xa m xc) now (.slice (some ⟨jb, 0, none⟩) n jc)) := ⟨by rw [hw2, hnb]; exact Bl.new w1 30 _, (Y1.on bA).res, by have := Y1.res.lt; omega⟩
  have A2 : Hid (Bl w2 w.heap.size 30 #[.slice ar n cr, .slice ax m cx, .int .i64 now, .slice aj n cj]) := (Y1.on bA).arg
  have T2 : Hid (Tied w0.heap.size R X J (.slice ra n rc) (.slice xa m xc) jb jc tb h xs u a P (fun g => rn R J g n) (fun _ => false) w2) := t1.on bA
  have NB0 : Hid (w.heap.size + 1 < nb) := (by have := Y1.res.lt; show _ < _; omega)
  clear hw2 hnb bA B1 Y1 t1 b1 y0 y1 y2 y3 HW0 C2 B0 Y0
  go_upto_region 4 with fail
  rw [← HW2.out, ← HNB.out]
  clear HW2 HNB
  have IN : Hid (∀ w, Calls Try.prog 29 #[.int .i64 ((i : Int) + 1), .int .i64 1, .int .i64 (n : Int)] w fun e w' => e = .returned (.bool (decide (1 ≤ (i : Int) + 1) && decide ((i : Int) + 1 ≤ (n : Int)))) ∧ w' = w) := fun w => Lists.win_any ((i : Int) + 1) 1 n w
  have hin : i < n := h4
  have hb : (decide (1 ≤ (i : Int) + 1) && decide ((i : Int) + 1 ≤ (n : Int))) = true := by rw [Bool.and_eq_true, decide_eq_true_eq, decide_eq_true_eq]; omega
  rw [hb] at IN
  have hkR : i < R.length := by rw [HN.out]; exact hin
  have hkJ : i < J.length := by rw [HJ.out]; exact hin
  have tk0 := T2.out.task i hkR
  obtain ⟨_, _, t4, t5, _⟩ := T2.out.cells i hkR
  obtain ⟨j0, j1, f0', f1'⟩ := T2.out.job i hkJ
  have i0 : (0 : Int) ≤ (i : Int) := by omega
  have i1 : (i : Int) < (n : Int) := by omega
  have ib : (i : Int) ≤ 60 := by omega
  have wi : IntKind.i64.wrap (i : Int) = (i : Int) := IntWalk.i64_in _ (by omega)
  have hs2 : (hw J i != 1) = false := by simpa using h5
  have HE : Hid (∀ W, W.cell? ⟨P i, 4, none⟩ = some (.int .i64 (Tk.cz R i 3)) → W.cell? ⟨P i, 5, none⟩ = some (.pointer (some ⟨jb, i * 2, none⟩)) → W.cell? ⟨jb, i * 2, none⟩ = some (.int .i64 (hw J i)) → W.cell? ⟨jb, i * 2 + 1, none⟩ = some (.int .i64 (tr J i)) → W.frozen? ⟨jb, i * 2, none⟩ = false → Calls Try.prog 30 #[.pointer (some ⟨P i, 0, none⟩), .bool ok] W fun e w' => e = .returned (.tuple #[]) ∧ ∃ q, w' = (W.drewN q).setCell ⟨jb, i * 2, none⟩ (.int .i64 (ez ok (tr J i) (Tk.cz R i 3)))) := fun W a1 a2 a3 a4 a5 => end_any W (P i) jb (i * 2) ok (hw J i) (tr J i) (Tk.cz R i 3) a1 a2 a3 a4 a5
  have ec := HE.out w2 t4 t5 j0 j1 f0'
  clear hb h4 HE
  have EC : Hid (Calls Try.prog 30 #[.pointer (some ⟨P i, 0, none⟩), .bool ok] w2 fun e w' => e = .returned (.tuple #[]) ∧ ∃ q, w' = (w2.drewN q).setCell ⟨jb, i * 2, none⟩ (.int .i64 (ez ok (tr J i) (Tk.cz R i 3)))) := ec
  clear ec
  obtain ⟨zz, hzz⟩ : ∃ z, ez ok (tr J i) (Tk.cz R i 3) = z := ⟨_, rfl⟩
  have HZZ : Hid (ez ok (tr J i) (Tk.cz R i 3) = zz) := hzz
  rw [hzz] at EC
  clear hzz
  go_wp2_with fail
  refine (IN.out _).mono ?_
  rintro e w3 ⟨rfl, hw3⟩
  subst w3
  go_wp2_with fail
  refine (Calls.mono EC.out) ?_
  rintro e w4 ⟨rfl, q, hw4⟩
  have bD : Below w2.heap.size w2 (w2.drewN q) := below_drewN (Below.refl _ _) q
  have TD := T2.out.on bD
  have K4 : KB (fun y => y = jb) (w2.drewN q) w4 := by rw [hw4]; exact kb_set _ jb _ _
  have hj4 : Jb.Row w4 w0.heap.size (.slice (some ⟨jb, 0, none⟩) J.length jc) (js J i zz (tr J i)) := by rw [hw4]; exact jrow_set0 TD.ro.2 hkJ zz
  have T4 : Hid (Tied w0.heap.size R X (js J i zz (tr J i)) (.slice ra n rc) (.slice xa m xc) jb jc tb h xs u a P (fun g => rn R J g n) (fun _ => false) w4) := TD.jobs K4 (js_len _ _ _ _) hj4
  have X4 : Hid (Bx w4 (w.heap.size + 1) nb (.slice ra n rc) (.slice xa m xc) now (.slice (some ⟨jb, 0, none⟩) n jc)) := (X2.out.on bD).off (e := 34) K4 (jrow_ty TD.ro.2) (by decide)
  have B4 : Hid (Below w.heap.size w w4) := (by
    have hlo := (TD.ro.bs jb (Or.inr rfl)).1
    have hz := Z0.out
    exact (below_drewN B2.out q).trans (K4.below (below_drewN B2.out q).size (fun b hb => by have hb' : b = jb := hb; omega)))
  clear hw4 bD TD K4 hj4 T2 X2 B2 tk0 t4 t5 j0 j1 f0' f1' EC
  obtain ⟨⟨c0, c1, c2, c3⟩, ⟨z0, z1, z2, z3⟩, ⟨f0, f1, f2, f3⟩⟩ := X4.out.s
  have nne := X4.out.ne
  go_wp2_with fail
  refine bodyPost_ret (v := .tuple #[rv (.slice ra n rc) (.slice xa m xc) now (.slice (some ⟨jb, 0, none⟩) n jc), .bool true]) (by simp [results, Try.results9, go_sem, z0, z1, z2, z3]) rfl ⟨ra, rc, xa, xc, some ⟨jb, 0, none⟩, jc, rfl, ⟨xs, ?_⟩, bel4 B4.out (by omega) _ _ _ _⟩
  have q := (T4.out.box (kb4 w4 (w.heap.size + 1) (.slice ra n rc) (.slice xa m xc) (.int .i64 now) (.slice (some ⟨jb, 0, none⟩) n jc)) X4.out.res.ty).ro
  rw [js_len, HJ.out] at q
  rw [HZZ.out]
  exact ro_down q (by rw [Z0.out]; exact Nat.le_add_right _ 2)
end Go.Proofs.Ytfhpomfdkpfooaa.Ty
