/- TickRun: the program. -/
import Derived.Test.YtfhpomfdkpfooaaIc
import Derived.BigQuiet
namespace Go.Proofs.Ytfhpomfdkpfooaa.Ty
open Go.ChangeShapes Go.WideShapes Go.ChangeAt Go.RowKit
open Go.Proofs.Ytfhpomfdkpfooaa.Lists Go.Proofs.Ytfhpomfdkpfooaa.Tm Go.Proofs.Ytfhpomfdkpfooaa.Rk Go.Proofs.Ytfhpomfdkpfooaa.Ru Go.Proofs.Ytfhpomfdkpfooaa.Al

def nw (now tn : Int) : Int := now + if 1000000000000 - now < tn then 1000000000000 - now else tn
theorem nw_bd {now tn : Int} (h : 0 ≤ now ∧ now ≤ 1000000000000) (ht : 0 ≤ tn) : now ≤ nw now tn ∧ 0 ≤ nw now tn ∧ nw now tn ≤ 1000000000000 := by
  unfold nw
  split <;> omega
def isL (R : Tk.Ls) (J : Jb.Ls) (a b : Int) (i : Nat) : Bool := decide (0 < Tk.cz R i 2) && (hw J i != 2) && inn (Tk.cz R i 2) a (b - 1)
/-- the late of the first k -/
def lts (R : Tk.Ls) (J : Jb.Ls) (a b : Int) : Nat → List Int
  | 0 => []
  | k + 1 => if isL R J a b k = true then lts R J a b k ++ [(k : Int) + 1] else lts R J a b k
theorem lts_len (R : Tk.Ls) (J : Jb.Ls) (a b : Int) : ∀ k, (lts R J a b k).length ≤ k
  | 0 => by simp [lts]
  | k + 1 => by
    have := lts_len R J a b k
    unfold lts
    split
    · simp; exact this
    · omega
theorem lts_yes {R : Tk.Ls} {J : Jb.Ls} {a b : Int} {k : Nat} (h : isL R J a b k = true) : lts R J a b (k + 1) = lts R J a b k ++ [(k : Int) + 1] := by rw [lts, if_pos h]
theorem lts_no {R : Tk.Ls} {J : Jb.Ls} {a b : Int} {k : Nat} (h : isL R J a b k = false) : lts R J a b (k + 1) = lts R J a b k := by rw [lts, if_neg (by simp [h])]
theorem bx_now {wr : World} {hr nb : Nat} {r x : Value} {now : Int} {j : Value} (t : Bx wr hr nb r x now j) (z : Int) : Bx (wr.setCell ⟨nb, 2, none⟩ (.int .i64 z)) hr nb r x z j :=
  ⟨t.box.set 2 _, t.res.kb (kb_set wr nb 2 _) (fun e => t.ne e.symm), t.ne⟩

set_option maxHeartbeats 2000000 in
theorem itick_no (R : Tk.Ls) (X : List Int) (now : Int) (J : Jb.Ls) (vr vx vj : Value) (tn : Int) (w : World) (hh : RR w vr vx vj R X J) (hk : okR R X now J = false) :
    Calls Try.prog 13 #[rv vr vx now vj, .int .i64 tn] w fun e w' => e = .returned (.tuple #[rv nilS nilS 0 nilS, nilS]) ∧ Below w.heap.size w w' := by
  obtain ⟨ar, cr, er⟩ := hh.1.form
  obtain ⟨ax, cx, ex⟩ := hh.2.1.form
  obtain ⟨aj, cj, ej⟩ := hh.2.2.form
  obtain ⟨w0, hw0⟩ : ∃ w0, w0 = (w.alloc (.cells #[vr, vx, .int .i64 now, vj] 30)).alloc (.cells #[nilS, nilS, .int .i64 0, nilS] 30) := ⟨_, rfl⟩
  have HW0 : Hid (w0 = (w.alloc (.cells #[vr, vx, .int .i64 now, vj] 30)).alloc (.cells #[nilS, nilS, .int .i64 0, nilS] 30)) := hw0
  have B0 : Hid (Below w.heap.size w w0) := (by show Below _ _ _; rw [hw0]; exact ((Below.refl _ _).alloc (Nat.le_refl _) _).alloc (by simp) _)
  have Y0 : Hid (Hd w0 w.heap.size vr vx now vj) := (by show Hd _ _ _ _ _ _; rw [hw0]; exact Hd.new w vr vx now vj)
  have Z0 : Hid (w0.heap.size = w.heap.size + 2) := (by show _ = _; rw [hw0]; simp)
  have C1 : Hid (Calls Try.prog 28 #[rv vr vx now vj] w0 fun e w' => e = .returned noRun ∧ Below w0.heap.size w0 w') := tied_no R X now J vr vx vj w0 (hh.on B0.out) hk
  obtain ⟨y0, y1, y2, y3⟩ := Y0.out.s
  subst er ex ej
  generalize R.length = n at *
  generalize X.length = m at *
  generalize J.length = k at *
  clear hh hw0 hk
  go_enter Try.func13, Try.ntmps13
  go_wp2_with fail
  rw [← HW0.out]
  refine (Calls.mono C1.out) ?_
  rintro e w1 ⟨rfl, hb⟩
  have B1 : Hid (Below w.heap.size w w1) := B0.out.trans (hb.mono B0.out.size)
  have Y1 : Hid (Hd w1 w.heap.size (.slice ar n cr) (.slice ax m cx) now (.slice aj k cj)) := Y0.out.on hb
  have BA : Hid (Below w.heap.size w (w1.alloc (.cells #[nilS, nilS, .int .i64 0, nilS] 30))) := B1.out.alloc B1.out.size _
  clear y0 y1 y2 y3 hb HW0 Y0 C1
  have rl := Y1.out.res.lt
  have rne : ¬ w.heap.size + 1 = w1.heap.size := by omega
  have z0 : w1.cell? ⟨w.heap.size + 1, 0, none⟩ = some nilS := (Y1.out.res.cell 0).trans rfl
  have z1 : w1.cell? ⟨w.heap.size + 1, 1, none⟩ = some nilS := (Y1.out.res.cell 1).trans rfl
  have z2 : w1.cell? ⟨w.heap.size + 1, 2, none⟩ = some (.int .i64 0) := (Y1.out.res.cell 2).trans rfl
  have z3 : w1.cell? ⟨w.heap.size + 1, 3, none⟩ = some nilS := (Y1.out.res.cell 3).trans rfl
  have f0 := Y1.out.res.fz 0
  have f1 := Y1.out.res.fz 1
  have f2 := Y1.out.res.fz 2
  have f3 := Y1.out.res.fz 3
  go_wp2_with fail
  have QB : Bl (((((w1.setCell ⟨w.heap.size + 1, 0, none⟩ nilS).setCell ⟨w.heap.size + 1, 1, none⟩ nilS).setCell ⟨w.heap.size + 1, 2, none⟩ (.int .i64 0)).setCell ⟨w.heap.size + 1, 3, none⟩ nilS).alloc (.cells #[nilS, nilS, .int .i64 0, nilS] 30)) (w.heap.size + 1) 30 z35 := (bl_set4 Y1.out.res _ _ _ _).on ((Below.refl _ _).alloc (Nat.le_refl _) _)
  have BB : Below w.heap.size w (((((w1.setCell ⟨w.heap.size + 1, 0, none⟩ nilS).setCell ⟨w.heap.size + 1, 1, none⟩ nilS).setCell ⟨w.heap.size + 1, 2, none⟩ (.int .i64 0)).setCell ⟨w.heap.size + 1, 3, none⟩ nilS).alloc (.cells #[nilS, nilS, .int .i64 0, nilS] 30)) := (bel4 B1.out (Nat.le_succ _) _ _ _ _).alloc (bel4 B1.out (Nat.le_succ _) _ _ _ _).size _
  generalize (((((w1.setCell ⟨w.heap.size + 1, 0, none⟩ nilS).setCell ⟨w.heap.size + 1, 1, none⟩ nilS).setCell ⟨w.heap.size + 1, 2, none⟩ (.int .i64 0)).setCell ⟨w.heap.size + 1, 3, none⟩ nilS).alloc (.cells #[nilS, nilS, .int .i64 0, nilS] 30)) = W at QB BB ⊢
  have q0 : W.cell? ⟨w.heap.size + 1, 0, none⟩ = some nilS := (QB.cell 0).trans rfl
  have q1 : W.cell? ⟨w.heap.size + 1, 1, none⟩ = some nilS := (QB.cell 1).trans rfl
  have q2 : W.cell? ⟨w.heap.size + 1, 2, none⟩ = some (.int .i64 0) := (QB.cell 2).trans rfl
  have q3 : W.cell? ⟨w.heap.size + 1, 3, none⟩ = some nilS := (QB.cell 3).trans rfl
  exact bodyPost_ret (v := .tuple #[rv nilS nilS 0 nilS, nilS]) (by simp [results, Try.results13, go_sem, q0, q1, q2, q3]) rfl ⟨rfl, BB⟩

set_option maxHeartbeats 4000000 in
set_option maxRecDepth 20000 in
theorem itick_neg (R : Tk.Ls) (X : List Int) (now : Int) (J : Jb.Ls) (vr vx vj : Value) (tn : Int) (w : World) (hh : RR w vr vx vj R X J) (hk : okR R X now J = true) (h4 : tn < 0) :
    Calls Try.prog 13 #[rv vr vx now vj, .int .i64 tn] w fun e w' => e = .returned (.tuple #[rv nilS nilS 0 nilS, nilS]) ∧ Below w.heap.size w w' := by
  obtain ⟨ar, cr, er⟩ := hh.1.form
  obtain ⟨ax, cx, ex⟩ := hh.2.1.form
  obtain ⟨aj, cj, ej⟩ := hh.2.2.form
  obtain ⟨w0, hw0⟩ : ∃ w0, w0 = (w.alloc (.cells #[vr, vx, .int .i64 now, vj] 30)).alloc (.cells #[nilS, nilS, .int .i64 0, nilS] 30) := ⟨_, rfl⟩
  have HW0 : Hid (w0 = (w.alloc (.cells #[vr, vx, .int .i64 now, vj] 30)).alloc (.cells #[nilS, nilS, .int .i64 0, nilS] 30)) := hw0
  have B0 : Hid (Below w.heap.size w w0) := (by show Below _ _ _; rw [hw0]; exact ((Below.refl _ _).alloc (Nat.le_refl _) _).alloc (by simp) _)
  have Y0 : Hid (Hd w0 w.heap.size vr vx now vj) := (by show Hd _ _ _ _ _ _; rw [hw0]; exact Hd.new w vr vx now vj)
  have Z0 : Hid (w0.heap.size = w.heap.size + 2) := (by show _ = _; rw [hw0]; simp)
  have C1 : Hid (Calls Try.prog 28 #[rv vr vx now vj] w0 fun e w' => ∃ ra rc xa xc jb jc tb h xs u a P, e = .returned (.tuple #[rv (.slice ra R.length rc) (.slice xa X.length xc) now (.slice (some ⟨jb, 0, none⟩) J.length jc), .slice (some ⟨tb, 0, none⟩) R.length R.length, .bool true]) ∧
      Tied w0.heap.size R X J (.slice ra R.length rc) (.slice xa X.length xc) jb jc tb h xs u a P (fun g => rn R J g R.length) (fun _ => false) w' ∧ Below w0.heap.size w0 w') := tied_yes R X now J vr vx vj w0 (hh.on B0.out) hk
  obtain ⟨y0, y1, y2, y3⟩ := Y0.out.s
  obtain ⟨o1, o2, o3⟩ := okR_parts hk
  have F := fit_of o1
  have HF : Hid (Fit R X) := F
  have n60 := F.r60
  have n1 := F.r1
  have now0 : 0 ≤ now ∧ now ≤ 1000000000000 := by have h2 := o2; rw [inn_eq, Bool.and_eq_true, decide_eq_true_eq, decide_eq_true_eq] at h2; exact h2
  subst er ex ej
  obtain ⟨n, hn⟩ : ∃ n, R.length = n := ⟨_, rfl⟩
  obtain ⟨m, hm⟩ : ∃ m, X.length = m := ⟨_, rfl⟩
  have HN : Hid (R.length = n) := hn
  have HM : Hid (X.length = m) := hm
  have HJ : Hid (J.length = n) := o3.trans hn
  have HOK : Hid (okR R X now J = true) := hk
  have JB : Hid (∀ i, i < n → 0 ≤ tr J i ∧ tr J i ≤ 5) := fun i hi => jok_bd hk i (by omega)
  simp only [o3, hn, hm] at y0 y1 y2 y3 HW0 Y0 n60 n1
  have C2 : Hid (Calls Try.prog 28 #[rv (.slice ar n cr) (.slice ax m cx) now (.slice aj n cj)] w0 fun e w' => ∃ ra rc xa xc jb jc tb h xs u a P, e = .returned (.tuple #[rv (.slice ra n rc) (.slice xa m xc) now (.slice (some ⟨jb, 0, none⟩) n jc), .slice (some ⟨tb, 0, none⟩) n n, .bool true]) ∧
      Tied w0.heap.size R X J (.slice ra n rc) (.slice xa m xc) jb jc tb h xs u a P (fun g => rn R J g n) (fun _ => false) w' ∧ Below w0.heap.size w0 w') := (by have := C1.out; simp only [o3, hn, hm] at this; exact this)
  simp only [o3, hn, hm]
  clear hh hw0 hk o1 o2 o3 hn hm F C1
  go_enter Try.func13, Try.ntmps13
  go_wp2_with fail
  rw [← HW0.out]
  refine (Calls.mono C2.out) ?_
  rintro e w1 ⟨ra, rc, xa, xc, jb, jc, tb, h, xs, u, a, P, rfl, t1, b1⟩
  have B1 : Below w.heap.size w w1 := B0.out.trans (b1.mono B0.out.size)
  have Y1 := Y0.out.on b1
  obtain ⟨w2, hw2⟩ : ∃ y, y = w1.alloc (.cells #[.slice ra n rc, .slice xa m xc, .int .i64 now, .slice (some ⟨jb, 0, none⟩) n jc] 30) := ⟨_, rfl⟩
  have HW2 : Hid (w2 = w1.alloc (.cells #[.slice ra n rc, .slice xa m xc, .int .i64 now, .slice (some ⟨jb, 0, none⟩) n jc] 30)) := hw2
  obtain ⟨nb, hnb⟩ : ∃ nb, nb = w1.heap.size := ⟨_, rfl⟩
  have HNB : Hid (nb = w1.heap.size) := hnb
  have bA : Below w1.heap.size w1 w2 := by rw [hw2]; exact (Below.refl _ _).alloc (Nat.le_refl _) _
  have B2 : Hid (Below w.heap.size w w2) := B1.trans (bA.mono B1.size)
  have X2 : Hid (Bx w2 (w.heap.size + 1) nb (.slice ra n rc) (.slice xa m xc) now (.slice (some ⟨jb, 0, none⟩) n jc)) := ⟨by rw [hw2, hnb]; exact Bl.new w1 30 _, (Y1.on bA).res, by have := Y1.res.lt; omega⟩
  have A2 : Hid (Bl w2 w.heap.size 30 #[.slice ar n cr, .slice ax m cx, .int .i64 now, .slice aj n cj]) := (Y1.on bA).arg
  have T2 : Hid (Tied w0.heap.size R X J (.slice ra n rc) (.slice xa m xc) jb jc tb h xs u a P (fun g => rn R J g n) (fun _ => false) w2) := t1.on bA
  have NB0 : Hid (w.heap.size + 1 < nb) := (by have := Y1.res.lt; show _ < _; omega)
  clear hw2 hnb bA B1 Y1 t1 b1 y0 y1 y2 y3 HW0 C2 B0 Y0
  go_upto_region 2 with fail
  rw [← HW2.out, ← HNB.out]
  clear HW2 HNB
  obtain ⟨⟨c0, c1, c2, c3⟩, ⟨z0, z1, z2, z3⟩, ⟨f0, f1, f2, f3⟩⟩ := X2.out.s
  go_wp2_with fail
  exact bodyPost_ret (v := .tuple #[rv nilS nilS 0 nilS, nilS]) (by simp [results, Try.results13, go_sem, z0, z1, z2, z3]) rfl ⟨rfl, bel4 B2.out (Nat.le_succ _) _ _ _ _⟩

set_option maxHeartbeats 4000000 in
set_option maxRecDepth 20000 in
theorem itick_yes (R : Tk.Ls) (X : List Int) (now : Int) (J : Jb.Ls) (vr vx vj : Value) (tn : Int) (w : World) (hh : RR w vr vx vj R X J) (hk : okR R X now J = true) (h4 : 0 ≤ tn) :
    Calls Try.prog 13 #[rv vr vx now vj, .int .i64 tn] w fun e w' => ∃ ra rc xa xc ja jc la lc, e = .returned (.tuple #[rv (.slice ra R.length rc) (.slice xa X.length xc) (nw now tn) (.slice ja J.length jc), .slice la (lts R J now (nw now tn) R.length).length lc]) ∧ (∃ xs, RO w' w.heap.size (.slice ra R.length rc) (.slice xa X.length xc) (.slice ja J.length jc) xs R X J ∧ w'.ownsRow w.heap.size 2 1 (.slice la (lts R J now (nw now tn) R.length).length lc) (lts R J now (nw now tn) R.length).length (ints (lts R J now (nw now tn) R.length)) ∧ ∀ g, RB (.slice ra R.length rc) (.slice xa X.length xc) (.slice ja J.length jc) xs R.length g → (Value.slice la (lts R J now (nw now tn) R.length).length lc).ownBlock ≠ some g) ∧ Below w.heap.size w w' := by
  obtain ⟨ar, cr, er⟩ := hh.1.form
  obtain ⟨ax, cx, ex⟩ := hh.2.1.form
  obtain ⟨aj, cj, ej⟩ := hh.2.2.form
  obtain ⟨w0, hw0⟩ : ∃ w0, w0 = (w.alloc (.cells #[vr, vx, .int .i64 now, vj] 30)).alloc (.cells #[nilS, nilS, .int .i64 0, nilS] 30) := ⟨_, rfl⟩
  have HW0 : Hid (w0 = (w.alloc (.cells #[vr, vx, .int .i64 now, vj] 30)).alloc (.cells #[nilS, nilS, .int .i64 0, nilS] 30)) := hw0
  have B0 : Hid (Below w.heap.size w w0) := (by show Below _ _ _; rw [hw0]; exact ((Below.refl _ _).alloc (Nat.le_refl _) _).alloc (by simp) _)
  have Y0 : Hid (Hd w0 w.heap.size vr vx now vj) := (by show Hd _ _ _ _ _ _; rw [hw0]; exact Hd.new w vr vx now vj)
  have Z0 : Hid (w0.heap.size = w.heap.size + 2) := (by show _ = _; rw [hw0]; simp)
  have C1 : Hid (Calls Try.prog 28 #[rv vr vx now vj] w0 fun e w' => ∃ ra rc xa xc jb jc tb h xs u a P, e = .returned (.tuple #[rv (.slice ra R.length rc) (.slice xa X.length xc) now (.slice (some ⟨jb, 0, none⟩) J.length jc), .slice (some ⟨tb, 0, none⟩) R.length R.length, .bool true]) ∧
      Tied w0.heap.size R X J (.slice ra R.length rc) (.slice xa X.length xc) jb jc tb h xs u a P (fun g => rn R J g R.length) (fun _ => false) w' ∧ Below w0.heap.size w0 w') := tied_yes R X now J vr vx vj w0 (hh.on B0.out) hk
  obtain ⟨y0, y1, y2, y3⟩ := Y0.out.s
  obtain ⟨o1, o2, o3⟩ := okR_parts hk
  have F := fit_of o1
  have HF : Hid (Fit R X) := F
  have n60 := F.r60
  have n1 := F.r1
  have now0 : 0 ≤ now ∧ now ≤ 1000000000000 := by have h2 := o2; rw [inn_eq, Bool.and_eq_true, decide_eq_true_eq, decide_eq_true_eq] at h2; exact h2
  subst er ex ej
  obtain ⟨n, hn⟩ : ∃ n, R.length = n := ⟨_, rfl⟩
  obtain ⟨m, hm⟩ : ∃ m, X.length = m := ⟨_, rfl⟩
  have HN : Hid (R.length = n) := hn
  have HM : Hid (X.length = m) := hm
  have HJ : Hid (J.length = n) := o3.trans hn
  have HOK : Hid (okR R X now J = true) := hk
  have JB : Hid (∀ i, i < n → 0 ≤ tr J i ∧ tr J i ≤ 5) := fun i hi => jok_bd hk i (by omega)
  simp only [o3, hn, hm] at y0 y1 y2 y3 HW0 Y0 n60 n1
  have C2 : Hid (Calls Try.prog 28 #[rv (.slice ar n cr) (.slice ax m cx) now (.slice aj n cj)] w0 fun e w' => ∃ ra rc xa xc jb jc tb h xs u a P, e = .returned (.tuple #[rv (.slice ra n rc) (.slice xa m xc) now (.slice (some ⟨jb, 0, none⟩) n jc), .slice (some ⟨tb, 0, none⟩) n n, .bool true]) ∧
      Tied w0.heap.size R X J (.slice ra n rc) (.slice xa m xc) jb jc tb h xs u a P (fun g => rn R J g n) (fun _ => false) w' ∧ Below w0.heap.size w0 w') := (by have := C1.out; simp only [o3, hn, hm] at this; exact this)
  simp only [o3, hn, hm]
  clear hh hw0 hk o1 o2 o3 hn hm F C1
  go_enter Try.func13, Try.ntmps13
  go_wp2_with fail
  rw [← HW0.out]
  refine (Calls.mono C2.out) ?_
  rintro e w1 ⟨ra, rc, xa, xc, jb, jc, tb, h, xs, u, a, P, rfl, t1, b1⟩
  have B1 : Below w.heap.size w w1 := B0.out.trans (b1.mono B0.out.size)
  have Y1 := Y0.out.on b1
  obtain ⟨w2, hw2⟩ : ∃ y, y = w1.alloc (.cells #[.slice ra n rc, .slice xa m xc, .int .i64 now, .slice (some ⟨jb, 0, none⟩) n jc] 30) := ⟨_, rfl⟩
  have HW2 : Hid (w2 = w1.alloc (.cells #[.slice ra n rc, .slice xa m xc, .int .i64 now, .slice (some ⟨jb, 0, none⟩) n jc] 30)) := hw2
  obtain ⟨nb, hnb⟩ : ∃ nb, nb = w1.heap.size := ⟨_, rfl⟩
  have HNB : Hid (nb = w1.heap.size) := hnb
  have bA : Below w1.heap.size w1 w2 := by rw [hw2]; exact (Below.refl _ _).alloc (Nat.le_refl _) _
  have B2 : Hid (Below w.heap.size w w2) := B1.trans (bA.mono B1.size)
  have X2 : Hid (Bx w2 (w.heap.size + 1) nb (.slice ra n rc) (.slice xa m xc) now (.slice (some ⟨jb, 0, none⟩) n jc)) := ⟨by rw [hw2, hnb]; exact Bl.new w1 30 _, (Y1.on bA).res, by have := Y1.res.lt; omega⟩
  have A2 : Hid (Bl w2 w.heap.size 30 #[.slice ar n cr, .slice ax m cx, .int .i64 now, .slice aj n cj]) := (Y1.on bA).arg
  have T2 : Hid (Tied w0.heap.size R X J (.slice ra n rc) (.slice xa m xc) jb jc tb h xs u a P (fun g => rn R J g n) (fun _ => false) w2) := t1.on bA
  have NB0 : Hid (w.heap.size + 1 < nb) := (by have := Y1.res.lt; show _ < _; omega)
  clear hw2 hnb bA B1 Y1 t1 b1 y0 y1 y2 y3 HW0 C2 B0 Y0
  go_upto_region 2 with fail
  rw [← HW2.out, ← HNB.out]
  clear HW2 HNB
  obtain ⟨⟨c0, c1, c2, c3⟩, ⟨z0, z1, z2, z3⟩, ⟨f0, f1, f2, f3⟩⟩ := X2.out.s
  have a2 : w2.cell? ⟨w.heap.size, 2, none⟩ = some (.int .i64 now) := (A2.out.cell 2).trans rfl
  have fb2 := X2.out.box.fz 2
  have h4' : ¬ tn < 0 := by omega
  have nbw := nw_bd now0 h4
  go_upto_region 5 with fail
  have NE : Hid ((now + if 1000000000000 - now < tn then 1000000000000 - now else tn) = nw now tn) := (rfl : (now + if 1000000000000 - now < tn then 1000000000000 - now else tn) = nw now tn)
  rw [NE.out]
  clear NE
  generalize (if 1000000000000 - now < tn then 1000000000000 - now else tn) = mz
  obtain ⟨H0, hH0⟩ : ∃ y, y = w2.heap.size := ⟨_, rfl⟩
  have L0 : Hid (∀ g, RB (.slice ra n rc) (.slice xa m xc) (.slice (some ⟨jb, 0, none⟩) J.length jc) xs R.length g → g < H0) := fun g hg => (by rw [hH0]; exact (T2.out.ro.bs g hg).2)
  have LH : Hid (w.heap.size ≤ H0) := (by rw [hH0]; exact B2.out.size)
  have S3 : Hid (Tied w0.heap.size R X J (.slice ra n rc) (.slice xa m xc) jb jc tb h xs u a P (fun g => rn R J g n) (fun _ => false) (w2.setCell ⟨nb, 2, none⟩ (.int .i64 (nw now tn))) ∧ Bx (w2.setCell ⟨nb, 2, none⟩ (.int .i64 (nw now tn))) (w.heap.size + 1) nb (.slice ra n rc) (.slice xa m xc) (nw now tn) (.slice (some ⟨jb, 0, none⟩) n jc) ∧ Bx (w2.setCell ⟨nb, 2, none⟩ (.int .i64 (nw now tn))) (w.heap.size + 1) w.heap.size (.slice ar n cr) (.slice ax m cx) now (.slice aj n cj) ∧ World.ownsRow (w2.setCell ⟨nb, 2, none⟩ (.int .i64 (nw now tn))) H0 2 1 (.slice none 0 0) (lts R J now (nw now tn) 0).length (ints (lts R J now (nw now tn) 0)) ∧ Below w.heap.size w (w2.setCell ⟨nb, 2, none⟩ (.int .i64 (nw now tn))) ∧ H0 ≤ ((w2.setCell ⟨nb, 2, none⟩ (.int .i64 (nw now tn)))).heap.size) := (by
    have ks := kb_set w2 nb 2 (.int .i64 (nw now tn))
    refine ⟨T2.out.box ks X2.out.box.ty, bx_now X2.out _, ?_, ⟨rfl, .inl ⟨rfl, rfl⟩⟩, B2.out.setCell (p := ⟨nb, 2, none⟩) (by show w.heap.size ≤ nb; have := NB0.out; omega) _, by rw [hH0]; exact ks.size⟩
    exact ⟨A2.out.kb ks (fun e => by have := NB0.out; omega), (bx_now X2.out (nw now tn)).res, by omega⟩)
  have IN : Hid (∀ z w, Calls Try.prog 29 #[.int .i64 z, .int .i64 now, .int .i64 (nw now tn - 1)] w fun e w' => e = .returned (.bool (inn z now (nw now tn - 1))) ∧ w' = w) := fun z w => i_in _ _ _ w
  generalize w2.setCell ⟨nb, 2, none⟩ (.int .i64 (nw now tn)) = w3 at S3 ⊢
  clear hH0 T2 X2 A2 B2 NB0 c0 c1 c2 c3 z0 z1 z2 z3 f0 f1 f2 f3 a2 fb2 h4'
  obtain ⟨i0, hi, hz0, hz1, hz2⟩ := info_parts Lists.Try.info2
  go_upto_region 7 with fail
  go_loopw [36, 9] (fun c v wr => ∃ (k : Nat) (la : Option Addr) (lc : Nat), k ≤ n ∧ c = .int .i64 k ∧ v = (.slice la (lts R J now (nw now tn) k).length lc) ∧ Hid (Tied w0.heap.size R X J (.slice ra n rc) (.slice xa m xc) jb jc tb h xs u a P (fun g => rn R J g n) (fun _ => false) wr ∧ Bx wr (w.heap.size + 1) nb (.slice ra n rc) (.slice xa m xc) (nw now tn) (.slice (some ⟨jb, 0, none⟩) n jc) ∧ Bx wr (w.heap.size + 1) w.heap.size (.slice ar n cr) (.slice ax m cx) now (.slice aj n cj) ∧ World.ownsRow wr H0 2 1 (.slice la (lts R J now (nw now tn) k).length lc) (lts R J now (nw now tn) k).length (ints (lts R J now (nw now tn) k)) ∧ Below w.heap.size w wr ∧ H0 ≤ (wr).heap.size)) (fun c _ _ => n - (intOf c).toNat)
  case atStart => exact ⟨0, none, 0, Nat.zero_le _, rfl, rfl, S3⟩
  case round =>
    clear S3
    obtain ⟨k, la, lc, hk, rfl, rfl, S⟩ := hrel
    obtain ⟨⟨c0, c1, c2, c3⟩, ⟨z0, z1, z2, z3⟩, ⟨f0, f1, f2, f3⟩⟩ := S.out.2.1.s
    have a2 : wr.cell? ⟨w.heap.size, 2, none⟩ = some (.int .i64 now) := (S.out.2.2.1.box.cell 2).trans rfl
    by_cases hlt : k < n
    · have hkR : k < R.length := by rw [HN.out]; exact hlt
      have hkJ : k < J.length := by rw [HJ.out]; exact hlt
      have tk := S.out.1.task k hkR
      obtain ⟨t0, t3, _, t5, _⟩ := S.out.1.cells k hkR
      obtain ⟨j0, _⟩ := S.out.1.job k hkJ
      have i0' : (0 : Int) ≤ (k : Int) := by omega
      have i1 : (k : Int) < (n : Int) := by omega
      have hl := lts_len R J now (nw now tn) k
      have SQ : Hid (∀ q, Tied w0.heap.size R X J (.slice ra n rc) (.slice xa m xc) jb jc tb h xs u a P (fun g => rn R J g n) (fun _ => false) (wr.drewN q) ∧ Bx (wr.drewN q) (w.heap.size + 1) nb (.slice ra n rc) (.slice xa m xc) (nw now tn) (.slice (some ⟨jb, 0, none⟩) n jc) ∧ Bx (wr.drewN q) (w.heap.size + 1) w.heap.size (.slice ar n cr) (.slice ax m cx) now (.slice aj n cj) ∧ World.ownsRow (wr.drewN q) H0 2 1 (.slice la (lts R J now (nw now tn) k).length lc) (lts R J now (nw now tn) k).length (ints (lts R J now (nw now tn) k)) ∧ Below w.heap.size w (wr.drewN q) ∧ H0 ≤ ((wr.drewN q)).heap.size) := fun q => (by
        obtain ⟨s1, s2, s3, s4, s5, s6⟩ := S.out
        have bq : Below wr.heap.size wr (wr.drewN q) := below_drewN (Below.refl _ _) q
        exact ⟨s1.on bq, s2.on bq, s3.on bq, Tk1.row_on s4 bq, below_drewN s5 q, Nat.le_trans s6 bq.size⟩)
      clear z0 z1 z2 z3 f0 f1 f2 f3 S c0 c1 c3
      by_cases hd : 0 < Tk.cz R k 2
      · by_cases hs : hw J k = 2
        · have hs2 : (hw J k != 2) = false := by simpa using hs
          have HL : Hid (lts R J now (nw now tn) (k + 1) = lts R J now (nw now tn) k) := lts_no (by simp [isL, hs])
          clear hs
          go_wp2_with fail
          go_quiet (fail)
          go_wp2_with fail
          go_roundw
          case rel => exact ⟨k + 1, la, lc, by omega, by go_num, by rw [HL.out], by rw [HL.out]; exact SQ.out _⟩
          case measure => simp [intOf]; omega
        · have hs2 : (hw J k != 2) = true := by simpa using hs
          have C3 : Hid (∀ w, Calls Try.prog 29 #[.int .i64 (Tk.cz R k 2), .int .i64 now, .int .i64 (nw now tn - 1)] w fun e w' => e = .returned (.bool (inn (Tk.cz R k 2) now (nw now tn - 1))) ∧ w' = w) := IN.out _
          cases hin : inn (Tk.cz R k 2) now (nw now tn - 1)
          · have HL : Hid (lts R J now (nw now tn) (k + 1) = lts R J now (nw now tn) k) := lts_no (by simp [isL, hin])
            rw [hin] at C3
            clear hs hin
            go_wp2_with fail
            go_quiet ((go_at_call 29; exact Calls.quiet_of_same (C3.out _)))
            go_wp2_with fail
            go_roundw
            case rel => exact ⟨k + 1, la, lc, by omega, by go_num, by rw [HL.out], by rw [HL.out]; exact SQ.out _⟩
            case measure => simp [intOf]; omega
          · have HL : Hid (lts R J now (nw now tn) (k + 1) = lts R J now (nw now tn) k ++ [(k : Int) + 1]) := lts_yes (by simp [isL, hin, hd, hs])
            rw [hin] at C3
            clear hs hin
            go_wp2_with fail
            go_quiet ((go_at_call 29; exact Calls.quiet_of_same (C3.out _)))
            go_upto_region 10 with fail
            have SS : Hid (Tied w0.heap.size R X J (.slice ra n rc) (.slice xa m xc) jb jc tb h xs u a P (fun g => rn R J g n) (fun _ => false) (wr.drewN nq) ∧ Bx (wr.drewN nq) (w.heap.size + 1) nb (.slice ra n rc) (.slice xa m xc) (nw now tn) (.slice (some ⟨jb, 0, none⟩) n jc) ∧ Bx (wr.drewN nq) (w.heap.size + 1) w.heap.size (.slice ar n cr) (.slice ax m cx) now (.slice aj n cj) ∧ World.ownsRow (wr.drewN nq) H0 2 1 (.slice la (lts R J now (nw now tn) k).length lc) (lts R J now (nw now tn) k).length (ints (lts R J now (nw now tn) k)) ∧ Below w.heap.size w (wr.drewN nq) ∧ H0 ≤ ((wr.drewN nq)).heap.size) := SQ.out nq
            have t0q : (wr.drewN nq).cell? ⟨P k, 0, none⟩ = some (.int .i64 ((k : Int) + 1)) := t0
            clear SQ
            generalize wr.drewN nq = wq at SS t0q ⊢
            clear tk t0 t3 t5 j0 a2 c2
            have OA : Hid ((wq.alloc (.cells #[.int .i64 ((k : Int) + 1)] 2)).ownsRow H0 2 1 (.slice la (lts R J now (nw now tn) k).length lc) (lts R J now (nw now tn) k).length (ints (lts R J now (nw now tn) k))) := SS.out.2.2.2.1.alloc _
            have ZA : Hid (H0 ≤ (wq.alloc (.cells #[.int .i64 ((k : Int) + 1)] 2)).heap.size) := (by have := SS.out.2.2.2.2.2; show _ ≤ _; simp; omega)
            obtain ⟨len, hlen⟩ : ∃ y, (lts R J now (nw now tn) k).length = y := ⟨_, rfl⟩
            rw [hlen] at hl
            have HLN : Hid ((lts R J now (nw now tn) k).length = len) := hlen
            simp only [hlen] at OA ⊢
            clear hlen
            go_wp2_with (at_builtin; refine wpList_append_own _ rfl _ _ 25 rfl H0 2 i0 (.int .i64 0) 1 8 Try.underlying25 hi hz0 hz1 hz2 rfl (by decide) _ _ _ rfl OA.out ⟨wq.heap.size, 0, none⟩ 1 1 [.int .i64 ((k : Int) + 1)] rfl rfl ?c1 ?c2 ?c3 ?c4 ZA.out ?_)
            case c1 =>
              intro j u hj
              match j, hj with
              | 0, hj => simp at hj; subst hj; simp [Addr.add]
            case c2 => intro u hu; simp at hu; subst hu; rfl
            case c3 => unfold maxLen; omega
            case c4 => omega
            intro v5 w5 hown hgrow hnil5
            obtain ⟨g5, c5, rfl, p1, p2, p3, p4⟩ := Cp.row_some hown (by first | exact hnil5 | (intro e; have := hnil5.1 e; simp at this))
            have SN : Hid (Tied w0.heap.size R X J (.slice ra n rc) (.slice xa m xc) jb jc tb h xs u a P (fun g => rn R J g n) (fun _ => false) w5 ∧ Bx w5 (w.heap.size + 1) nb (.slice ra n rc) (.slice xa m xc) (nw now tn) (.slice (some ⟨jb, 0, none⟩) n jc) ∧ Bx w5 (w.heap.size + 1) w.heap.size (.slice ar n cr) (.slice ax m cx) now (.slice aj n cj) ∧ World.ownsRow w5 H0 2 1 (.slice (some ⟨g5, 0, none⟩) (len + 1) c5) (lts R J now (nw now tn) (k + 1)).length (ints (lts R J now (nw now tn) (k + 1))) ∧ Below w.heap.size w w5 ∧ H0 ≤ (w5).heap.size) := (by
              obtain ⟨s1, s2, s3, s4, s5, s6⟩ := SS.out
              have bA : Below wq.heap.size wq (wq.alloc (.cells #[.int .i64 ((k : Int) + 1)] 2)) := (Below.refl _ _).alloc (Nat.le_refl _) _
              refine ⟨(s1.on bA).grown OA.out hgrow L0.out, (s2.on bA).grown OA.out hgrow, (s3.on bA).grown OA.out hgrow, ?_, ?_, Nat.le_trans ZA.out hgrow.size⟩
              · rw [HL.out]
                simpa [ints, HLN.out] using hown
              · exact (s5.trans (bA.mono s5.size)).trans ((KB.of_grown (S := fun b => H0 ≤ b) hgrow (fun b hb => (OA.out.lt b hb).1)).below (Nat.le_trans s5.size bA.size) (fun b hb => Nat.le_trans LH.out hb)))
            have HL2 : Hid ((lts R J now (nw now tn) (k + 1)).length = len + 1) := (by show _ = _; rw [HL.out]; simp [HLN.out])
            clear hown hgrow hnil5 p1 p2 p3 p4 SS OA ZA t0q
            go_wp2_with fail
            go_roundw
            case rel => exact ⟨k + 1, some ⟨g5, 0, none⟩, c5, by omega, by go_num, by rw [HL2.out], by have q := SN; rw [HL2.out] at q ⊢; exact q⟩
            case measure => simp [intOf]; omega
      · have hd2 : decide (0 < Tk.cz R k 2) = false := by simpa using hd
        have HL : Hid (lts R J now (nw now tn) (k + 1) = lts R J now (nw now tn) k) := lts_no (by simp [isL, hd2])
        go_wp2_with fail
        go_quiet (fail)
        go_wp2_with fail
        go_roundw
        case rel => exact ⟨k + 1, la, lc, by omega, by go_num, by rw [HL.out], by rw [HL.out]; exact SQ.out _⟩
        case measure => simp [intOf]; omega
    · have ek : k = n := by omega
      subst ek
      have nne := S.out.2.1.ne
      have i1 : ¬ (k : Int) < (k : Int) := by omega
      clear a2
      go_wp2_with fail
      refine bodyPost_ret (v := .tuple #[rv (.slice ra k rc) (.slice xa m xc) (nw now tn) (.slice (some ⟨jb, 0, none⟩) k jc), (.slice la (lts R J now (nw now tn) k).length lc)]) (by simp [results, Try.results13, go_sem, z0, z1, z2, z3]) rfl ⟨ra, rc, xa, xc, some ⟨jb, 0, none⟩, jc, la, lc, rfl, ⟨xs, ?_, ?_, ?_⟩, bel4 S.out.2.2.2.2.1 (by omega) _ _ _ _⟩
      · have q := (S.out.1.box (kb4 wr (w.heap.size + 1) (.slice ra k rc) (.slice xa m xc) (.int .i64 (nw now tn)) (.slice (some ⟨jb, 0, none⟩) k jc)) S.out.2.1.res.ty).ro
        rw [HJ.out] at q
        exact ro_down q (by rw [Z0.out]; exact Nat.le_add_right _ 2)
      · refine Tk1.own_down (B := H0) ?_ LH.out
        exact row_kb S.out.2.2.2.1 (kb4 wr (w.heap.size + 1) _ _ _ _) (fun g hg e => (row_ty S.out.2.2.2.1 g hg).ne S.out.2.1.res.ty (by decide) e)
      · intro g hg e
        have h1 := (S.out.2.2.2.1.lt g e).1
        have h2 := L0.out g (by rw [HJ.out]; rw [HN.out]; exact hg)
        omega
end Go.Proofs.Ytfhpomfdkpfooaa.Ty
