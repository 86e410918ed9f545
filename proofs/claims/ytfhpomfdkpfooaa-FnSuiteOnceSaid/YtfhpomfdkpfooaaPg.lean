/- Runs in the program: what stands behind a run tied, while its jobs turn. -/
import Derived.Test.YtfhpomfdkpfooaaTp
namespace Go.Proofs.Ytfhpomfdkpfooaa.Ty
open Go.ChangeShapes Go.WideShapes Go.ChangeAt Go.RowKit
open Go.Proofs.Ytfhpomfdkpfooaa.Lists Go.Proofs.Ytfhpomfdkpfooaa.Tm Go.Proofs.Ytfhpomfdkpfooaa.Rk Go.Proofs.Ytfhpomfdkpfooaa.Ru Go.Proofs.Ytfhpomfdkpfooaa.Al

theorem okR_parts {R : Tk.Ls} {X : List Int} {now : Int} {J : Jb.Ls} (h : okR R X now J = true) : So.okS R X = true ∧ inn now 0 1000000000000 = true ∧ J.length = R.length := by
  unfold okR at h
  rw [Bool.and_eq_true, Bool.and_eq_true, Bool.and_eq_true] at h
  exact ⟨h.1.1, h.1.2.1, by simpa using h.1.2.2⟩
theorem tied_no (R : Tk.Ls) (X : List Int) (now : Int) (J : Jb.Ls) (vr vx vj : Value) (w : World) (hh : RR w vr vx vj R X J) (h : okR R X now J = false) :
    Calls Try.prog 28 #[rv vr vx now vj] w fun e w' => e = .returned noRun ∧ Below w.heap.size w w' := by
  cases h1 : So.okS R X
  · exact tied_no1 R X now J vr vx vj w hh h1
  cases h2 : inn now 0 1000000000000
  · exact tied_no2 R X now J vr vx vj w hh h1 h2
  by_cases h3 : J.length = R.length
  · refine (tied_go R X now J vr vx vj w hh h1 h2 h3).mono ?_
    rintro e w' ⟨hb, ⟨_, rfl⟩ | ⟨h4, _⟩⟩
    · exact ⟨rfl, hb⟩
    · rw [h] at h4; cases h4
  · exact tied_no3 R X now J vr vx vj w hh h1 h2 h3
/-- a run tied -/
structure Tied (B : Nat) (R : Tk.Ls) (X : List Int) (J : Jb.Ls) (r x : Value) (jb jc tb h : Nat) (xs : List Value) (u a : Nat → Value) (P : Nat → Nat) (run : Int → Int) (st : Nat → Bool) (wr : World) : Prop where
  ro : RO wr B r x (.slice (some ⟨jb, 0, none⟩) J.length jc) xs R X J
  td : Td wr (tb + 1) R X h jb u a P run st R.length
  trow : wr.ownsRow B 66 1 (.slice (some ⟨tb, 0, none⟩) R.length R.length) R.length (tmid P R.length R.length)
  hl : B ≤ h
theorem tied_yes (R : Tk.Ls) (X : List Int) (now : Int) (J : Jb.Ls) (vr vx vj : Value) (w : World) (hh : RR w vr vx vj R X J) (h : okR R X now J = true) :
    Calls Try.prog 28 #[rv vr vx now vj] w fun e w' => ∃ ra rc xa xc jb jc tb h xs u a P, e = .returned (.tuple #[rv (.slice ra R.length rc) (.slice xa X.length xc) now (.slice (some ⟨jb, 0, none⟩) J.length jc), .slice (some ⟨tb, 0, none⟩) R.length R.length, .bool true]) ∧
      Tied w.heap.size R X J (.slice ra R.length rc) (.slice xa X.length xc) jb jc tb h xs u a P (fun g => rn R J g R.length) (fun _ => false) w' ∧ Below w.heap.size w w' := by
  obtain ⟨h1, h2, h3⟩ := okR_parts h
  refine (tied_go R X now J vr vx vj w hh h1 h2 h3).mono ?_
  rintro e w' ⟨hb, ⟨h4, _⟩ | ⟨_, ra, rc, xa, xc, jb, jc, tb, hg, xs, u, a, P, he, q1, q2, q3, q4⟩⟩
  · rw [h] at h4; cases h4
  · exact ⟨ra, rc, xa, xc, jb, jc, tb, hg, xs, u, a, P, he, ⟨q1, q3, q4, q2⟩, hb⟩
section
variable {B : Nat} {R : Tk.Ls} {X : List Int} {J J' : Jb.Ls} {r x : Value} {jb jc tb h : Nat} {xs : List Value} {u a : Nat → Value} {P : Nat → Nat} {run run' : Int → Int} {st : Nat → Bool} {wr w' : World}
theorem Tied.kb {S : Nat → Prop} (t : Tied B R X J r x jb jc tb h xs u a P run st wr) (hb : KB S wr w') (hro : ∀ g, RB r x (.slice (some ⟨jb, 0, none⟩) J.length jc) xs R.length g → ¬ S g) (h69 : ∀ b, Ty wr b 65 → ¬ S b) (h95 : ∀ b, Ty wr b 99 → ¬ S b) (h65 : ∀ b, Ty wr b 66 → ¬ S b) : Tied B R X J r x jb jc tb h xs u a P run st w' :=
  ⟨t.ro.kb hb hro, t.td.kb hb h69 h95 (fun b _ hb' => h65 b hb'), row_kb t.trow hb (fun g hg => h65 g (row_ty t.trow g hg)), t.hl⟩
theorem Tied.on (t : Tied B R X J r x jb jc tb h xs u a P run st wr) (hb : Below wr.heap.size wr w') : Tied B R X J r x jb jc tb h xs u a P run st w' :=
  t.kb (S := fun _ => False) (KB.of_below hb) (fun _ _ y => y) (fun _ _ y => y) (fun _ _ y => y) (fun _ _ y => y)
/-- a block of a box (type 30) has turned -/
theorem Tied.box (t : Tied B R X J r x jb jc tb h xs u a P run st wr) {b : Nat} (hb : KB (fun y => y = b) wr w') (ht : Ty wr b 30) : Tied B R X J r x jb jc tb h xs u a P run st w' :=
  t.kb hb (fun g hg e => by
      obtain ⟨e', he', ht'⟩ := ro_ty t.ro g hg
      have h35 : e' ≠ 30 := by rcases he' with q | q | q <;> (rw [q]; decide)
      exact ht'.ne ht h35 e)
    (fun b' hb' e => hb'.ne ht (by decide) e) (fun b' hb' e => hb'.ne ht (by decide) e) (fun b' hb' e => hb'.ne ht (by decide) e)
/-- an own list of numbers has grown -/
theorem Tied.grown (t : Tied B R X J r x jb jc tb h xs u a P run st wr) {v : Value} {base n : Nat} {ys : List Value} (hv : wr.ownsRow base 2 1 v n ys) (hg : wr.grownBy w' v.ownBlock) (hro : ∀ g, RB r x (.slice (some ⟨jb, 0, none⟩) J.length jc) xs R.length g → g < base) : Tied B R X J r x jb jc tb h xs u a P run st w' :=
  t.kb (S := fun b => v.ownBlock = some b) (KB.of_grown hg (fun k hk => hk)) (fun g hg' e => by have := (hv.lt g e).1; have := hro g hg'; omega)
    (fun b hb e => hb.ne (row_ty hv b e) (by decide) rfl) (fun b hb e => hb.ne (row_ty hv b e) (by decide) rfl) (fun b hb e => hb.ne (row_ty hv b e) (by decide) rfl)
/-- jobs have turned in their place -/
theorem Tied.jobs (t : Tied B R X J r x jb jc tb h xs u a P run st wr) (hb : KB (fun y => y = jb) wr w') (hl : J'.length = J.length) (hj : Jb.Row w' B (.slice (some ⟨jb, 0, none⟩) J.length jc) J') : Tied B R X J' r x jb jc tb h xs u a P run st w' := by
  have ht := jrow_ty t.ro.2
  have q := ro_jobs t.ro hb hj
  rw [← hl] at q
  exact ⟨q, t.td.off (e := 34) hb ht (by decide), row_kb t.trow hb (fun g hg e => (row_ty t.trow g hg).ne ht (by decide) e), t.hl⟩
theorem Tied.job (t : Tied B R X J r x jb jc tb h xs u a P run st wr) (i : Nat) (hi : i < J.length) : wr.cell? ⟨jb, i * 2, none⟩ = some (.int .i64 (hw J i)) ∧ wr.cell? ⟨jb, i * 2 + 1, none⟩ = some (.int .i64 (tr J i)) ∧ wr.frozen? ⟨jb, i * 2, none⟩ = false ∧ wr.frozen? ⟨jb, i * 2 + 1, none⟩ = false :=
  ⟨(jrow_cell t.ro.2 i hi).1, (jrow_cell t.ro.2 i hi).2, jrow_fz t.ro.2 _, jrow_fz t.ro.2 _⟩
theorem Tied.task (t : Tied B R X J r x jb jc tb h xs u a P run st wr) (i : Nat) (hi : i < R.length) : wr.cell? ⟨tb, i, none⟩ = some (.pointer (some ⟨P i, 0, none⟩)) := by
  refine (t.trow.cellAt i (by omega)).trans ?_
  rw [tmid_at P _ _ i hi, if_pos hi]
theorem Tied.cells (t : Tied B R X J r x jb jc tb h xs u a P run st wr) (i : Nat) (hi : i < R.length) : wr.cell? ⟨P i, 0, none⟩ = some (.int .i64 ((i : Int) + 1)) ∧ wr.cell? ⟨P i, 3, none⟩ = some (.int .i64 (Tk.cz R i 2)) ∧ wr.cell? ⟨P i, 4, none⟩ = some (.int .i64 (Tk.cz R i 3)) ∧ wr.cell? ⟨P i, 5, none⟩ = some (.pointer (some ⟨jb, i * 2, none⟩)) ∧ wr.cell? ⟨P i, 7, none⟩ = some (.pointer (some ⟨h + 1 + (Tk.cz R i 1 - 1).toNat, 0, none⟩)) ∧ wr.cell? ⟨P i, 8, none⟩ = some (.bool (st i)) ∧ wr.frozen? ⟨P i, 8, none⟩ = false :=
  ⟨((t.td.tsk i hi).cell 0).trans rfl, ((t.td.tsk i hi).cell 3).trans rfl, ((t.td.tsk i hi).cell 4).trans rfl, ((t.td.tsk i hi).cell 5).trans rfl, ((t.td.tsk i hi).cell 7).trans rfl, ((t.td.tsk i hi).cell 8).trans rfl, (t.td.tsk i hi).fz 8⟩
end
/-- the two stores into one job -/
theorem two_jobs {w : World} {B jb jc : Nat} {J : Jb.Ls} (h : Jb.Row w B (.slice (some ⟨jb, 0, none⟩) J.length jc) J) (i : Nat) (hi : i < J.length) (s t : Int) :
    Jb.Row ((w.setCell ⟨jb, i * 2, none⟩ (.int .i64 s)).setCell ⟨jb, i * 2 + 1, none⟩ (.int .i64 t)) B (.slice (some ⟨jb, 0, none⟩) J.length jc) (js J i s t) ∧ KB (fun y => y = jb) w ((w.setCell ⟨jb, i * 2, none⟩ (.int .i64 s)).setCell ⟨jb, i * 2 + 1, none⟩ (.int .i64 t)) := by
  have h1 := jrow_set0 h hi s
  have hl : (js J i s (Jb.c1 J i)).length = J.length := js_len _ _ _ _
  rw [← hl] at h1
  have h2 := jrow_set1 (i := i) h1 (by rw [hl]; exact hi) t
  rw [hl] at h2
  have e : js (js J i s (Jb.c1 J i)) i (Jb.c0 (js J i s (Jb.c1 J i)) i) t = js J i s t := by
    rw [(js_hit hi).1]
    unfold js
    simp
  rw [e] at h2
  exact ⟨h2, (kb_set w jb (i * 2) _).trans (kb_set _ jb (i * 2 + 1) _)⟩
/-- what the first k tasks are behind a crash -/
def crs (J : Jb.Ls) (k : Nat) : Jb.Ls := (List.range J.length).map fun i => if i < k ∧ hw J i = 1 then (0, tr J i - 1) else (hw J i, tr J i)
theorem crs_len (J : Jb.Ls) (k : Nat) : (crs J k).length = J.length := by simp [crs]
theorem crs_at (J : Jb.Ls) (k i : Nat) (hi : i < J.length) : Jb.c0 (crs J k) i = (if i < k ∧ hw J i = 1 then 0 else hw J i) ∧ Jb.c1 (crs J k) i = (if i < k ∧ hw J i = 1 then tr J i - 1 else tr J i) := by
  unfold Jb.c0 Jb.c1
  have e : (crs J k).getD i (0, 0) = if i < k ∧ hw J i = 1 then (0, tr J i - 1) else (hw J i, tr J i) := by simp [crs, List.getD, hi]
  rw [e]
  split <;> exact ⟨rfl, rfl⟩
theorem ls_ext {A C : Jb.Ls} (hl : A.length = C.length) (h : ∀ i, i < A.length → Jb.c0 A i = Jb.c0 C i ∧ Jb.c1 A i = Jb.c1 C i) : A = C := by
  apply List.ext_getElem hl
  intro i h1 h2
  obtain ⟨a, b⟩ := h i h1
  unfold Jb.c0 at a
  unfold Jb.c1 at b
  simp [List.getD, h1, h2] at a b
  exact Prod.ext a b
theorem crs_zero (J : Jb.Ls) : crs J 0 = J := ls_ext (crs_len J 0) fun i hi => by
  rw [crs_len] at hi
  obtain ⟨a, b⟩ := crs_at J 0 i hi
  rw [a, b, if_neg (by omega), if_neg (by omega)]
  exact ⟨rfl, rfl⟩
theorem crs_yes {J : Jb.Ls} {k : Nat} (hk : k < J.length) (h : hw J k = 1) : js (crs J k) k 0 (tr J k - 1) = crs J (k + 1) := ls_ext (by rw [js_len, crs_len, crs_len]) fun i hi => by
  rw [js_len, crs_len] at hi
  obtain ⟨a, b⟩ := crs_at J (k + 1) i hi
  obtain ⟨c, d⟩ := crs_at J k i hi
  rw [a, b]
  by_cases e : i = k
  · subst e
    obtain ⟨x, y⟩ := js_hit (J := crs J i) (s := 0) (t := tr J i - 1) (by rw [crs_len]; exact hk)
    rw [x, y, if_pos ⟨by omega, h⟩, if_pos ⟨by omega, h⟩]
    exact ⟨rfl, rfl⟩
  · obtain ⟨x, y⟩ := js_off (J := crs J k) (i := k) (s := 0) (t := tr J k - 1) e
    rw [x, y, c, d]
    by_cases l : i < k ∧ hw J i = 1
    · rw [if_pos l, if_pos l, if_pos ⟨by omega, l.2⟩, if_pos ⟨by omega, l.2⟩]; exact ⟨rfl, rfl⟩
    · rw [if_neg l, if_neg l, if_neg (fun q => l ⟨by omega, q.2⟩), if_neg (fun q => l ⟨by omega, q.2⟩)]; exact ⟨rfl, rfl⟩
theorem crs_no {J : Jb.Ls} {k : Nat} (h : ¬ hw J k = 1) : crs J k = crs J (k + 1) := ls_ext (by rw [crs_len, crs_len]) fun i hi => by
  rw [crs_len] at hi
  obtain ⟨a, b⟩ := crs_at J (k + 1) i hi
  obtain ⟨c, d⟩ := crs_at J k i hi
  rw [a, b, c, d]
  by_cases l : i < k ∧ hw J i = 1
  · rw [if_pos l, if_pos l, if_pos ⟨by omega, l.2⟩, if_pos ⟨by omega, l.2⟩]; exact ⟨rfl, rfl⟩
  · have l2 : ¬ (i < k + 1 ∧ hw J i = 1) := fun q => by
      by_cases e : i = k
      · subst e; exact h q.2
      · exact l ⟨by omega, q.2⟩
    rw [if_neg l, if_neg l, if_neg l2, if_neg l2]; exact ⟨rfl, rfl⟩
theorem crs_same (J : Jb.Ls) (k : Nat) (hk : k < J.length) : Jb.c0 (crs J k) k = hw J k ∧ Jb.c1 (crs J k) k = tr J k := by
  obtain ⟨a, b⟩ := crs_at J k k hk
  rw [a, b, if_neg (by omega), if_neg (by omega)]
  exact ⟨rfl, rfl⟩
/-- the box of the run that is given back, and that of the answer -/
structure Bx (wr : World) (hr nb : Nat) (r x : Value) (now : Int) (j : Value) : Prop where
  box : Bl wr nb 30 #[r, x, .int .i64 now, j]
  res : Bl wr hr 30 z35
  ne : nb ≠ hr
theorem Bx.kb {S : Nat → Prop} {wr w' : World} {hr nb : Nat} {r x : Value} {now : Int} {j : Value} (t : Bx wr hr nb r x now j) (hb : KB S wr w') (h35 : ∀ b, Ty wr b 30 → ¬ S b) : Bx w' hr nb r x now j := ⟨t.box.kb hb (h35 _ t.box.ty), t.res.kb hb (h35 _ t.res.ty), t.ne⟩
theorem Bx.on {wr w' : World} {hr nb : Nat} {r x : Value} {now : Int} {j : Value} (t : Bx wr hr nb r x now j) (hb : Below wr.heap.size wr w') : Bx w' hr nb r x now j := ⟨t.box.on hb, t.res.on hb, t.ne⟩
theorem Bx.off {wr w' : World} {hr nb b : Nat} {e : TypeId} {r x : Value} {now : Int} {j : Value} (t : Bx wr hr nb r x now j) (hb : KB (fun y => y = b) wr w') (ht : Ty wr b e) (he : e ≠ 30) : Bx w' hr nb r x now j := t.kb hb (fun _ hb' e' => hb'.ne ht (Ne.symm he) e')
theorem Bx.grown {wr w' : World} {hr nb : Nat} {r x : Value} {now : Int} {j : Value} (t : Bx wr hr nb r x now j) {v : Value} {base n : Nat} {ys : List Value} (hv : wr.ownsRow base 2 1 v n ys) (hg : wr.grownBy w' v.ownBlock) : Bx w' hr nb r x now j :=
  t.kb (S := fun b => v.ownBlock = some b) (KB.of_grown hg (fun k hk => hk)) (fun b hb e => hb.ne (row_ty hv b e) (by decide) rfl)
theorem Bx.s {wr : World} {hr nb : Nat} {r x : Value} {now : Int} {j : Value} (t : Bx wr hr nb r x now j) : (wr.cell? ⟨nb, 0, none⟩ = some r ∧ wr.cell? ⟨nb, 1, none⟩ = some x ∧ wr.cell? ⟨nb, 2, none⟩ = some (.int .i64 now) ∧ wr.cell? ⟨nb, 3, none⟩ = some j) ∧ (wr.cell? ⟨hr, 0, none⟩ = some nilS ∧ wr.cell? ⟨hr, 1, none⟩ = some nilS ∧ wr.cell? ⟨hr, 2, none⟩ = some (.int .i64 0) ∧ wr.cell? ⟨hr, 3, none⟩ = some nilS) ∧ (wr.frozen? ⟨hr, 0, none⟩ = false ∧ wr.frozen? ⟨hr, 1, none⟩ = false ∧ wr.frozen? ⟨hr, 2, none⟩ = false ∧ wr.frozen? ⟨hr, 3, none⟩ = false) :=
  ⟨⟨(t.box.cell 0).trans rfl, (t.box.cell 1).trans rfl, (t.box.cell 2).trans rfl, (t.box.cell 3).trans rfl⟩, ⟨(t.res.cell 0).trans rfl, (t.res.cell 1).trans rfl, (t.res.cell 2).trans rfl, (t.res.cell 3).trans rfl⟩, ⟨t.res.fz 0, t.res.fz 1, t.res.fz 2, t.res.fz 3⟩⟩
end Go.Proofs.Ytfhpomfdkpfooaa.Ty
