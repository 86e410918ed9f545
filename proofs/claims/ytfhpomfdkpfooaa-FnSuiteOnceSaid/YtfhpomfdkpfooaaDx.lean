/- A run drawn, right or not: what is kept. -/
import Derived.Test.YtfhpomfdkpfooaaDr
namespace Go.Proofs.Ytfhpomfdkpfooaa.Ty
open Go.ChangeShapes Go.WideShapes Go.ChangeAt Go.RowKit
open Go.Proofs.Ytfhpomfdkpfooaa.Lists Go.Proofs.Ytfhpomfdkpfooaa.Tm Go.Proofs.Ytfhpomfdkpfooaa.Rk Go.Proofs.Ytfhpomfdkpfooaa.Ru Go.Proofs.Ytfhpomfdkpfooaa.Al Go.Proofs.Ytfhpomfdkpfooaa.Rd Go.Proofs.Ytfhpomfdkpfooaa.Cp

/-- a run lies apart from the blocks of S -/
def LY (S : Nat → Prop) (w : World) (vr vx vj : Value) (R : Tk.Ls) (X : List Int) (J : Jb.Ls) : Prop := ∀ w', KB S w w' → RR w' vr vx vj R X J
theorem LY.reads {S : Nat → Prop} {w : World} {vr vx vj : Value} {R : Tk.Ls} {X : List Int} {J : Jb.Ls} (h : LY S w vr vx vj R X J) : RR w vr vx vj R X J := h w (KB.refl _ _)
theorem LY.kb {S : Nat → Prop} {w w' : World} {vr vx vj : Value} {R : Tk.Ls} {X : List Int} {J : Jb.Ls} (h : LY S w vr vx vj R X J) (k : KB S w w') : LY S w' vr vx vj R X J := fun w'' k' => h w'' (k.trans k')
theorem LY.mono {S S' : Nat → Prop} {w : World} {vr vx vj : Value} {R : Tk.Ls} {X : List Int} {J : Jb.Ls} (h : LY S w vr vx vj R X J) (hs : ∀ b, S' b → S b) : LY S' w vr vx vj R X J := fun w' k => h w' (k.mono hs)
theorem LY.of {S : Nat → Prop} {B : Nat} {w : World} {vr vx vj : Value} {R : Tk.Ls} {X : List Int} {J : Jb.Ls} (h : MO w B vr vx vj R X J) (hs : ∀ b, S b → b < B ∨ w.heap.size ≤ b) : LY S w vr vx vj R X J := fun _ k => (mo_kb h k hs).reads
/-- a drawn run, right or not -/
structure RQ (r : Nat) (w : World) (nb : Nat) (vr vx vj : Value) (now : Int) (R : Tk.Ls) (X : List Int) (J : Jb.Ls) (wr : World) : Prop where
  rd : Rd r wr
  tu : Turn r w wr
  lo : w.heap.size < nb
  rb : Bl wr w.heap.size 30 zr
  bx : Bl wr nb 30 #[vr, vx, .int .i64 now, vj]
  ly : LY (fun b => b ≤ w.heap.size) wr vr vx vj R X J
  sj : J.length ≤ 60
theorem RD.len {r : Nat} {w : World} {nb : Nat} {vr vx vj : Value} {now : Int} {R : Tk.Ls} {X : List Int} {J : Jb.Ls} {wr : World} (h : RD r w nb vr vx vj now R X J wr) : (1 ≤ J.length ∧ J.length ≤ 60) ∧ 1 ≤ X.length := by
  obtain ⟨o1, _, o3, _⟩ := okR_iff.1 h.ok
  have F := fit_of o1
  have h1 := F.r1
  have h2 := F.r60
  have h3 := F.x1
  exact ⟨by omega, h3⟩
theorem RD.rq {r : Nat} {w : World} {nb : Nat} {vr vx vj : Value} {now : Int} {R : Tk.Ls} {X : List Int} {J : Jb.Ls} {wr : World} (h : RD r w nb vr vx vj now R X J wr) : RQ r w nb vr vx vj now R X J wr :=
  ⟨h.rd, h.tu, h.lo, h.rb, h.bx, LY.of h.mo (fun b hb => .inl (by omega)), h.len.1.2⟩
/-- the clock turned -/
theorem RD.now {r : Nat} {w : World} {nb : Nat} {vr vx vj : Value} {now : Int} {R : Tk.Ls} {X : List Int} {J : Jb.Ls} {wr : World} (h : RD r w nb vr vx vj now R X J wr) (hr : r < w.heap.size) (z : Int) : RQ r w nb vr vx vj z R X J (wr.setCell ⟨nb, 2, none⟩ (.int .i64 z)) := by
  have lo := h.lo
  have ks : KB (fun b => b = nb) wr (wr.setCell ⟨nb, 2, none⟩ (.int .i64 z)) := kb_set wr _ _ _
  exact ⟨Du.rd_kb h.rd ks (fun b hb => by omega), Du.kb_turn hr h.tu ks (fun b hb => by omega), lo, h.rb.kb ks (by omega), h.bx.set 2 _, LY.of (mo_box h.mo ks h.bx.ty) (fun b hb => .inl (by omega)), h.len.1.2⟩
/-- a job turned -/
theorem RD.job {r : Nat} {w : World} {nb jb jc : Nat} {vr vx : Value} {now : Int} {R : Tk.Ls} {X : List Int} {J J' : Jb.Ls} {wr w' : World} (h : RD r w nb vr vx (.slice (some ⟨jb, 0, none⟩) J.length jc) now R X J wr) (hr : r < w.heap.size) (ks : KB (fun b => b = jb) wr w') (hl : J'.length = J.length) (hj : Jb.Row w' (w.heap.size + 1) (.slice (some ⟨jb, 0, none⟩) J.length jc) J') :
    RQ r w nb vr vx (.slice (some ⟨jb, 0, none⟩) J.length jc) now R X J' w' := by
  have lo := h.lo
  have tj := jrow_ty h.mo.2.2
  have jl : w.heap.size + 1 ≤ jb := (h.mo.2.2.lt jb rfl).1
  exact ⟨Du.rd_kb h.rd ks (fun b hb => by omega), Du.kb_turn hr h.tu ks (fun b hb => by omega), lo, h.rb.kb ks (by omega), h.bx.kb ks (fun e => h.bx.ty.ne tj (by decide) e), LY.of (mo_jobs h.mo ks hj) (fun b hb => .inl (by omega)), by rw [hl]; exact h.len.1.2⟩
theorem tail_c0 (J : Jb.Ls) (i : Nat) : Jb.c0 J.tail i = Jb.c0 J (i + 1) ∧ Jb.c1 J.tail i = Jb.c1 J (i + 1) := by
  unfold Jb.c0 Jb.c1
  cases J with
  | nil => simp
  | cons a L => simp
/-- the first job struck -/
theorem RD.cut {r : Nat} {w : World} {nb jb jc : Nat} {vr vx : Value} {now : Int} {R : Tk.Ls} {X : List Int} {J : Jb.Ls} {wr : World} (h : RD r w nb vr vx (.slice (some ⟨jb, 0, none⟩) J.length jc) now R X J wr) (hr : r < w.heap.size) (v : Value) (hv : v = .slice (some ⟨jb, if jc = 1 then 0 else 2, none⟩) (J.length - 1) (jc - 1)) (hc : J.length ≤ jc ∧ jc ≤ maxLen) :
    RQ r w nb vr vx v now R X J.tail (wr.setCell ⟨nb, 3, none⟩ v) := by
  have lo := h.lo
  have hl := h.len.1
  have ks : KB (fun b => b = nb) wr (wr.setCell ⟨nb, 3, none⟩ v) := kb_set wr _ _ _
  have hm := mo_box h.mo ks h.bx.ty
  refine ⟨Du.rd_kb h.rd ks (fun b hb => by omega), Du.kb_turn hr h.tu ks (fun b hb => by omega), lo, h.rb.kb ks (by omega), h.bx.set 3 v, fun w' k => ?_, by simp; omega⟩
  have hm' := mo_kb hm k (fun b hb => .inl (by omega))
  refine ⟨hm'.1.reads, Lists.reads_row hm'.2.1, ?_⟩
  by_cases e : J.length = 1
  · have et : J.tail = [] := List.eq_nil_of_length_eq_zero (by simp; omega)
    exact Or.inl ⟨et, _, _, by rw [hv, e]⟩
  · refine Or.inr ⟨jb, 2, jc - 1, by rw [hv, if_neg (by omega)]; simp, by simp; omega, by omega, (jrow_ty hm'.2.2).lt, fun i hi => ?_⟩
    have hi' : i + 1 < J.length := by simp at hi; omega
    obtain ⟨c0, c1⟩ := jrow_cell hm'.2.2 (i + 1) hi'
    unfold Jb.Cs
    rw [(tail_c0 J i).1, (tail_c0 J i).2]
    exact ⟨by rw [show 2 + i * 2 = (i + 1) * 2 by omega]; exact c0, by rw [show 2 + i * 2 + 1 = (i + 1) * 2 + 1 by omega]; exact c1⟩
theorem ints_set (L : List Int) (z : Int) : (ints L).set 0 (.int .i64 z) = ints (L.set 0 z) := by
  cases L <;> rfl
/-- a number turned in a row of numbers -/
theorem irow_set {w : World} {B g : Nat} {u : Value} {L : List Int} (h : w.ownsRow B 2 1 u L.length (ints L)) (z : Int) : ∃ L', (w.setCell ⟨g, 0, none⟩ (.int .i64 z)).ownsRow B 2 1 u L'.length (ints L') := by
  by_cases e : u.ownBlock = some g
  · rcases row_cases h with ⟨hn, hu⟩ | ⟨b, cap, hu, _⟩
    · rw [hu] at e; simp [Value.ownBlock] at e
    · rw [hu] at e h
      simp [Value.ownBlock] at e
      subst e
      refine ⟨L.set 0 z, ?_⟩
      have := (h.stored 0 (.int .i64 z)).1
      rw [ints_set] at this
      rw [hu, List.length_set]
      exact this
  · exact ⟨L, row_kb h (kb_set w g 0 _) (fun b hb q => e (by rw [hb, q]))⟩
/-- the first limit turned -/
theorem RD.lim {r : Nat} {w : World} {nb xb xc : Nat} {vr vj : Value} {now : Int} {R : Tk.Ls} {X : List Int} {J : Jb.Ls} {wr : World} (h : RD r w nb vr (.slice (some ⟨xb, 0, none⟩) X.length xc) vj now R X J wr) (hr : r < w.heap.size) (z : Int) :
    ∃ R' X', R'.length = R.length ∧ X'.length = X.length ∧ RQ r w nb vr (.slice (some ⟨xb, 0, none⟩) X.length xc) vj now R' X' J (wr.setCell ⟨xb, 0, none⟩ (.int .i64 z)) := by
  have lo := h.lo
  have ks : KB (fun b => b = xb) wr (wr.setCell ⟨xb, 0, none⟩ (.int .i64 z)) := kb_set wr _ _ _
  obtain ⟨⟨xs, h1, h2⟩, h3, ys, h4, h5⟩ := h.mo
  have tx := row_ty h3 xb rfl
  have xl := (h3.lt xb rfl).1
  have H : ∀ i, ∃ L', i < R.length → ∃ u, xs[i * 4]? = some u ∧ (wr.setCell ⟨xb, 0, none⟩ (.int .i64 z)).ownsRow (w.heap.size + 1) 2 1 u L'.length (ints L') := fun i => by
    by_cases hi : i < R.length
    · obtain ⟨_, _, _, u, hu, hrow⟩ := h2 i hi
      obtain ⟨L', hL⟩ := irow_set (g := xb) hrow z
      exact ⟨L', fun _ => ⟨u, hu, hL⟩⟩
    · exact ⟨[], fun q => absurd q hi⟩
  obtain ⟨f, hf⟩ := Classical.axiomOfChoice H
  obtain ⟨R', hR⟩ : ∃ R' : Tk.Ls, R' = (List.range R.length).map fun i => ((fun j => Tk.cz R i j : Nat → Int), f i) := ⟨_, rfl⟩
  have lR : R'.length = R.length := by rw [hR]; simp
  have eR : ∀ i, i < R.length → (∀ j, Tk.cz R' i j = Tk.cz R i j) ∧ Tk.cl R' i = f i := fun i hi => by
    have : R'.getD i (fun _ => 0, []) = (fun j => Tk.cz R i j, f i) := by rw [hR]; simp [List.getD_eq_getElem?_getD, hi]
    exact ⟨fun j => by unfold Tk.cz; rw [this]; rfl, by unfold Tk.cl; rw [this]⟩
  have r1 : (wr.setCell ⟨xb, 0, none⟩ (.int .i64 z)).ownsRow (w.heap.size + 1) 50 4 vr R'.length xs := by rw [lR]; exact row_kb h1 ks (fun g hg e => (row_ty h1 g hg).ne tx (by decide) e)
  have r2 : Tk.Good (wr.setCell ⟨xb, 0, none⟩ (.int .i64 z)) (w.heap.size + 1) xs R' R'.length := fun i hi => by
    rw [lR] at hi
    obtain ⟨a1, a2, a3, _⟩ := h2 i hi
    obtain ⟨u, hu, hrow⟩ := hf i hi
    obtain ⟨e1, e2⟩ := eR i hi
    rw [e1, e1, e1, e2]
    exact ⟨a1, a2, a3, u, hu, hrow⟩
  have r3 : (wr.setCell ⟨xb, 0, none⟩ (.int .i64 z)).ownsRow (w.heap.size + 1) 2 1 (.slice (some ⟨xb, 0, none⟩) X.length xc) (X.set 0 z).length (ints (X.set 0 z)) := by
    have := (h3.stored 0 (.int .i64 z)).1
    rw [ints_set] at this
    rw [List.length_set]
    exact this
  have r4 : Jb.Row (wr.setCell ⟨xb, 0, none⟩ (.int .i64 z)) (w.heap.size + 1) vj J := ⟨ys, row_kb h4 ks (fun g hg e => (row_ty h4 g hg).ne tx (by decide) e), h5⟩
  refine ⟨R', X.set 0 z, lR, by simp, ⟨Du.rd_kb h.rd ks (fun b hb => by omega), Du.kb_turn hr h.tu ks (fun b hb => by omega), lo, h.rb.kb ks (by omega), h.bx.kb ks (fun e => h.bx.ty.ne tx (by decide) e), LY.of (B := w.heap.size + 1) ⟨⟨xs, r1, r2⟩, r3, r4⟩ (fun b hb => .inl (by omega)), h.len.1.2⟩⟩
/-- what a draw gives -/
def DL (r : Nat) (w : World) (vr vx vj : Value) (w' : World) : Prop := ∃ R X J, LY (fun b => b < w.heap.size) w' vr vx vj R X J ∧ J.length ≤ 60 ∧ Rd r w' ∧ Turn r w w'
theorem pick3 (z : Int) (h0 : 0 ≤ z) (h1 : z < 3) : ∃ q, ∀ W : World, (W.alloc (Obj.cells #[.int .i64 (-1), .int .i64 1000000000000, .int .i64 1000000000001] 2)).cell? ⟨W.heap.size, z.toNat, none⟩ = some (.int .i64 q) := by
  have : z = 0 ∨ z = 1 ∨ z = 2 := by omega
  rcases this with rfl | rfl | rfl
  · exact ⟨-1, fun W => by simp [go_sem]⟩
  · exact ⟨1000000000000, fun W => by simp [go_sem]⟩
  · exact ⟨1000000000001, fun W => by simp [go_sem]⟩
end Go.Proofs.Ytfhpomfdkpfooaa.Ty
