/- A suite drawn, right or not. -/
import Derived.Test.YtfhpomfdkpfooaaDv
import Derived.Deep.CutBlock
namespace Go.Proofs.Ytfhpomfdkpfooaa.Du
open Go.ChangeShapes Go.WideShapes Go.ChangeAt Go.RowKit
open Go.Proofs.Ytfhpomfdkpfooaa.Lists Go.Proofs.Ytfhpomfdkpfooaa.Tm Go.Proofs.Ytfhpomfdkpfooaa.Rk Go.Proofs.Ytfhpomfdkpfooaa.Ru Go.Proofs.Ytfhpomfdkpfooaa.Al Go.Proofs.Ytfhpomfdkpfooaa.Rd Go.Proofs.Ytfhpomfdkpfooaa.Ty Go.Proofs.Ytfhpomfdkpfooaa.Cp

/-- a suite lies apart from the blocks of S -/
def LS (S : Nat → Prop) (w : World) (sT sL : Value) (R : Tk.Ls) (X : List Int) : Prop := ∀ w', KB S w w' → Tk.Reads w' sT R ∧ Lists.Reads w' sL X
theorem LS.kb {S : Nat → Prop} {w w' : World} {sT sL : Value} {R : Tk.Ls} {X : List Int} (h : LS S w sT sL R X) (k : KB S w w') : LS S w' sT sL R X := fun w'' k' => h w'' (k.trans k')
theorem LS.of {S : Nat → Prop} {B : Nat} {w : World} {sT sL : Value} {R : Tk.Ls} {X : List Int} (h1 : Tk.Row w B sT R) (h2 : w.ownsRow B 2 1 sL X.length (ints X)) (hs : ∀ b, S b → b < B) : LS S w sT sL R X := fun _ k => ⟨(row_at h1 k hs).reads, Lists.reads_row (row_kb h2 k (fun g hg q => by have := (h2.lt g hg).1; have := hs g q; omega))⟩
structure SQ (r : Nat) (w : World) (nb : Nat) (sT sL : Value) (R : Tk.Ls) (X : List Int) (wr : World) : Prop where
  rd : Rd r wr
  tu : Turn r w wr
  lo : w.heap.size < nb
  rb : Bl wr w.heap.size 27 #[nilL, nilL]
  bx : Bl wr nb 27 #[sT, sL]
  rt : Tk.Row wr (w.heap.size + 1) sT R
  lx : wr.ownsRow (w.heap.size + 1) 2 1 sL X.length (ints X)
theorem SQ.turn {r : Nat} {w : World} {nb : Nat} {sT sL : Value} {R : Tk.Ls} {X : List Int} {wr w' : World} (h : SQ r w nb sT sL R X wr) (hr : r < w.heap.size) (k : Rd r w') (t : Turn r wr w') : SQ r w nb sT sL R X w' :=
  ⟨k, h.tu.trans t, h.lo, h.rb.kb (turn_kb t) (by omega), h.bx.kb (turn_kb t) (by have := h.lo; omega), row_at h.rt (turn_kb t) (fun b hb => by omega), row_kb h.lx (turn_kb t) (fun g hg q => by have := (h.lx.lt g hg).1; omega)⟩
theorem SQ.up {r : Nat} {w : World} {nb : Nat} {sT sL : Value} {R : Tk.Ls} {X : List Int} {wr w' : World} (h : SQ r w nb sT sL R X wr) (hr : r < w.heap.size) (hb : Below wr.heap.size wr w') : SQ r w nb sT sL R X w' :=
  h.turn hr (h.rd.kept hb h.rd.lt) (Turn.of hb (Nat.le_refl _) (Nat.le_of_lt h.rd.lt))
theorem SQ.drew {r : Nat} {w : World} {nb : Nat} {sT sL : Value} {R : Tk.Ls} {X : List Int} {wr : World} (h : SQ r w nb sT sL R X wr) (hr : r < w.heap.size) : SQ r w nb sT sL R X wr.drew := h.turn hr (h.rd.drewN 1) ((Turn.refl r wr).drewN 1)
theorem SQ.alloc {r : Nat} {w : World} {nb : Nat} {sT sL : Value} {R : Tk.Ls} {X : List Int} {wr : World} (h : SQ r w nb sT sL R X wr) (hr : r < w.heap.size) (o : Obj) : SQ r w nb sT sL R X (wr.alloc o) := h.up hr ((Below.refl _ _).alloc (Nat.le_refl _) _)
structure FQ (r : Nat) (w : World) (nb : Nat) (sT sL : Value) (R : Tk.Ls) (X : List Int) (wr : World) : Prop where
  tu : Turn r w wr
  lo : w.heap.size < nb
  rb : Bl wr w.heap.size 27 #[nilL, nilL]
  bx : Bl wr nb 27 #[sT, sL]
  ly : LS (fun b => b ≤ w.heap.size) wr sT sL R X
theorem SQ.fq {r : Nat} {w : World} {nb : Nat} {sT sL : Value} {R : Tk.Ls} {X : List Int} {wr : World} (h : SQ r w nb sT sL R X wr) : FQ r w nb sT sL R X wr := ⟨h.tu, h.lo, h.rb, h.bx, LS.of h.rt h.lx (fun b hb => by omega)⟩
theorem FQ.alloc {r : Nat} {w : World} {nb : Nat} {sT sL : Value} {R : Tk.Ls} {X : List Int} {wr : World} (h : FQ r w nb sT sL R X wr) (hr : r < w.heap.size) (o : Obj) : FQ r w nb sT sL R X (wr.alloc o) := by
  have bA : Below wr.heap.size wr (wr.alloc o) := (Below.refl _ _).alloc (Nat.le_refl _) _
  exact ⟨h.tu.alloc hr o, h.lo, h.rb.on bA, h.bx.on bA, h.ly.kb (KB.of_below bA)⟩
theorem ints_set (L : List Int) (z : Int) : (ints L).set 0 (.int .i64 z) = ints (L.set 0 z) := by
  cases L <;> rfl
theorem irow_set {w : World} {B g : Nat} {u : Value} {L : List Int} (h : w.ownsRow B 2 1 u L.length (ints L)) (z : Int) : ∃ L', (w.setCell ⟨g, 0, none⟩ (.int .i64 z)).ownsRow B 2 1 u L'.length (ints L') := by
  by_cases e : u.ownBlock = some g
  · rcases row_cases h with ⟨hn, hu⟩ | ⟨b, cap, hu, _⟩
    · rw [hu] at e; simp [Value.ownBlock] at e
    · rw [hu] at e h
      simp [Value.ownBlock] at e
      subst e
      refine ⟨L.set 0 z, ?_⟩
      have := (h.stored 0 (.int .i64 z)).1
      rw [ints_set] at this
      rw [hu, List.length_set]
      exact this
  · exact ⟨L, row_kb h (kb_set w g 0 _) (fun b hb q => e (by rw [hb, q]))⟩
/-- tasks again, whatever a number's row among theirs says now -/
theorem trow_of {w' : World} {B : Nat} {v : Value} {R : Tk.Ls} {xs' : List Value} (h1' : w'.ownsRow B 50 4 v R.length xs') (H : ∀ i, i < R.length → ∃ z1 z2 z3 u L, xs'[i * 4 + 1]? = some (.int .i64 z1) ∧ xs'[i * 4 + 2]? = some (.int .i64 z2) ∧ xs'[i * 4 + 3]? = some (.int .i64 z3) ∧ xs'[i * 4]? = some u ∧ w'.ownsRow B 2 1 u L.length (ints L)) : ∃ R', R'.length = R.length ∧ Tk.Row w' B v R' := by
  have H' : ∀ i, ∃ el : Tk.El, i < R.length → xs'[i * 4 + 1]? = some (.int .i64 (el.1 1)) ∧ xs'[i * 4 + 2]? = some (.int .i64 (el.1 2)) ∧ xs'[i * 4 + 3]? = some (.int .i64 (el.1 3)) ∧ ∃ u, xs'[i * 4]? = some u ∧ w'.ownsRow B 2 1 u el.2.length (ints el.2) := fun i => by
    by_cases hi : i < R.length
    · obtain ⟨z1, z2, z3, u, L, a1, a2, a3, a4, a5⟩ := H i hi
      exact ⟨(fun j => if j = 1 then z1 else if j = 2 then z2 else z3, L), fun _ => ⟨a1, a2, a3, u, a4, a5⟩⟩
    · exact ⟨(fun _ => 0, []), fun q => absurd q hi⟩
  obtain ⟨f, hf⟩ := Classical.axiomOfChoice H'
  obtain ⟨R', hR⟩ : ∃ R' : Tk.Ls, R' = (List.range R.length).map f := ⟨_, rfl⟩
  have lR : R'.length = R.length := by rw [hR]; simp
  have eR : ∀ i, i < R.length → R'.getD i (fun _ => 0, []) = f i := fun i hi => by rw [hR]; simp [List.getD_eq_getElem?_getD, hi]
  refine ⟨R', lR, xs', by rw [lR]; exact h1', fun i hi => ?_⟩
  rw [lR] at hi
  obtain ⟨a1, a2, a3, u, a4, a5⟩ := hf i hi
  unfold Tk.cz Tk.cl
  rw [eR i hi]
  exact ⟨a1, a2, a3, u, a4, a5⟩
theorem trow_int {w : World} {B g : Nat} {v : Value} {R : Tk.Ls} (h : Tk.Row w B v R) (tg : Ty w g 2) (z : Int) : ∃ R', R'.length = R.length ∧ Tk.Row (w.setCell ⟨g, 0, none⟩ (.int .i64 z)) B v R' := by
  obtain ⟨xs, h1, h2⟩ := h
  refine trow_of (row_kb h1 (kb_set w g 0 _) (fun b hb e => (row_ty h1 b hb).ne tg (by decide) e)) fun i hi => ?_
  obtain ⟨a1, a2, a3, u, hu, hr⟩ := h2 i hi
  obtain ⟨L', hL⟩ := irow_set (g := g) hr z
  exact ⟨_, _, _, u, L', a1, a2, a3, hu, hL⟩
theorem trow_cell {w : World} {B tb c : Nat} {R : Tk.Ls} (h : Tk.Row w B (.slice (some ⟨tb, 0, none⟩) R.length c) R) (j : Nat) (hj : 1 ≤ j ∧ j < 4) (z : Int) : ∃ R', R'.length = R.length ∧ Tk.Row (w.setCell ⟨tb, j, none⟩ (.int .i64 z)) B (.slice (some ⟨tb, 0, none⟩) R.length c) R' := by
  obtain ⟨xs, h1, h2⟩ := h
  have tt := row_ty h1 tb rfl
  have hl : xs.length = R.length * 4 := h1.1
  refine trow_of (h1.stored j (.int .i64 z)).1 fun i hi => ?_
  obtain ⟨a1, a2, a3, u, hu, hr⟩ := h2 i hi
  have hr' := row_kb hr (kb_set w tb j (.int .i64 z)) (fun b hb e => (row_ty hr b hb).ne tt (by decide) e)
  have g : ∀ (k : Nat) (q : Int), xs[k]? = some (Value.int .i64 q) → ∃ q' : Int, (xs.set j (Value.int .i64 z))[k]? = some (Value.int .i64 q') := fun k q hk => by
    by_cases e : j = k
    · subst e
      have : j < xs.length := by omega
      exact ⟨z, by simp [this]⟩
    · exact ⟨q, by rw [List.getElem?_set_ne e]; exact hk⟩
  obtain ⟨q1, b1⟩ := g _ _ a1
  obtain ⟨q2, b2⟩ := g _ _ a2
  obtain ⟨q3, b3⟩ := g _ _ a3
  exact ⟨q1, q2, q3, u, Tk.cl R i, b1, b2, b3, by rw [List.getElem?_set_ne (by omega)]; exact hu, hr'⟩
theorem trow_aft {w : World} {B tb c : Nat} {R : Tk.Ls} {u0 : Value} {L0 : List Int} (h : Tk.Row w B (.slice (some ⟨tb, 0, none⟩) R.length c) R) (h0 : 0 < R.length) (hu0 : w.ownsRow B 2 1 u0 L0.length (ints L0)) : ∃ R', R'.length = R.length ∧ Tk.Row (w.setCell ⟨tb, 0, none⟩ u0) B (.slice (some ⟨tb, 0, none⟩) R.length c) R' := by
  obtain ⟨xs, h1, h2⟩ := h
  have tt := row_ty h1 tb rfl
  have hl : xs.length = R.length * 4 := h1.1
  refine trow_of (h1.stored 0 u0).1 fun i hi => ?_
  obtain ⟨a1, a2, a3, u, hu, hr⟩ := h2 i hi
  have hr' := row_kb hr (kb_set w tb 0 u0) (fun b hb e => (row_ty hr b hb).ne tt (by decide) e)
  have hv' := row_kb hu0 (kb_set w tb 0 u0) (fun b hb e => (row_ty hu0 b hb).ne tt (by decide) e)
  have b1 : (xs.set 0 u0)[i * 4 + 1]? = _ := (List.getElem?_set_ne (by omega)).trans a1
  have b2 : (xs.set 0 u0)[i * 4 + 2]? = _ := (List.getElem?_set_ne (by omega)).trans a2
  have b3 : (xs.set 0 u0)[i * 4 + 3]? = _ := (List.getElem?_set_ne (by omega)).trans a3
  by_cases e : i = 0
  · subst e
    have : 0 < xs.length := by omega
    exact ⟨_, _, _, u0, L0, b1, b2, b3, by simp [this], hv'⟩
  · exact ⟨_, _, _, u, Tk.cl R i, b1, b2, b3, (List.getElem?_set_ne (by omega)).trans hu, hr'⟩
/-- a limit turned -/
theorem SQ.lim {r : Nat} {w : World} {nb xb xc : Nat} {sT : Value} {R : Tk.Ls} {X : List Int} {wr : World} (h : SQ r w nb sT (.slice (some ⟨xb, 0, none⟩) X.length xc) R X wr) (hr : r < w.heap.size) (z : Int) : ∃ R' X', FQ r w nb sT (.slice (some ⟨xb, 0, none⟩) X.length xc) R' X' (wr.setCell ⟨xb, 0, none⟩ (.int .i64 z)) := by
  have ks : KB (fun b => b = xb) wr (wr.setCell ⟨xb, 0, none⟩ (.int .i64 z)) := kb_set wr _ _ _
  have tx := row_ty h.lx xb rfl
  have xl := (h.lx.lt xb rfl).1
  obtain ⟨R', _, hR⟩ := trow_int h.rt tx z
  have r3 : (wr.setCell ⟨xb, 0, none⟩ (.int .i64 z)).ownsRow (w.heap.size + 1) 2 1 (.slice (some ⟨xb, 0, none⟩) X.length xc) (X.set 0 z).length (ints (X.set 0 z)) := by
    have := (h.lx.stored 0 (.int .i64 z)).1
    rw [ints_set] at this
    rw [List.length_set]
    exact this
  exact ⟨R', X.set 0 z, kb_turn hr h.tu ks (fun b hb => by omega), h.lo, h.rb.kb ks (by omega), h.bx.kb ks (fun e => h.bx.ty.ne tx (by decide) e), LS.of hR r3 (fun b hb => by omega)⟩
/-- a task turned -/
theorem SQ.tsk {r : Nat} {w : World} {nb tb tc j : Nat} {sL u : Value} {R R' : Tk.Ls} {X : List Int} {wr : World} (h : SQ r w nb (.slice (some ⟨tb, 0, none⟩) R.length tc) sL R X wr) (hr : r < w.heap.size) (hR : Tk.Row (wr.setCell ⟨tb, j, none⟩ u) (w.heap.size + 1) (.slice (some ⟨tb, 0, none⟩) R.length tc) R') : FQ r w nb (.slice (some ⟨tb, 0, none⟩) R.length tc) sL R' X (wr.setCell ⟨tb, j, none⟩ u) := by
  have ks : KB (fun b => b = tb) wr (wr.setCell ⟨tb, j, none⟩ u) := kb_set wr _ _ _
  obtain ⟨xs, h1, _⟩ := h.rt
  have tx := row_ty h1 tb rfl
  have xl := (h1.lt tb rfl).1
  exact ⟨kb_turn hr h.tu ks (fun b hb => by omega), h.lo, h.rb.kb ks (by omega), h.bx.kb ks (fun e => h.bx.ty.ne tx (by decide) e), LS.of hR (row_kb h.lx ks (fun g hg e => (row_ty h.lx g hg).ne tx (by decide) e)) (fun b hb => by omega)⟩
theorem SQ.cell {r : Nat} {w : World} {nb tb tc : Nat} {sL : Value} {R : Tk.Ls} {X : List Int} {wr : World} (h : SQ r w nb (.slice (some ⟨tb, 0, none⟩) R.length tc) sL R X wr) (hr : r < w.heap.size) (j : Nat) (hj : 1 ≤ j ∧ j < 4) (z : Int) : ∃ R' X', FQ r w nb (.slice (some ⟨tb, 0, none⟩) R.length tc) sL R' X' (wr.setCell ⟨tb, j, none⟩ (.int .i64 z)) := by
  obtain ⟨R', _, hR⟩ := trow_cell h.rt j hj z
  exact ⟨R', X, h.tsk hr hR⟩
/-- a task more -/
theorem SQ.task {r : Nat} {w : World} {nb : Nat} {sT sL u v' : Value} {R : Tk.Ls} {X : List Int} {wx w5 : World} {o : Obj} {el : Tk.El} {xs : List Value} (h : SQ r w nb sT sL R X wx) (hr : r < w.heap.size) (hx : wx.ownsRow (w.heap.size + 1) 50 4 sT R.length xs) (hgd : Tk.Good wx (w.heap.size + 1) xs R R.length) (hu : wx.ownsRow (w.heap.size + 1) 2 1 u el.2.length (ints el.2))
    (hg : (wx.alloc o).grownBy w5 sT.ownBlock) (hrow : w5.ownsRow (w.heap.size + 1) 50 4 v' (R.length + 1) (xs ++ [u, .int .i64 (el.1 1), .int .i64 (el.1 2), .int .i64 (el.1 3)])) :
    (w5.cell? ⟨nb, 0, none⟩ = some sT ∧ w5.frozen? ⟨nb, 0, none⟩ = false) ∧ SQ r w nb v' sL (R ++ [el]) X (w5.setCell ⟨nb, 0, none⟩ v') := by
  have lo' := h.lo
  have bA : Below wx.heap.size wx (wx.alloc o) := (Below.refl _ _).alloc (Nat.le_refl _) _
  have hA := h.up hr bA
  have xA := Tk.row_below hx bA
  have gA := hgd.on bA
  have uA := Tk.row_below hu bA
  have kg : KB (fun b => sT.ownBlock = some b) (wx.alloc o) w5 := KB.of_grown hg (fun b hb => hb)
  have lo : ∀ b, sT.ownBlock = some b → w.heap.size + 1 ≤ b := fun b hb => (xA.lt b hb).1
  have s5 := hA.bx.kb kg (fun q => (row_ty xA nb q).ne hA.bx.ty (by decide) rfl)
  have r5 := hA.rb.kb kg (fun q => by have := lo _ q; omega)
  have l5 := row_kb hA.lx kg (fun g hg q => type_ne hA.lx xA (by decide) g hg q)
  have u5 := row_kb uA kg (fun g hg q => type_ne uA xA (by decide) g hg q)
  have g5 : Tk.Good w5 (w.heap.size + 1) xs R R.length := good_kb gA kg (fun b hr' hb q => type_ne hr' xA (by decide) b hb q)
  have G : Tk.Good w5 (w.heap.size + 1) (xs ++ [u, .int .i64 (el.1 1), .int .i64 (el.1 2), .int .i64 (el.1 3)]) (R ++ [el]) (R.length + 1) := by
    have q := good_snoc (good_app g5 el) (u := u) hx.1 (by rw [cl_end]; exact u5)
    rw [cz_end, cz_end, cz_end] at q
    exact q
  have ks : KB (fun b => b = nb) w5 (w5.setCell ⟨nb, 0, none⟩ v') := kb_set w5 _ _ _
  have rows : Tk.Row w5 (w.heap.size + 1) v' (R ++ [el]) := ⟨_, by rw [List.length_append]; exact hrow, by rw [List.length_append]; exact G⟩
  refine ⟨⟨by rw [s5.cell]; rfl, s5.fz 0⟩, ⟨rd_kb (rd_kb hA.rd kg (fun b hb => by have := lo b hb; omega)) ks (fun b hb => by omega), kb_turn hr (kb_turn hr hA.tu kg (fun b hb => by have := lo b hb; omega)) ks (fun b hb => by omega), lo', r5.kb ks (by omega), s5.set 0 v', ?_, row_kb l5 ks (fun g hg e => (row_ty l5 g hg).ne s5.ty (by decide) e)⟩⟩
  obtain ⟨ys, y1, y2⟩ := rows
  exact ⟨ys, row_kb y1 ks (fun g hg e => (row_ty y1 g hg).ne s5.ty (by decide) e), good_kb y2 ks (fun b hr' hb e => (row_ty hr' b hb).ne s5.ty (by decide) e)⟩
def lenS (w : World) (nb : Nat) : Nat := match w.cell? ⟨nb, 0, none⟩ with
  | some (.slice _ l _) => l
  | _ => 0
theorem lenS_is {r : Nat} {w : World} {nb l c : Nat} {a : Option Addr} {sL : Value} {R : Tk.Ls} {X : List Int} {wr : World} (h : SQ r w nb (.slice a l c) sL R X wr) : lenS wr nb = l := by
  unfold lenS
  rw [show wr.cell? ⟨nb, 0, none⟩ = some (.slice a l c) by rw [h.bx.cell]; rfl]
theorem okS_len {R : Tk.Ls} {X : List Int} (h : So.okS R X = true) : (1 ≤ R.length ∧ R.length ≤ 60) ∧ 1 ≤ X.length := by
  have F := fit_of h
  exact ⟨⟨F.r1, F.r60⟩, F.x1⟩
def DV (r : Nat) (w : World) (sT sL : Value) (w' : World) : Prop := ∃ R X, LS (fun b => b < w.heap.size) w' sT sL R X ∧ Turn r w w'
/-- a suite that was drawn, right or not -/
def DW (w : World) (sT sL : Value) (w' : World) : Prop := ∃ R X, Tk.Reads w' sT R ∧ Lists.Reads w' sL X ∧ Below w.heap.size w w'
theorem pkA (z : Int) (h0 : 0 ≤ z) (h1 : z < 3) : ∃ q, ∀ W : World, (W.alloc (Obj.cells #[.int .i64 0, .int .i64 60, .int .i64 61] 2)).cell? ⟨W.heap.size, z.toNat, none⟩ = some (.int .i64 q) := by
  have : z = 0 ∨ z = 1 ∨ z = 2 := by omega
  rcases this with rfl | rfl | rfl
  · exact ⟨0, fun W => by simp [go_sem]⟩
  · exact ⟨60, fun W => by simp [go_sem]⟩
  · exact ⟨61, fun W => by simp [go_sem]⟩
theorem pkB (z : Int) (h0 : 0 ≤ z) (h1 : z < 2) : ∃ q, ∀ W : World, (W.alloc (Obj.cells #[.int .i64 0, .int .i64 7] 2)).cell? ⟨W.heap.size, z.toNat, none⟩ = some (.int .i64 q) := by
  have : z = 0 ∨ z = 1 := by omega
  rcases this with rfl | rfl
  · exact ⟨0, fun W => by simp [go_sem]⟩
  · exact ⟨7, fun W => by simp [go_sem]⟩
theorem pkC (z : Int) (h0 : 0 ≤ z) (h1 : z < 3) : ∃ q, ∀ W : World, (W.alloc (Obj.cells #[.int .i64 0, .int .i64 5, .int .i64 6] 2)).cell? ⟨W.heap.size, z.toNat, none⟩ = some (.int .i64 q) := by
  have : z = 0 ∨ z = 1 ∨ z = 2 := by omega
  rcases this with rfl | rfl | rfl
  · exact ⟨0, fun W => by simp [go_sem]⟩
  · exact ⟨5, fun W => by simp [go_sem]⟩
  · exact ⟨6, fun W => by simp [go_sem]⟩
theorem pkD (z : Int) (h0 : 0 ≤ z) (h1 : z < 3) : ∃ q, ∀ W : World, (W.alloc (Obj.cells #[.int .i64 (-1), .int .i64 1000000000000, .int .i64 1000000000001] 2)).cell? ⟨W.heap.size, z.toNat, none⟩ = some (.int .i64 q) := by
  have : z = 0 ∨ z = 1 ∨ z = 2 := by omega
  rcases this with rfl | rfl | rfl
  · exact ⟨(-1), fun W => by simp [go_sem]⟩
  · exact ⟨1000000000000, fun W => by simp [go_sem]⟩
  · exact ⟨1000000000001, fun W => by simp [go_sem]⟩

set_option maxRecDepth 20000 in
set_option maxHeartbeats 8000000 in
theorem dsuite_any (r : Nat) (w : World) (h : Rd r w) :
    Calls Try.prog 32 #[.pointer (some ⟨r, 0, none⟩)] w fun e w' => ∃ sT sL, e = .returned (Su.pv sT sL) ∧ DV r w sT sL w' := by
  have hr := h.lt
  obtain ⟨i0, hi, hz0, hz1, hz2⟩ := info_parts Lists.Try.info2
  obtain ⟨t0, ht, tz0, tz1, tz2⟩ := info_parts Try.infoT
  obtain ⟨w0, hw0⟩ : ∃ w0, w0 = w.alloc (.cells #[.slice none 0 0, .slice none 0 0] 27) := ⟨_, rfl⟩
  have HW0 : Hid (w0 = w.alloc (.cells #[.slice none 0 0, .slice none 0 0] 27)) := hw0
  have Z0 : Hid (w0.heap.size = w.heap.size + 1) := (by show _ = _; rw [hw0]; simp)
  have K0 : Hid (Rd r w0 ∧ Turn r w w0 ∧ Bl w0 w.heap.size 27 #[nilL, nilL]) := (by show _ ∧ _ ∧ _; rw [hw0]; exact ⟨h.kept ((Below.refl w.heap.size w).alloc (Nat.le_refl _) _) hr, (Turn.refl r w).alloc hr _, Bl.new w 27 _⟩)
  clear hw0 h
  go_enter Try.func32, Try.ntmps32
  go_upto_region 1 with fail
  rw [← HW0.out]
  clear HW0
  go_wp2_with fail
  refine (suite_any r w0 K0.out.1).mono ?_
  rintro e w2 ⟨sT, sL, rfl, D⟩
  obtain ⟨R, X, d1, d2, d3, d4, d5⟩ := D
  obtain ⟨nb, hnb⟩ : ∃ y, y = w2.heap.size := ⟨_, rfl⟩
  have HNB : Hid (nb = w2.heap.size) := hnb
  obtain ⟨w3, hw3⟩ : ∃ y, y = w2.alloc (.cells #[sT, sL] 27) := ⟨_, rfl⟩
  have HW3 : Hid (w3 = w2.alloc (.cells #[sT, sL] 27)) := hw3
  have S3 : Hid (SQ r w nb sT sL R X w3) := (by
    show SQ _ _ _ _ _ _ _ _
    obtain ⟨k1, k2, k3⟩ := K0.out
    have z0 := Z0.out
    have z1 := d5.size
    have b3 : Below w2.heap.size w2 w3 := by rw [hw3]; exact (Below.refl _ _).alloc (Nat.le_refl _) _
    refine ⟨d4.kept b3 d4.lt, (k2.trans d5).trans (Turn.of b3 (Nat.le_refl _) (Nat.le_of_lt d4.lt)), by omega, (k3.kb (turn_kb d5) (by omega)).on b3, by rw [hw3, hnb]; exact Bl.new w2 27 _, Su.row_down (d1.on b3) (by omega), Tk1.own_down (Tk.row_below d2 b3) (by omega)⟩)
  have HL : Hid ((1 ≤ R.length ∧ R.length ≤ 60) ∧ 1 ≤ X.length) := okS_len d3
  obtain ⟨ra, rc, e1⟩ := S3.out.rt.reads.form
  obtain ⟨xa, xc, e2⟩ := row_form S3.out.lx
  subst e1 e2
  obtain ⟨tb, e1⟩ : ∃ tb, ra = some ⟨tb, 0, none⟩ := by
    obtain ⟨xs, hx, _⟩ := S3.out.rt
    rcases Tk.row_cases hx with ⟨hz, _⟩ | ⟨g, cap, hg, _⟩
    · have := HL.out; omega
    · simp at hg; exact ⟨g, hg.1⟩
  obtain ⟨xb, e2⟩ : ∃ xb, xa = some ⟨xb, 0, none⟩ := by
    rcases Tk.row_cases S3.out.lx with ⟨hz, _⟩ | ⟨g, cap, hg, _⟩
    · have := HL.out; omega
    · simp at hg; exact ⟨g, hg.1⟩
  subst e1 e2
  clear d1 d2 d3 d4 d5 hnb hw3
  go_upto_region 2 with fail
  rw [← HW3.out, ← HNB.out]
  clear HW3 HNB K0
  go_wp2_with fail
  refine (below_all r w3 S3.out.rd 24 (by omega) (by omega)).mono ?_
  rintro e w5 ⟨⟨u, ⟨hu1, hu2⟩, rfl⟩, k5, t5⟩
  have S5 : Hid (SQ r w nb (.slice (some ⟨tb, 0, none⟩) R.length rc) (.slice (some ⟨xb, 0, none⟩) X.length xc) R X w5) := S3.out.turn hr k5 t5
  clear k5 t5 S3
  go_upto_block 0 with fail
  go_cut [] (fun wx => ∃ (vT vL : Value) (R : Tk.Ls) (X : List Int), Hid (FQ r w nb vT vL R X wx))
  case first =>
    have b0 : w5.cell? ⟨nb, 0, none⟩ = some (.slice (some ⟨tb, 0, none⟩) R.length rc) := by rw [S5.out.bx.cell]; rfl
    have b1 : w5.cell? ⟨nb, 1, none⟩ = some (.slice (some ⟨xb, 0, none⟩) X.length xc) := by rw [S5.out.bx.cell]; rfl
    have CE : Hid (∀ W, SQ r w nb (.slice (some ⟨tb, 0, none⟩) R.length rc) (.slice (some ⟨xb, 0, none⟩) X.length xc) R X W → (W.cell? ⟨nb, 0, none⟩ = some (.slice (some ⟨tb, 0, none⟩) R.length rc) ∧ W.cell? ⟨nb, 1, none⟩ = some (.slice (some ⟨xb, 0, none⟩) X.length xc)) ∧ (∃ q, W.cell? ⟨xb, 0, none⟩ = some (.int .i64 q)) ∧ W.frozen? ⟨xb, 0, none⟩ = false ∧ (∃ q, W.cell? ⟨tb, 1, none⟩ = some (.int .i64 q)) ∧ W.frozen? ⟨tb, 1, none⟩ = false ∧ (∃ q, W.cell? ⟨tb, 2, none⟩ = some (.int .i64 q)) ∧ W.frozen? ⟨tb, 2, none⟩ = false ∧ (∃ q, W.cell? ⟨tb, 3, none⟩ = some (.int .i64 q)) ∧ W.frozen? ⟨tb, 3, none⟩ = false ∧ xb < W.heap.size ∧ tb < W.heap.size ∧ nb < W.heap.size) := fun W hW => (by
      obtain ⟨l1, l2⟩ := HL.out
      obtain ⟨xs, x1, x2⟩ := hW.rt
      obtain ⟨g1, g2, g3, _⟩ := x2 0 (by omega)
      have c := hW.lx.cellAt 0 (by omega)
      have xl : xs.length = R.length * 4 := x1.1
      refine ⟨⟨by rw [hW.bx.cell]; rfl, by rw [hW.bx.cell]; rfl⟩, ⟨X.getD 0 0, c.trans ?_⟩, hW.lx.frozenAt 0, ⟨_, (x1.cellAt 1 (by omega)).trans g1⟩, x1.frozenAt 1, ⟨_, (x1.cellAt 2 (by omega)).trans g2⟩, x1.frozenAt 2, ⟨_, (x1.cellAt 3 (by omega)).trans g3⟩, x1.frozenAt 3, (row_ty hW.lx xb rfl).lt, (row_ty x1 tb rfl).lt, hW.bx.lt⟩
      have : 0 < X.length := by omega
      simp [ints, List.getD_eq_getElem?_getD, this])
    have jl0 : (0 : Int) < (R.length : Int) := by have := HL.out; omega
    have xl0 : (0 : Int) < (X.length : Int) := by have := HL.out; omega
    have rb5 : r < w5.heap.size := S5.out.rd.lt
    obtain ⟨_, ⟨x0, hx0⟩, fx0, ⟨t1, ht1⟩, ft1, ⟨t2, ht2⟩, ft2, ⟨t3, ht3⟩, ft3, xlt, tlt, nlt⟩ := CE.out w5 S5.out
    by_cases u0 : u = 0
    · subst u0
      have KA : Hid (SQ r w nb (.slice (some ⟨tb, 0, none⟩) R.length rc) (.slice (some ⟨xb, 0, none⟩) X.length xc) R X (w5.alloc (Obj.cells #[.int .i64 0, .int .i64 60, .int .i64 61] 2)).drew) := (S5.out.alloc hr _).drew hr
      go_upto_region 4 with fail
      go_region_with (go_at_call 23; first
        | (refine (below_all r _ KA.out.rd 3 (by omega) (by omega)).mono ?_; rintro e w6 ⟨⟨z, ⟨hz1', hz2'⟩, rfl⟩, k6, t6⟩; have hz3 : z < 3 := hz2'; obtain ⟨q, hq⟩ := pkA z hz1' hz3; have T1 : Hid (SQ r w nb (.slice (some ⟨tb, 0, none⟩) R.length rc) (.slice (some ⟨xb, 0, none⟩) X.length xc) R X w6) := KA.out.turn hr k6 t6; have c0 : w6.cell? ⟨w5.heap.size, z.toNat, none⟩ = some (.int .i64 q) := (t6.cell _ (by simp) (by omega)).trans (hq w5); obtain ⟨⟨o0, o1⟩, ⟨y0, hy0⟩, fy0, ⟨y1, hy1⟩, fy1, ⟨y2, hy2⟩, fy2, ⟨y3, hy3⟩, fy3, ylt, zlt, nlt6⟩ := CE.out w6 T1.out; clear hq hz2')
        | (refine (below_all r _ (S5.out.drew hr).rd 3 (by omega) (by omega)).mono ?_; rintro e w6 ⟨⟨z, ⟨hz1', hz2'⟩, rfl⟩, k6, t6⟩; have hz3 : z < 3 := hz2'; obtain ⟨q, hq⟩ := pkA z hz1' hz3; have T1 : Hid (SQ r w nb (.slice (some ⟨tb, 0, none⟩) R.length rc) (.slice (some ⟨xb, 0, none⟩) X.length xc) R X w6) := (S5.out.drew hr).turn hr k6 t6; have c0 := hq w6; obtain ⟨⟨o0, o1⟩, ⟨y0, hy0⟩, fy0, ⟨y1, hy1⟩, fy1, ⟨y2, hy2⟩, fy2, ⟨y3, hy3⟩, fy3, ylt, zlt, nlt6⟩ := CE.out w6 T1.out; clear hq hz2'))
      all_goals
        obtain ⟨R', X', FQ1⟩ := T1.out.lim hr q
        have QF : Hid (FQ r w nb (.slice (some ⟨tb, 0, none⟩) R.length rc) (.slice (some ⟨xb, 0, none⟩) X.length xc) R' X' (w6.setCell ⟨xb, 0, none⟩ (.int .i64 q))) := FQ1
        clear FQ1
        go_wp2_with fail
        go_meet
        first
          | exact ⟨_, _, R', X', QF⟩
          | exact ⟨_, _, R', X', QF.out.alloc hr _⟩
    by_cases u1 : u = 1
    · subst u1
      have KA : Hid (SQ r w nb (.slice (some ⟨tb, 0, none⟩) R.length rc) (.slice (some ⟨xb, 0, none⟩) X.length xc) R X (w5.alloc (Obj.cells #[.int .i64 0, .int .i64 7] 2)).drew) := (S5.out.alloc hr _).drew hr
      go_upto_region 6 with fail
      go_region_with (go_at_call 23; first
        | (refine (below_all r _ KA.out.rd 2 (by omega) (by omega)).mono ?_; rintro e w6 ⟨⟨z, ⟨hz1', hz2'⟩, rfl⟩, k6, t6⟩; have hz3 : z < 2 := hz2'; obtain ⟨q, hq⟩ := pkB z hz1' hz3; have T1 : Hid (SQ r w nb (.slice (some ⟨tb, 0, none⟩) R.length rc) (.slice (some ⟨xb, 0, none⟩) X.length xc) R X w6) := KA.out.turn hr k6 t6; have c0 : w6.cell? ⟨w5.heap.size, z.toNat, none⟩ = some (.int .i64 q) := (t6.cell _ (by simp) (by omega)).trans (hq w5); obtain ⟨⟨o0, o1⟩, ⟨y0, hy0⟩, fy0, ⟨y1, hy1⟩, fy1, ⟨y2, hy2⟩, fy2, ⟨y3, hy3⟩, fy3, ylt, zlt, nlt6⟩ := CE.out w6 T1.out; clear hq hz2')
        | (refine (below_all r _ (S5.out.drew hr).rd 2 (by omega) (by omega)).mono ?_; rintro e w6 ⟨⟨z, ⟨hz1', hz2'⟩, rfl⟩, k6, t6⟩; have hz3 : z < 2 := hz2'; obtain ⟨q, hq⟩ := pkB z hz1' hz3; have T1 : Hid (SQ r w nb (.slice (some ⟨tb, 0, none⟩) R.length rc) (.slice (some ⟨xb, 0, none⟩) X.length xc) R X w6) := (S5.out.drew hr).turn hr k6 t6; have c0 := hq w6; obtain ⟨⟨o0, o1⟩, ⟨y0, hy0⟩, fy0, ⟨y1, hy1⟩, fy1, ⟨y2, hy2⟩, fy2, ⟨y3, hy3⟩, fy3, ylt, zlt, nlt6⟩ := CE.out w6 T1.out; clear hq hz2'))
      all_goals
        obtain ⟨R', X', FQ1⟩ := T1.out.cell hr 1 (by omega) q
        have QF : Hid (FQ r w nb (.slice (some ⟨tb, 0, none⟩) R.length rc) (.slice (some ⟨xb, 0, none⟩) X.length xc) R' X' (w6.setCell ⟨tb, 1, none⟩ (.int .i64 q))) := FQ1
        clear FQ1
        go_wp2_with fail
        go_meet
        first
          | exact ⟨_, _, R', X', QF⟩
          | exact ⟨_, _, R', X', QF.out.alloc hr _⟩
    by_cases u3 : u = 3
    · subst u3
      have KA : Hid (SQ r w nb (.slice (some ⟨tb, 0, none⟩) R.length rc) (.slice (some ⟨xb, 0, none⟩) X.length xc) R X (w5.alloc (Obj.cells #[.int .i64 0, .int .i64 5, .int .i64 6] 2)).drew) := (S5.out.alloc hr _).drew hr
      go_upto_region 10 with fail
      go_region_with (go_at_call 23; first
        | (refine (below_all r _ KA.out.rd 3 (by omega) (by omega)).mono ?_; rintro e w6 ⟨⟨z, ⟨hz1', hz2'⟩, rfl⟩, k6, t6⟩; have hz3 : z < 3 := hz2'; obtain ⟨q, hq⟩ := pkC z hz1' hz3; have T1 : Hid (SQ r w nb (.slice (some ⟨tb, 0, none⟩) R.length rc) (.slice (some ⟨xb, 0, none⟩) X.length xc) R X w6) := KA.out.turn hr k6 t6; have c0 : w6.cell? ⟨w5.heap.size, z.toNat, none⟩ = some (.int .i64 q) := (t6.cell _ (by simp) (by omega)).trans (hq w5); obtain ⟨⟨o0, o1⟩, ⟨y0, hy0⟩, fy0, ⟨y1, hy1⟩, fy1, ⟨y2, hy2⟩, fy2, ⟨y3, hy3⟩, fy3, ylt, zlt, nlt6⟩ := CE.out w6 T1.out; clear hq hz2')
        | (refine (below_all r _ (S5.out.drew hr).rd 3 (by omega) (by omega)).mono ?_; rintro e w6 ⟨⟨z, ⟨hz1', hz2'⟩, rfl⟩, k6, t6⟩; have hz3 : z < 3 := hz2'; obtain ⟨q, hq⟩ := pkC z hz1' hz3; have T1 : Hid (SQ r w nb (.slice (some ⟨tb, 0, none⟩) R.length rc) (.slice (some ⟨xb, 0, none⟩) X.length xc) R X w6) := (S5.out.drew hr).turn hr k6 t6; have c0 := hq w6; obtain ⟨⟨o0, o1⟩, ⟨y0, hy0⟩, fy0, ⟨y1, hy1⟩, fy1, ⟨y2, hy2⟩, fy2, ⟨y3, hy3⟩, fy3, ylt, zlt, nlt6⟩ := CE.out w6 T1.out; clear hq hz2'))
      all_goals
        obtain ⟨R', X', FQ1⟩ := T1.out.cell hr 3 (by omega) q
        have QF : Hid (FQ r w nb (.slice (some ⟨tb, 0, none⟩) R.length rc) (.slice (some ⟨xb, 0, none⟩) X.length xc) R' X' (w6.setCell ⟨tb, 3, none⟩ (.int .i64 q))) := FQ1
        clear FQ1
        go_wp2_with fail
        go_meet
        first
          | exact ⟨_, _, R', X', QF⟩
          | exact ⟨_, _, R', X', QF.out.alloc hr _⟩
    by_cases u4 : u = 4
    · subst u4
      have KA : Hid (SQ r w nb (.slice (some ⟨tb, 0, none⟩) R.length rc) (.slice (some ⟨xb, 0, none⟩) X.length xc) R X (w5.alloc (Obj.cells #[.int .i64 (-1), .int .i64 1000000000000, .int .i64 1000000000001] 2)).drew) := (S5.out.alloc hr _).drew hr
      go_upto_region 12 with fail
      go_region_with (go_at_call 23; first
        | (refine (below_all r _ KA.out.rd 3 (by omega) (by omega)).mono ?_; rintro e w6 ⟨⟨z, ⟨hz1', hz2'⟩, rfl⟩, k6, t6⟩; have hz3 : z < 3 := hz2'; obtain ⟨q, hq⟩ := pkD z hz1' hz3; have T1 : Hid (SQ r w nb (.slice (some ⟨tb, 0, none⟩) R.length rc) (.slice (some ⟨xb, 0, none⟩) X.length xc) R X w6) := KA.out.turn hr k6 t6; have c0 : w6.cell? ⟨w5.heap.size, z.toNat, none⟩ = some (.int .i64 q) := (t6.cell _ (by simp) (by omega)).trans (hq w5); obtain ⟨⟨o0, o1⟩, ⟨y0, hy0⟩, fy0, ⟨y1, hy1⟩, fy1, ⟨y2, hy2⟩, fy2, ⟨y3, hy3⟩, fy3, ylt, zlt, nlt6⟩ := CE.out w6 T1.out; clear hq hz2')
        | (refine (below_all r _ (S5.out.drew hr).rd 3 (by omega) (by omega)).mono ?_; rintro e w6 ⟨⟨z, ⟨hz1', hz2'⟩, rfl⟩, k6, t6⟩; have hz3 : z < 3 := hz2'; obtain ⟨q, hq⟩ := pkD z hz1' hz3; have T1 : Hid (SQ r w nb (.slice (some ⟨tb, 0, none⟩) R.length rc) (.slice (some ⟨xb, 0, none⟩) X.length xc) R X w6) := (S5.out.drew hr).turn hr k6 t6; have c0 := hq w6; obtain ⟨⟨o0, o1⟩, ⟨y0, hy0⟩, fy0, ⟨y1, hy1⟩, fy1, ⟨y2, hy2⟩, fy2, ⟨y3, hy3⟩, fy3, ylt, zlt, nlt6⟩ := CE.out w6 T1.out; clear hq hz2'))
      all_goals
        obtain ⟨R', X', FQ1⟩ := T1.out.cell hr 2 (by omega) q
        have QF : Hid (FQ r w nb (.slice (some ⟨tb, 0, none⟩) R.length rc) (.slice (some ⟨xb, 0, none⟩) X.length xc) R' X' (w6.setCell ⟨tb, 2, none⟩ (.int .i64 q))) := FQ1
        clear FQ1
        go_wp2_with fail
        go_meet
        first
          | exact ⟨_, _, R', X', QF⟩
          | exact ⟨_, _, R', X', QF.out.alloc hr _⟩
    by_cases u2 : u = 2
    · subst u2
      obtain ⟨xs, x1, x2⟩ := S5.out.rt
      have SA : Hid (SQ r w nb (.slice (some ⟨tb, 0, none⟩) R.length rc) (.slice (some ⟨xb, 0, none⟩) X.length xc) R X (w5.alloc (.cells #[.int .i64 1] 2))) := S5.out.alloc hr _
      have NEWU : Hid ((w5.alloc (.cells #[.int .i64 1] 2)).ownsRow (w.heap.size + 1) 2 1 (.slice (some ⟨w5.heap.size, 0, none⟩) 1 1) [(1 : Int)].length (ints [1])) := (by
        have z := S5.out.bx.lt
        have lo := S5.out.lo
        exact World.ownsRow_lit w5 #[.int .i64 1] 1 (by omega) (by unfold maxLen; omega) rfl)
      obtain ⟨R', _, hR⟩ := trow_aft SA.out.rt (by have := HL.out; omega) NEWU.out
      have EW : (w5.alloc (.cells #[.int .i64 1] 2)).setCell ⟨tb, 0, none⟩ (.slice (some ⟨w5.heap.size, 0, none⟩) 1 1) = (w5.setCell ⟨tb, 0, none⟩ (.slice (some ⟨w5.heap.size, 0, none⟩) 1 1)).alloc (.cells #[.int .i64 1] 2) := by simp [go_sem, tlt]
      have Q : Hid (FQ r w nb (.slice (some ⟨tb, 0, none⟩) R.length rc) (.slice (some ⟨xb, 0, none⟩) X.length xc) R' X ((w5.setCell ⟨tb, 0, none⟩ (.slice (some ⟨w5.heap.size, 0, none⟩) 1 1)).alloc (.cells #[.int .i64 1] 2))) := (by have q := SA.out.tsk hr hR; rw [EW] at q; exact q)
      clear EW
      obtain ⟨_, _, _, u', hu', hru'⟩ := x2 0 (by have := HL.out; omega)
      have tc0 : w5.cell? ⟨tb, 0, none⟩ = some u' := (x1.cellAt 0 (by have := x1.1; have := HL.out; omega)).trans (by simpa using hu')
      have tf0 := x1.frozenAt 0
      obtain ⟨ua, uc, hue⟩ := row_form hru'
      subst hue
      have tne : ¬ tb = w5.heap.size := by omega
      clear x1 x2 hR hu' hru'
      go_wp2_with fail
      go_meet
      exact ⟨_, _, R', X, Q⟩
    by_cases u5 : u = 5
    · subst u5
      go_wp2_with fail
      refine (below_all r w5 S5.out.rd 2 (by omega) (by omega)).mono ?_
      rintro e w6 ⟨⟨q, ⟨hq1, hq2⟩, rfl⟩, k6, t6⟩
      have S6 : Hid (SQ r w nb (.slice (some ⟨tb, 0, none⟩) R.length rc) (.slice (some ⟨xb, 0, none⟩) X.length xc) R X w6) := S5.out.turn hr k6 t6
      clear k6 t6 b0 b1
      go_upto_region 15 with fail
      obtain ⟨N, hN⟩ : ∃ N : Nat, 60 + q = (N : Int) := ⟨(60 + q).toNat, by omega⟩
      have hN61 : N ≤ 61 := by omega
      have hN60 : 60 ≤ N := by omega
      rw [hN]
      clear hN hq1 hq2
      go_loopw [] (fun wx => ∃ (vT : Value) (R : Tk.Ls), Hid (SQ r w nb vT (.slice (some ⟨xb, 0, none⟩) X.length xc) R X wx) ∧ R.length ≤ N) (fun wx => N - lenS wx nb)
      case atStart => exact ⟨_, R, S6, by have := HL.out; omega⟩
      case round =>
        obtain ⟨vT, R2, S, hl⟩ := hrel
        obtain ⟨xs, hx, hgd⟩ := S.out.rt
        obtain ⟨sa, sc, hv⟩ := row_form hx
        subst hv
        have s0 : wr.cell? ⟨nb, 0, none⟩ = some (.slice sa R2.length sc) := by rw [S.out.bx.cell]; rfl
        have LB : Hid (lenS wr nb = R2.length) := lenS_is S.out
        by_cases hlt : R2.length < N
        · have i2 : (R2.length : Int) < (N : Int) := by omega
          have HX : Hid (wr.ownsRow (w.heap.size + 1) 50 4 (.slice sa R2.length sc) R2.length xs) := hx
          have HG : Hid (Tk.Good wr (w.heap.size + 1) xs R2 R2.length) := hgd
          obtain ⟨wD, hwD⟩ : ∃ y, y = wr.alloc (Obj.cells #[.slice none 0 0, .int .i64 1, .int .i64 0, .int .i64 1] 50) := ⟨_, rfl⟩
          have HWD : Hid (wD = wr.alloc (Obj.cells #[.slice none 0 0, .int .i64 1, .int .i64 0, .int .i64 1] 50)) := hwD
          have ND : Hid (∀ j x, [Value.slice none 0 0, .int .i64 1, .int .i64 0, .int .i64 1][j]? = some x → wD.cell? ((⟨wr.heap.size, 0, none⟩ : Addr).add j) = some x) := (by rw [hwD]; exact cell_four wr _ _ _ _ 50)
          have RD : Hid (wD.ownsRow (w.heap.size + 1) 50 4 (.slice sa R2.length sc) R2.length xs) := (by show World.ownsRow _ _ _ _ _ _ _; rw [hwD]; exact Tk.row_below hx ((Below.refl _ _).alloc (Nat.le_refl _) _))
          have ZD : Hid (w.heap.size + 1 ≤ wD.heap.size) := (by have := S.out.bx.lt; have := S.out.lo; show _ ≤ _; rw [hwD]; simp; omega)
          clear hwD hx hgd
          go_wp2_with (at_builtin; rw [← HWD.out]; refine wpList_append_own _ rfl _ _ 24 rfl (w.heap.size + 1) 50 t0 (.agg #[.slice none 0 0, .int .i64 0, .int .i64 0, .int .i64 0]) 4 48 Try.underlying24 ht tz0 tz1 tz2 rfl (by decide) _ _ _ rfl RD.out ⟨wr.heap.size, 0, none⟩ 1 1 [.slice none 0 0, .int .i64 1, .int .i64 0, .int .i64 1] rfl rfl ND.out (one_four _ rfl _ _ _) (by unfold maxLen; omega) (by omega) ZD.out ?_)
          intro v5 w7 hown hgrow hnil5
          obtain ⟨g5, c5, rfl, p1, p2, p3, p4⟩ := row_some hown (by first | exact hnil5 | (intro e; have := hnil5.1 e; simp at this))
          rw [HWD.out] at hgrow
          obtain ⟨⟨d1, d2⟩, S5'⟩ := SQ.task (u := .slice none 0 0) (el := (fun j => if j = 2 then 0 else 1, [])) S.out hr HX.out HG.out ⟨rfl, .inl ⟨rfl, rfl⟩⟩ hgrow hown
          have S7 : Hid (SQ r w nb (.slice (some ⟨g5, 0, none⟩) (R2.length + 1) c5) (.slice (some ⟨xb, 0, none⟩) X.length xc) (R2 ++ [(fun j => if j = 2 then 0 else 1, [])]) X (w7.setCell ⟨nb, 0, none⟩ (.slice (some ⟨g5, 0, none⟩) (R2.length + 1) c5))) := S5'
          clear hown hgrow hnil5 p1 p2 p3 p4 S5' s0 HX HG ND RD ZD HWD
          go_wp2_with fail
          go_roundw
          case rel => exact ⟨_, _, S7, by simp; omega⟩
          case measure => have h1 := lenS_is S7.out; have h2 := LB.out; rw [h1, h2]; omega
        · have i2 : ¬ (R2.length : Int) < (N : Int) := by omega
          go_wp2_with fail
          go_meet
          exact ⟨_, _, _, _, S.out.fq⟩
    by_cases u6 : u = 6
    · subst u6
      have f0 := S5.out.bx.fz 0
      have Q : Hid (FQ r w nb (.slice (some ⟨tb, 0, none⟩) 0 rc) (.slice (some ⟨xb, 0, none⟩) X.length xc) [] X (w5.setCell ⟨nb, 0, none⟩ (.slice (some ⟨tb, 0, none⟩) 0 rc))) := (by
        show FQ _ _ _ _ _ _ _ _
        have ks : KB (fun b => b = nb) w5 (w5.setCell ⟨nb, 0, none⟩ (.slice (some ⟨tb, 0, none⟩) 0 rc)) := kb_set w5 _ _ _
        have lo := S5.out.lo
        have lx := row_kb S5.out.lx ks (fun g hg e => (row_ty S5.out.lx g hg).ne S5.out.bx.ty (by decide) e)
        exact ⟨kb_turn hr S5.out.tu ks (fun b hb => by omega), lo, S5.out.rb.kb ks (by omega), S5.out.bx.set 0 _, fun w' k => ⟨Or.inl ⟨rfl, _, _, rfl⟩, Lists.reads_row (row_kb lx k (fun g hg q => by have := (lx.lt g hg).1; omega))⟩⟩)
      have RCB : Hid (R.length ≤ rc) := (by
        obtain ⟨xs, x1, _⟩ := S5.out.rt
        rcases Tk.row_cases x1 with ⟨hz, _⟩ | ⟨g, cap, hg, _, _, q1, q2⟩
        · have := HL.out; show _ ≤ _; omega
        · simp at hg; show _ ≤ _; omega)
      have rcl := RCB.out
      go_wp2_with fail
      go_meet
      exact ⟨_, _, _, _, Q⟩
    · have Q : Hid (FQ r w nb (.slice (some ⟨tb, 0, none⟩) R.length rc) (.slice (some ⟨xb, 0, none⟩) X.length xc) R X w5) := S5.out.fq
      have n0 : ¬ u = 0 := u0
      go_wp2_with fail
      go_meet
      exact ⟨_, _, _, _, Q⟩
  case rest =>
    clear S5
    obtain ⟨vT, vL, R', X', Q⟩ := hcut
    obtain ⟨wx, hwx⟩ : ∃ x : World, x = wc := ⟨_, rfl⟩
    subst hwx
    obtain ⟨l1, l2⟩ := Q.out.ly wx (KB.refl _ _)
    obtain ⟨ta, tc, e1⟩ := l1.form
    obtain ⟨la, lc, e2⟩ := l2.form
    subst e1 e2
    have c0 : wx.cell? ⟨nb, 0, none⟩ = some (.slice ta R'.length tc) := by rw [Q.out.bx.cell]; rfl
    have c1 : wx.cell? ⟨nb, 1, none⟩ = some (.slice la X'.length lc) := by rw [Q.out.bx.cell]; rfl
    have q0 : wx.cell? ⟨w.heap.size, 0, none⟩ = some (.slice none 0 0) := by rw [Q.out.rb.cell]; rfl
    have q1 : wx.cell? ⟨w.heap.size, 1, none⟩ = some (.slice none 0 0) := by rw [Q.out.rb.cell]; rfl
    have f0 := Q.out.rb.fz 0
    have f1 := Q.out.rb.fz 1
    have KS : KB (fun b => b = w.heap.size) wx ((wx.setCell ⟨w.heap.size, 0, none⟩ (.slice ta R'.length tc)).setCell ⟨w.heap.size, 1, none⟩ (.slice la X'.length lc)) := (kb_set wx _ _ _).trans (kb_set _ _ _ _)
    clear l1 l2
    go_wp2_with fail
    refine bodyPost_ret (v := Su.pv (.slice ta R'.length tc) (.slice la X'.length lc)) (by simp [results, Try.results32, go_sem, q0, q1]) rfl ⟨_, _, rfl, R', X', ?_⟩
    exact ⟨fun w' k => Q.out.ly w' ((KS.mono (fun b hb => by omega)).trans (k.mono (fun b hb => Nat.le_of_lt hb))), kb_turn hr Q.out.tu KS (fun b hb => by omega)⟩

set_option maxRecDepth 20000 in
set_option maxHeartbeats 2000000 in
theorem dnew_any (a : Option Addr) (n cap : Nat) (w : World) (hc : Rd.Code w a n cap) (hn : n ≤ 1048576) :
    Calls Try.prog 15 #[.slice a n cap] w fun e w' => ∃ sT sL, e = .returned (Su.pv sT sL) ∧ DW w sT sL w' := by
  obtain ⟨wa, hwa⟩ : ∃ y, y = w.alloc (.cells #[.slice none 0 0, .slice none 0 0] 27) := ⟨_, rfl⟩
  have HWA : Hid (wa = w.alloc (.cells #[.slice none 0 0, .slice none 0 0] 27)) := hwa
  have ZA : Hid (wa.heap.size = w.heap.size + 1) := (by show _ = _; rw [hwa]; simp)
  have BA : Hid (Below w.heap.size w wa ∧ Bl wa w.heap.size 27 #[nilL, nilL]) := (by show _ ∧ _; rw [hwa]; exact ⟨(Below.refl _ _).alloc (Nat.le_refl _) _, Bl.new w 27 _⟩)
  have O : Hid (Calls Try.prog 21 #[.slice a n cap] wa fun e w' => e = .returned (.pointer (some ⟨wa.heap.size, 0, none⟩)) ∧ w' = wa.alloc (.cells #[.slice a n cap, .int .i64 0] 74)) := open_any _ a n cap rfl _
  have K1 : Hid (Rd wa.heap.size (wa.alloc (.cells #[.slice a n cap, .int .i64 0] 74))) := Rd.new hc hn BA.out.1
  obtain ⟨r, hr⟩ : ∃ r, r = wa.heap.size := ⟨_, rfl⟩
  have HR : Hid (r = wa.heap.size) := hr
  rw [← hr] at O K1
  clear hc hwa hr
  go_enter Try.func15, Try.ntmps15
  go_upto_region 1 with fail
  rw [← HWA.out]
  clear HWA
  go_wp2_with fail
  refine O.out.mono ?_
  rintro e w1 ⟨rfl, hw⟩
  have B1 : Hid (Below wa.heap.size wa w1) := (by rw [hw]; exact (Below.refl _ _).alloc (Nat.le_refl _) _)
  rw [← hw] at K1
  clear hw O
  go_wp2_with fail
  refine (dsuite_any r w1 K1.out).mono ?_
  rintro e w2 ⟨sT, sL, rfl, R, X, gl, g3⟩
  obtain ⟨g1, g2⟩ := gl w2 (KB.refl _ _)
  obtain ⟨ta, tc, e1⟩ := g1.form
  obtain ⟨la, lc, e2⟩ := g2.form
  subst e1 e2
  have G : Hid (LS (fun b => b < w1.heap.size) w2 (.slice ta R.length tc) (.slice la X.length lc) R X) := gl
  have Z1 : Hid (w.heap.size < w1.heap.size) := (by have := B1.out.size; have := ZA.out; show _ < _; omega)
  have B2 : Hid (Below (w.heap.size + 1) wa w2) := (by
    have e := HR.out
    have z := ZA.out
    exact (B1.out.mono (by omega)).trans (g3.bel.mono (by omega)))
  have RB : Hid (Bl w2 w.heap.size 27 #[nilL, nilL]) := (B2.out.block w.heap.size (Nat.lt_succ_self _)).trans BA.out.2
  clear g1 g2 g3 gl
  have q0 : w2.cell? ⟨w.heap.size, 0, none⟩ = some (.slice none 0 0) := by rw [RB.out.cell]; rfl
  have q1 : w2.cell? ⟨w.heap.size, 1, none⟩ = some (.slice none 0 0) := by rw [RB.out.cell]; rfl
  have f0 := RB.out.fz 0
  have f1 := RB.out.fz 1
  have KS : KB (fun b => b = w.heap.size) w2 ((w2.setCell ⟨w.heap.size, 0, none⟩ (.slice ta R.length tc)).setCell ⟨w.heap.size, 1, none⟩ (.slice la X.length lc)) := (kb_set w2 _ _ _).trans (kb_set _ _ _ _)
  go_wp2_with fail
  refine bodyPost_ret (v := Su.pv (.slice ta R.length tc) (.slice la X.length lc)) (by simp [results, Try.results15, go_sem, q0, q1]) rfl ⟨_, _, rfl, R, X, ?_⟩
  obtain ⟨l1, l2⟩ := G.out _ (KS.mono (fun b hb => by have := Z1.out; omega))
  exact ⟨l1, l2, (BA.out.1.trans (B2.out.mono (Nat.le_succ _))).trans (KS.below (Nat.le_of_lt RB.out.lt) (fun b hb => by omega))⟩
end Go.Proofs.Ytfhpomfdkpfooaa.Du
