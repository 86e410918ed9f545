/- A run tied: the copy. -/
import Derived.Test.YtfhpomfdkpfooaaTn
import Derived.Deep.Onto
namespace Go.Proofs.Ytfhpomfdkpfooaa.Ty
open Go.ChangeShapes Go.WideShapes Go.ChangeAt Go.RowKit
open Go.Proofs.Ytfhpomfdkpfooaa.Lists Go.Proofs.Ytfhpomfdkpfooaa.Tm Go.Proofs.Ytfhpomfdkpfooaa.Rk Go.Proofs.Ytfhpomfdkpfooaa.Ru Go.Proofs.Ytfhpomfdkpfooaa.Al

/-- the copy of a run, and its box at nb -/
def NX (w : World) (R : Tk.Ls) (X : List Int) (now : Int) (J : Jb.Ls) (vr vx vj : Value) (v : Value) (wx : World) : Prop :=
  ∃ nb ra rc xa xc jb jc xs, v = .pointer (some ⟨nb, 0, none⟩) ∧ Bl wx nb 30 #[.slice ra R.length rc, .slice xa X.length xc, .int .i64 now, .slice (some ⟨jb, 0, none⟩) J.length jc] ∧
    RO wx (w.heap.size + 2) (.slice ra R.length rc) (.slice xa X.length xc) (.slice (some ⟨jb, 0, none⟩) J.length jc) xs R X J ∧ Hd wx w.heap.size vr vx now vj ∧ Below w.heap.size w wx ∧ w.heap.size + 2 ≤ nb
abbrev z35 : Array Value := #[nilS, nilS, .int .i64 0, nilS]
theorem so_down {w : World} {B B' : Nat} {r x : Value} {xs : List Value} {R : Tk.Ls} {X : List Int} (h : SO w B r x xs R X) (hb : B' ≤ B) : SO w B' r x xs R X := ⟨h.1.down hb, Tk1.own_down h.2.1 hb, h.2.2⟩
theorem jr_down {w : World} {B B' : Nat} {v : Value} {J : Jb.Ls} (h : Jb.Row w B v J) (hb : B' ≤ B) : Jb.Row w B' v J := by
  obtain ⟨xs, h1, h2⟩ := h
  exact ⟨xs, World.ownsRow.mono h1 hb, h2⟩
theorem bl_set4 {w : World} {b : Nat} {e : TypeId} {v0 v1 v2 v3 : Value} (h : Bl w b e #[v0, v1, v2, v3]) (u0 u1 u2 u3 : Value) : Bl ((((w.setCell ⟨b, 0, none⟩ u0).setCell ⟨b, 1, none⟩ u1).setCell ⟨b, 2, none⟩ u2).setCell ⟨b, 3, none⟩ u3) b e #[u0, u1, u2, u3] := (((h.set 0 u0).set 1 u1).set 2 u2).set 3 u3
theorem kb4 (w : World) (g : Nat) (u0 u1 u2 u3 : Value) : KB (fun b => b = g) w ((((w.setCell ⟨g, 0, none⟩ u0).setCell ⟨g, 1, none⟩ u1).setCell ⟨g, 2, none⟩ u2).setCell ⟨g, 3, none⟩ u3) :=
  (((kb_set w g 0 u0).trans (kb_set _ g 1 u1)).trans (kb_set _ g 2 u2)).trans (kb_set _ g 3 u3)
/-- the box is filled -/
theorem nx_of {w wx : World} {R : Tk.Ls} {X : List Int} {now : Int} {J : Jb.Ls} {vr vx vj r x : Value} {nb jb jc : Nat} {xs : List Value} {v0 v1 v2 v3 : Value} (hr : ∃ ra rc, r = .slice ra R.length rc) (hx : ∃ xa xc, x = .slice xa X.length xc)
    (h1 : Bl wx nb 30 #[v0, v1, v2, v3]) (h2 : SO wx (w.heap.size + 2) r x xs R X) (h3 : Jb.Row wx (w.heap.size + 2) (.slice (some ⟨jb, 0, none⟩) J.length jc) J) (h4 : Hd wx w.heap.size vr vx now vj) (h5 : Below w.heap.size w wx) (h6 : w.heap.size + 2 ≤ nb) :
    NX w R X now J vr vx vj (.pointer (some ⟨nb, 0, none⟩)) ((((wx.setCell ⟨nb, 0, none⟩ r).setCell ⟨nb, 1, none⟩ x).setCell ⟨nb, 2, none⟩ (.int .i64 now)).setCell ⟨nb, 3, none⟩ (.slice (some ⟨jb, 0, none⟩) J.length jc)) := by
  obtain ⟨ra, rc, rfl⟩ := hr
  obtain ⟨xa, xc, rfl⟩ := hx
  refine ⟨nb, ra, rc, xa, xc, jb, jc, xs, rfl, bl_set4 h1 _ _ _ _, ro_off (e := 30) ⟨h2, h3⟩ (kb4 _ nb _ _ _ _) h1.ty (by decide), ⟨h4.arg.kb (kb4 _ nb _ _ _ _) (fun e => ?_), h4.res.kb (kb4 _ nb _ _ _ _) (fun e => ?_)⟩, bel4 h5 (by omega) _ _ _ _, h6⟩
  · have e' : w.heap.size = nb := e; omega
  · have e' : w.heap.size + 1 = nb := e; omega

theorem Hd.s {w : World} {h : Nat} {vr vx : Value} {now : Int} {vj : Value} (t : Hd w h vr vx now vj) : w.cell? ⟨h, 0, none⟩ = some vr ∧ w.cell? ⟨h, 1, none⟩ = some vx ∧ w.cell? ⟨h, 2, none⟩ = some (.int .i64 now) ∧ w.cell? ⟨h, 3, none⟩ = some vj := ⟨(t.arg.cell 0).trans rfl, (t.arg.cell 1).trans rfl, (t.arg.cell 2).trans rfl, (t.arg.cell 3).trans rfl⟩
theorem nx_hd {w wx : World} {R : Tk.Ls} {X : List Int} {now : Int} {J : Jb.Ls} {vr vx vj v : Value} (h : NX w R X now J vr vx vj v wx) : Hd wx w.heap.size vr vx now vj := by
  obtain ⟨_, _, _, _, _, _, _, _, _, _, _, h, _⟩ := h
  exact h
theorem NX.hid {w wx : World} {R : Tk.Ls} {X : List Int} {now : Int} {J : Jb.Ls} {vr vx vj v : Value} (h : NX w R X now J vr vx vj v wx) : Hid (NX w R X now J vr vx vj v wx) := h

def tmid (P : Nat → Nat) (n k : Nat) : List Value := (List.range n).map fun i => if i < k then .pointer (some ⟨P i, 0, none⟩) else .pointer none
theorem tmid_zero (P : Nat → Nat) (n : Nat) : (madeCells (Value.pointer none).cells (n * 1)).toList = tmid P n 0 := by
  apply List.ext_getElem
  · simp [madeCells, tmid]
  · intro i h1 h2
    simp [madeCells, tmid, Value.cells, Nat.mod_one]
theorem tmid_set (P P' : Nat → Nat) (n k p : Nat) (h : ∀ i, i < k → P' i = P i) (hk : P' k = p) : (tmid P n k).set k (.pointer (some ⟨p, 0, none⟩)) = tmid P' n (k + 1) := by
  apply List.ext_getElem (by simp [tmid])
  intro i h1 h2
  rw [List.getElem_set]
  by_cases e : k = i
  · subst e; simp [tmid, hk]
  · rw [if_neg e]
    simp only [tmid, List.getElem_map, List.getElem_range]
    by_cases x : i < k
    · rw [if_pos x, if_pos (by omega), h i x]
    · rw [if_neg x, if_neg (by omega)]
theorem tmid_at (P : Nat → Nat) (n k i : Nat) (hi : i < n) : (tmid P n k)[i]? = some (if i < k then .pointer (some ⟨P i, 0, none⟩) else .pointer none) := by simp [tmid, hi]
theorem Try.info66 : (Try.prog.info? 66).map (fun i => (i.zero, i.size, i.bytes)) = some (some (.pointer none), 1, 8) := by kernel_rfl

/-- what tying a run gives -/
def TG (w : World) (R : Tk.Ls) (X : List Int) (now : Int) (J : Jb.Ls) (e : Ending) (w' : World) : Prop :=
  Below w.heap.size w w' ∧ ((okR R X now J = false ∧ e = .returned noRun) ∨
    (okR R X now J = true ∧ ∃ ra rc xa xc jb jc tb h xs u a P, e = .returned (.tuple #[rv (.slice ra R.length rc) (.slice xa X.length xc) now (.slice (some ⟨jb, 0, none⟩) J.length jc), .slice (some ⟨tb, 0, none⟩) R.length R.length, .bool true]) ∧
      RO w' w.heap.size (.slice ra R.length rc) (.slice xa X.length xc) (.slice (some ⟨jb, 0, none⟩) J.length jc) xs R X J ∧ w.heap.size ≤ h ∧
      Td w' (tb + 1) R X h jb u a P (fun g => rn R J g R.length) (fun _ => false) R.length ∧ w'.ownsRow w.heap.size 66 1 (.slice (some ⟨tb, 0, none⟩) R.length R.length) R.length (tmid P R.length R.length)))

/-- what stands while a run is tied: its copy, the groups' row, the tasks' row -/
structure LS (w : World) (R : Tk.Ls) (X : List Int) (now : Int) (J : Jb.Ls) (vr vx vj : Value) (nb : Nat) (r x : Value) (jb jc : Nat) (xs : List Value) (h tb : Nat) (P : Nat → Nat) (k : Nat) (wr : World) : Prop where
  box : Bl wr nb 30 #[r, x, .int .i64 now, .slice (some ⟨jb, 0, none⟩) J.length jc]
  ro : RO wr (w.heap.size + 2) r x (.slice (some ⟨jb, 0, none⟩) J.length jc) xs R X J
  hd : Hd wr w.heap.size vr vx now vj
  bel : Below w.heap.size w wr
  nbl : w.heap.size + 2 ≤ nb
  hl : w.heap.size + 2 ≤ h
  tl : w.heap.size + 2 ≤ tb
  grow : wr.ownsRow (w.heap.size + 2) 63 1 (.slice (some ⟨h, 0, none⟩) X.length X.length) X.length (gptrs h X.length)
  trow : wr.ownsRow (w.heap.size + 2) 66 1 (.slice (some ⟨tb, 0, none⟩) R.length R.length) R.length (tmid P R.length k)
section
variable {w : World} {R : Tk.Ls} {X : List Int} {now : Int} {J : Jb.Ls} {vr vx vj : Value} {nb : Nat} {r x : Value} {jb jc : Nat} {xs : List Value} {h tb : Nat} {P : Nat → Nat} {k : Nat} {wr w' : World}
theorem LS.kb {S : Nat → Prop} (t : LS w R X now J vr vx vj nb r x jb jc xs h tb P k wr) (hb : KB S wr w') (hn : ∀ b e, Ty wr b e → (e = 30 ∨ e = 2 ∨ e = 50 ∨ e = 34 ∨ e = 63) → ¬ S b) (htb : ¬ S tb) (hlo : ∀ b, S b → w.heap.size ≤ b) : LS w R X now J vr vx vj nb r x jb jc xs h tb P k w' where
  box := t.box.kb hb (hn _ 30 t.box.ty (Or.inl rfl))
  ro := t.ro.kb hb (fun g hg => by
    obtain ⟨e, he, ht⟩ := ro_ty t.ro g hg
    refine hn g e ht ?_
    rcases he with q | q | q
    · exact Or.inr (Or.inl q)
    · exact Or.inr (Or.inr (Or.inl q))
    · exact Or.inr (Or.inr (Or.inr (Or.inl q))))
  hd := ⟨t.hd.arg.kb hb (hn _ 30 t.hd.arg.ty (Or.inl rfl)), t.hd.res.kb hb (hn _ 30 t.hd.res.ty (Or.inl rfl))⟩
  bel := t.bel.trans (hb.below t.bel.size hlo)
  nbl := t.nbl
  hl := t.hl
  tl := t.tl
  grow := row_kb t.grow hb (fun g hg => hn _ 63 (row_ty t.grow g hg) (Or.inr (Or.inr (Or.inr (Or.inr rfl)))))
  trow := row_kb t.trow hb (fun g hg => by simp [Value.ownBlock] at hg; rw [← hg]; exact htb)
theorem LS.on (t : LS w R X now J vr vx vj nb r x jb jc xs h tb P k wr) (hb : Below wr.heap.size wr w') : LS w R X now J vr vx vj nb r x jb jc xs h tb P k w' :=
  t.kb (S := fun _ => False) (KB.of_below hb) (fun _ _ _ _ y => y) (fun y => y) (fun _ y => y.elim)
/-- a group's block has turned -/
theorem LS.grp (t : LS w R X now J vr vx vj nb r x jb jc xs h tb P k wr) {b : Nat} (hb : KB (fun y => y = b) wr w') (ht : Ty wr b 99) (hlo : w.heap.size ≤ b) : LS w R X now J vr vx vj nb r x jb jc xs h tb P k w' :=
  t.kb hb (fun b' e ht' he hx => by
    have hx' : b' = b := hx
    have : e = 99 := Classical.byContradiction fun hc => (ht'.ne ht hc) hx'
    subst this
    rcases he with q | q | q | q | q <;> exact absurd q (by decide))
    (fun hx => by have hx' : tb = b := hx; exact (row_ty t.trow tb rfl).ne ht (by decide) hx')
    (fun b' hx => by have hx' : b' = b := hx; omega)
/-- the tasks' row takes one more -/
theorem LS.put (t : LS w R X now J vr vx vj nb r x jb jc xs h tb P k wr) {P' : Nat → Nat} {p : Nat} (hP : ∀ i, i < k → P' i = P i) (hp : P' k = p) : LS w R X now J vr vx vj nb r x jb jc xs h tb P' (k + 1) (wr.setCell ⟨tb, k, none⟩ (.pointer (some ⟨p, 0, none⟩))) := by
  have hb := kb_set wr tb k (.pointer (some ⟨p, 0, none⟩))
  have ht := row_ty t.trow tb rfl
  have hn : ∀ b e, Ty wr b e → (e = 30 ∨ e = 2 ∨ e = 50 ∨ e = 34 ∨ e = 63) → ¬ b = tb := fun b e ht' he hx => by
    have : e = 66 := Classical.byContradiction fun hc => (ht'.ne ht hc) hx
    subst this
    rcases he with q | q | q | q | q <;> exact absurd q (by decide)
  have tl' := t.tl
  exact { box := t.box.kb hb (hn _ 30 t.box.ty (Or.inl rfl))
          ro := t.ro.kb hb (fun g hg => by
            obtain ⟨e, he, ht⟩ := ro_ty t.ro g hg
            refine hn g e ht ?_
            rcases he with q | q | q
            · exact Or.inr (Or.inl q)
            · exact Or.inr (Or.inr (Or.inl q))
            · exact Or.inr (Or.inr (Or.inr (Or.inl q))))
          hd := ⟨t.hd.arg.kb hb (hn _ 30 t.hd.arg.ty (Or.inl rfl)), t.hd.res.kb hb (hn _ 30 t.hd.res.ty (Or.inl rfl))⟩
          bel := t.bel.trans (hb.below t.bel.size (fun b hx => by have hx' : b = tb := hx; omega))
          nbl := t.nbl
          hl := t.hl
          tl := t.tl
          grow := row_kb t.grow hb (fun g hg => hn _ 63 (row_ty t.grow g hg) (Or.inr (Or.inr (Or.inr (Or.inr rfl)))))
          trow := by rw [← tmid_set P P' R.length k p hP hp]; exact (t.trow.stored k _).1 }
end
/-- one more tied -/
theorem Td.more {w w' : World} {B : Nat} {R : Tk.Ls} {X : List Int} {h jb : Nat} {u a : Nat → Value} {P : Nat → Nat} {run : Int → Int} {k : Nat} (t : Td w B R X h jb u a P run (fun _ => false) k) (hb : Below w.heap.size w w') {p : Nat} {uk ak : Value}
    (hp : Bl w' p 65 (tcs R h jb k uk ak false)) (hlo : B ≤ p) (hpw : w.heap.size ≤ p) (hak : w'.ownsRow B 66 1 ak (Tk.cl R k).length (ptrs P (Tk.cl R k))) (haf : ∀ i, i ≤ k → ∀ z, z ∈ Tk.cl R i → (z - 1).toNat < i) :
    Td w' B R X h jb (fun i => if i = k then uk else u i) (fun i => if i = k then ak else a i) (fun i => if i = k then p else P i) run (fun _ => false) (k + 1) := by
  have t' := t.on hb
  have hpt : ∀ i, i ≤ k → ptrs P (Tk.cl R i) = ptrs (fun i => if i = k then p else P i) (Tk.cl R i) := fun i hi => ptrs_congr (fun z hz => by
    have := haf i hi z hz
    rw [if_neg (by omega)])
  refine ⟨fun i hi => ?_, fun i hi => ?_, t'.grp, fun i hi => ?_, fun i j hij hj => ?_⟩
  · by_cases e : i = k
    · subst e; simp only [if_pos]; exact hp
    · simp only [if_neg e]; exact t'.tsk i (by omega)
  · by_cases e : i = k
    · subst e; simp only [if_pos]; rw [← hpt i (Nat.le_refl _)]; exact hak
    · simp only [if_neg e]; rw [← hpt i (by omega)]; exact t'.aft i (by omega)
  · by_cases e : i = k
    · subst e; simp only [if_pos]; exact hlo
    · simp only [if_neg e]; exact t'.low i (by omega)
  · have hi : ¬ i = k := by omega
    simp only [if_neg hi]
    by_cases e : j = k
    · subst e
      simp only [if_pos]
      have := (t.tsk i hij).lt
      omega
    · simp only [if_neg e]; exact t.inj i j hij (by omega)
/-- a group is entered -/
theorem Td.enter {w w' : World} {B : Nat} {R : Tk.Ls} {X : List Int} {h jb : Nat} {u a : Nat → Value} {P : Nat → Nat} {run run' : Int → Int} {st : Nat → Bool} {k g : Nat} (t : Td w B R X h jb u a P run st k) (hb : KB (fun b => b = h + 1 + g) w w') (hg : g < X.length)
    (hB : Bl w' (h + 1 + g) 99 (gcs (X.getD g 0) (run' ((g : Int) + 1)))) (hr : ∀ q, q < X.length → q ≠ g → run' ((q : Int) + 1) = run ((q : Int) + 1)) : Td w' B R X h jb u a P run' st k where
  tsk i hi := (t.tsk i hi).kb hb (fun e => (t.tsk i hi).ty.ne (t.grp g hg).ty (by decide) e)
  aft i hi := row_kb (t.aft i hi) hb (fun b hb' e => (row_ty (t.aft i hi) b hb').ne (t.grp g hg).ty (by decide) e)
  grp q hq := by
    by_cases e : q = g
    · subst e; exact hB
    · rw [hr q hq e]
      exact (t.grp q hq).kb hb (fun x => by have x' : h + 1 + q = h + 1 + g := x; omega)
  low := t.low
  inj := t.inj
/-- nothing turned in the counts -/
theorem Td.run {w : World} {B : Nat} {R : Tk.Ls} {X : List Int} {h jb : Nat} {u a : Nat → Value} {P : Nat → Nat} {run run' : Int → Int} {st : Nat → Bool} {k : Nat} (t : Td w B R X h jb u a P run st k) (hr : ∀ q, q < X.length → run' ((q : Int) + 1) = run ((q : Int) + 1)) : Td w B R X h jb u a P run' st k :=
  ⟨t.tsk, t.aft, fun q hq => by rw [hr q hq]; exact t.grp q hq, t.low, t.inj⟩
end Go.Proofs.Ytfhpomfdkpfooaa.Ty
