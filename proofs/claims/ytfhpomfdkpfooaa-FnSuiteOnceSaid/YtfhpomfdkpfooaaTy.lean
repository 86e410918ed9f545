/- Blocks of memory by their types: what is as it was. Tied tasks and groups. -/
import Derived.Test.YtfhpomfdkpfooaaOk
import Derived.Test.YtfhpomfdkpfooaaCq
import Derived.Test.YtfhpomfdkpfooaaLocks
import Derived.Conc.MuLone
namespace Go.Proofs.Ytfhpomfdkpfooaa.Ty
open Go.ChangeShapes Go.WideShapes Go.ChangeAt Go.RowKit
open Go.MuLone
open Go.Proofs.Ytfhpomfdkpfooaa.Lists Go.Proofs.Ytfhpomfdkpfooaa.Tm Go.Proofs.Ytfhpomfdkpfooaa.Rk Go.Proofs.Ytfhpomfdkpfooaa.Ru

/-- A block and its cells. -/
def Bl (w : World) (b : Nat) (e : TypeId) (cs : Array Value) : Prop := w.heap[b]? = some (.cells cs e (0, 0))
def Ty (w : World) (b : Nat) (e : TypeId) : Prop := ∃ c f, w.heap[b]? = some (.cells c e f)
theorem Bl.ty {w : World} {b : Nat} {e : TypeId} {cs : Array Value} (h : Bl w b e cs) : Ty w b e := ⟨_, _, h⟩
theorem Ty.lt {w : World} {b : Nat} {e : TypeId} (h : Ty w b e) : b < w.heap.size := by
  obtain ⟨c, f, h⟩ := h
  exact (Array.getElem?_eq_some_iff.1 h).1
theorem Bl.lt {w : World} {b : Nat} {e : TypeId} {cs : Array Value} (h : Bl w b e cs) : b < w.heap.size := h.ty.lt
theorem Ty.ne {w : World} {b b' : Nat} {e e' : TypeId} (h : Ty w b e) (h' : Ty w b' e') (he : e ≠ e') : b ≠ b' := by
  rintro rfl
  obtain ⟨c, f, h⟩ := h
  obtain ⟨c', f', h'⟩ := h'
  rw [h] at h'
  simp at h'
  exact he h'.2.1
theorem Bl.cell {w : World} {b : Nat} {e : TypeId} {cs : Array Value} (h : Bl w b e cs) (j : Nat) : w.cell? ⟨b, j, none⟩ = cs[j]? := by
  unfold Bl at h
  simp [World.cell?, h]
theorem Bl.fz {w : World} {b : Nat} {e : TypeId} {cs : Array Value} (h : Bl w b e cs) (j : Nat) : w.frozen? ⟨b, j, none⟩ = false := by
  unfold Bl at h
  simp [World.frozen?, h]
theorem Bl.kb {S : Nat → Prop} {w w' : World} {b : Nat} {e : TypeId} {cs : Array Value} (h : Bl w b e cs) (k : KB S w w') (hn : ¬ S b) : Bl w' b e cs := (k.block b h.lt hn).trans h
theorem Ty.kb {S : Nat → Prop} {w w' : World} {b : Nat} {e : TypeId} (h : Ty w b e) (k : KB S w w') (hn : ¬ S b) : Ty w' b e := by
  have hl := h.lt
  obtain ⟨c, f, h⟩ := h
  exact ⟨c, f, (k.block b hl hn).trans h⟩
theorem Bl.on {w w' : World} {b : Nat} {e : TypeId} {cs : Array Value} (h : Bl w b e cs) (k : Below w.heap.size w w') : Bl w' b e cs := (k.block b h.lt).trans h
theorem Ty.on {w w' : World} {b : Nat} {e : TypeId} (h : Ty w b e) (k : Below w.heap.size w w') : Ty w' b e := by
  have hl := h.lt
  obtain ⟨c, f, h⟩ := h
  exact ⟨c, f, (k.block b hl).trans h⟩
theorem Bl.set {w : World} {b : Nat} {e : TypeId} {cs : Array Value} (h : Bl w b e cs) (j : Nat) (u : Value) : Bl (w.setCell ⟨b, j, none⟩ u) b e (cs.setIfInBounds j u) := by
  have hl := h.lt
  unfold Bl at h ⊢
  have hg : w.heap[b] = .cells cs e (0, 0) := by rw [Array.getElem?_eq_getElem hl] at h; exact Option.some.inj h
  simp [World.setCell, hl]
  rw [Array.getElem_modify_self, hg]
theorem Bl.new (w : World) (e : TypeId) (cs : Array Value) : Bl (w.alloc (.cells cs e)) w.heap.size e cs := by
  unfold Bl
  simp [World.alloc, -World.alloc_eq]
theorem kb_set (w : World) (g o : Nat) (u : Value) : KB (fun b => b = g) w (w.setCell ⟨g, o, none⟩ u) := KB.of_set w g o u rfl
theorem row_ty {w : World} {base e k n : Nat} {v : Value} {xs : List Value} (h : w.ownsRow base e k v n xs) (g : Nat) (hg : v.ownBlock = some g) : Ty w g e := by
  rcases h.2 with ⟨rfl, _⟩ | ⟨g', cap, cur, rfl, _, h3, _⟩
  · simp [Value.ownBlock] at hg
  · simp [Value.ownBlock] at hg
    subst hg
    exact ⟨_, _, h3⟩

/-- a group's cells -/
abbrev gcs (lim run : Int) : Array Value := #[.int .i32 0, .int .u32 0, .int .i64 lim, .int .i64 run]
set_option maxHeartbeats 1000000 in
theorem enter_any (w : World) (g : Nat) (lim run : Int) (h : Bl w g 99 (gcs lim run)) (h0 : 0 ≤ run) (h1 : run ≤ 1000) :
    Calls Try.prog 38 #[.pointer (some ⟨g, 0, none⟩)] w fun e w' => e = .returned (.bool (decide (run < lim))) ∧ Bl w' g 99 (gcs lim (if run < lim then run + 1 else run)) ∧ KB (fun b => b = g) w w' := by
  have c0 : w.cell? ⟨g, 0, none⟩ = some (.int .i32 0) := (h.cell 0).trans rfl
  obtain ⟨W1, hW1⟩ : ∃ y, y = w.setCell ⟨g, 0, none⟩ (.int .i32 1) := ⟨_, rfl⟩
  have HW1 : Hid (W1 = w.setCell ⟨g, 0, none⟩ (.int .i32 1)) := hW1
  have K1 : Hid (KB (fun b => b = g) w W1) := (by show KB _ _ _; rw [hW1]; exact kb_set w g 0 _)
  have S1 : Hid (Bl W1 g 99 #[.int .i32 1, .int .u32 0, .int .i64 lim, .int .i64 run]) := (by show Bl _ _ _ _; rw [hW1]; exact h.set 0 _)
  have f0 := h.fz 0
  have d0 : W1.cell? ⟨g, 0, none⟩ = some (.int .i32 1) := (S1.out.cell 0).trans rfl
  have d2 : W1.cell? ⟨g, 2, none⟩ = some (.int .i64 lim) := (S1.out.cell 2).trans rfl
  have d3 : W1.cell? ⟨g, 3, none⟩ = some (.int .i64 run) := (S1.out.cell 3).trans rfl
  have SD : Hid (∀ m, Bl (W1.drewN m) g 99 #[.int .i32 1, .int .u32 0, .int .i64 lim, .int .i64 run]) := fun m => S1.out
  clear hW1 h
  by_cases hc : lim ≤ run
  · have e1 : decide (run < lim) = false := decide_eq_false (by omega)
    rw [e1, if_neg (by omega)]
    have SE : Hid (∀ m, Bl ((W1.drewN m).setCell ⟨g, 0, none⟩ (.int .i32 0)) g 99 (gcs lim run) ∧ KB (fun b => b = g) w ((W1.drewN m).setCell ⟨g, 0, none⟩ (.int .i32 0))) := fun m => ⟨(SD.out m).set 0 _, K1.out.trans ((KB.of_below (S := fun b => b = g) (below_drewN (Below.refl _ _) m)).trans (kb_set _ g 0 _))⟩
    have DE : Hid (∀ m, (W1.drewN m).cell? ⟨g, 0, none⟩ = some (.int .i32 1) ∧ (W1.drewN m).frozen? ⟨g, 0, none⟩ = false) := fun m => ⟨((SD.out m).cell 0).trans rfl, (SD.out m).fz 0⟩
    have df0 := S1.out.fz 0
    clear e1
    go_enter_defers Try.func38, Try.ntmps38
    go_wp2_with (go_at_call 54; refine (lock_free Try.muLib ⟨g, 0, none⟩ _ c0 f0).mono ?_; rintro e w' ⟨rfl, rfl⟩; rw [← HW1.out])
    go_quiet (fail)
    go_wp2_with fail
    refine leaves_cons (f := 55) (args := #[.pointer (some ⟨g, 0, none⟩)]) (by simp) (by simp [go_sem]) ?_
    refine (unlock_deferred Try.muLib ⟨g, 0, none⟩ .returning _ (DE.out _).1 (DE.out _).2).mono ?_
    rintro e u' w'' ⟨rfl, rfl, rfl⟩
    exact ⟨_, results_tmp rfl _ _ _, rfl, SE.out _⟩
  · have e1 : decide (run < lim) = true := decide_eq_true (by omega)
    rw [e1, if_pos (by omega)]
    have S3 : Hid (∀ m, Bl ((W1.drewN m).setCell ⟨g, 3, none⟩ (.int .i64 (run + 1))) g 99 #[.int .i32 1, .int .u32 0, .int .i64 lim, .int .i64 (run + 1)]) := fun m => (SD.out m).set 3 _
    have SE : Hid (∀ m, Bl (((W1.drewN m).setCell ⟨g, 3, none⟩ (.int .i64 (run + 1))).setCell ⟨g, 0, none⟩ (.int .i32 0)) g 99 (gcs lim (run + 1)) ∧ KB (fun b => b = g) w (((W1.drewN m).setCell ⟨g, 3, none⟩ (.int .i64 (run + 1))).setCell ⟨g, 0, none⟩ (.int .i32 0)) ∧ ((W1.drewN m).setCell ⟨g, 3, none⟩ (.int .i64 (run + 1))).cell? ⟨g, 0, none⟩ = some (.int .i32 1) ∧ ((W1.drewN m).setCell ⟨g, 3, none⟩ (.int .i64 (run + 1))).frozen? ⟨g, 0, none⟩ = false) := fun m => ⟨(S3.out m).set 0 _, (K1.out.trans ((KB.of_below (S := fun b => b = g) (below_drewN (Below.refl _ _) m)).trans (kb_set _ g 3 _))).trans (kb_set _ g 0 _), ((S3.out m).cell 0).trans rfl, (S3.out m).fz 0⟩
    have df0 := S1.out.fz 0
    have df3 := S1.out.fz 3
    clear e1
    go_enter_defers Try.func38, Try.ntmps38
    go_wp2_with (go_at_call 54; refine (lock_free Try.muLib ⟨g, 0, none⟩ _ c0 f0).mono ?_; rintro e w' ⟨rfl, rfl⟩; rw [← HW1.out])
    go_quiet (fail)
    go_wp2_with fail
    refine leaves_cons (f := 55) (args := #[.pointer (some ⟨g, 0, none⟩)]) (by simp) (by simp [go_sem]) ?_
    refine (unlock_deferred Try.muLib ⟨g, 0, none⟩ .returning _ (SE.out _).2.2.1 (SE.out _).2.2.2).mono ?_
    rintro e u' w'' ⟨rfl, rfl, rfl⟩
    exact ⟨_, results_tmp rfl _ _ _, rfl, (SE.out _).1, (SE.out _).2.1⟩

/-- the tied task i: its cells -/
abbrev tcs (R : Tk.Ls) (h jb i : Nat) (u a : Value) (st : Bool) : Array Value :=
  #[.int .i64 ((i : Int) + 1), u, .int .i64 (Tk.cz R i 1), .int .i64 (Tk.cz R i 2), .int .i64 (Tk.cz R i 3), .pointer (some ⟨jb, i * 2, none⟩), a, .pointer (some ⟨h + 1 + (Tk.cz R i 1 - 1).toNat, 0, none⟩), .bool st]
def ptrs (P : Nat → Nat) (L : List Int) : List Value := L.map fun z => .pointer (some ⟨P (z - 1).toNat, 0, none⟩)

/-- The first k tasks of a run tied: block P i holds the i-th, a i what it comes behind, block h + 1 + g group g. -/
structure Td (w : World) (B : Nat) (R : Tk.Ls) (X : List Int) (h jb : Nat) (u a : Nat → Value) (P : Nat → Nat) (run : Int → Int) (st : Nat → Bool) (k : Nat) : Prop where
  tsk : ∀ i, i < k → Bl w (P i) 65 (tcs R h jb i (u i) (a i) (st i))
  aft : ∀ i, i < k → w.ownsRow B 66 1 (a i) (Tk.cl R i).length (ptrs P (Tk.cl R i))
  grp : ∀ g, g < X.length → Bl w (h + 1 + g) 99 (gcs (X.getD g 0) (run ((g : Int) + 1)))
  low : ∀ i, i < k → B ≤ P i
  inj : ∀ i j, i < j → j < k → P i ≠ P j
theorem Td.kb {S : Nat → Prop} {w w' : World} {B : Nat} {R : Tk.Ls} {X : List Int} {h jb : Nat} {u a : Nat → Value} {P : Nat → Nat} {run : Int → Int} {st : Nat → Bool} {k : Nat} (t : Td w B R X h jb u a P run st k) (hb : KB S w w')
    (h69 : ∀ b, Ty w b 65 → ¬ S b) (h95 : ∀ b, Ty w b 99 → ¬ S b) (h65 : ∀ b, B ≤ b → Ty w b 66 → ¬ S b) : Td w' B R X h jb u a P run st k where
  tsk i hi := (t.tsk i hi).kb hb (h69 _ (t.tsk i hi).ty)
  aft i hi := row_kb (t.aft i hi) hb (fun g hg => h65 _ ((t.aft i hi).lt g hg).1 (row_ty (t.aft i hi) g hg))
  grp g hg := (t.grp g hg).kb hb (h95 _ (t.grp g hg).ty)
  low := t.low
  inj := t.inj
theorem Td.on {w w' : World} {B : Nat} {R : Tk.Ls} {X : List Int} {h jb : Nat} {u a : Nat → Value} {P : Nat → Nat} {run : Int → Int} {st : Nat → Bool} {k : Nat} (t : Td w B R X h jb u a P run st k) (hb : Below w.heap.size w w') : Td w' B R X h jb u a P run st k :=
  t.kb (S := fun _ => False) (KB.of_below hb) (fun _ _ x => x) (fun _ _ x => x) (fun _ _ _ x => x)
/-- A block of another type has turned. -/
theorem Td.off {w w' : World} {B : Nat} {R : Tk.Ls} {X : List Int} {h jb : Nat} {u a : Nat → Value} {P : Nat → Nat} {run : Int → Int} {st : Nat → Bool} {k : Nat} (t : Td w B R X h jb u a P run st k) {b : Nat} {e : TypeId} (hb : KB (fun x => x = b) w w') (hty : Ty w b e) (he : e ≠ 65 ∧ e ≠ 66 ∧ e ≠ 99) : Td w' B R X h jb u a P run st k :=
  t.kb hb (fun _ ht hx => (ht.ne hty (Ne.symm he.1)) hx) (fun _ ht hx => (ht.ne hty (Ne.symm he.2.2)) hx) (fun _ _ ht hx => (ht.ne hty (Ne.symm he.2.1)) hx)
theorem ptrs_congr {P P' : Nat → Nat} {L : List Int} (h : ∀ z, z ∈ L → P (z - 1).toNat = P' (z - 1).toNat) : ptrs P L = ptrs P' L := by
  unfold ptrs
  exact List.map_congr_left (fun z hz => by rw [h z hz])
/-- A run whose blocks are of three types. -/
theorem ro_ty {w : World} {base : Nat} {r x j : Value} {xs : List Value} {R : Tk.Ls} {X : List Int} {J : Jb.Ls} (h : RO w base r x j xs R X J) (g : Nat) (hg : RB r x j xs R.length g) : ∃ e, (e = 2 ∨ e = 50 ∨ e = 34) ∧ Ty w g e := by
  rcases hg with (hg | hg) | hg
  · rcases hg with hg | ⟨i, hi, hg⟩
    · exact ⟨50, Or.inr (Or.inl rfl), row_ty h.1.1.1 g hg⟩
    · obtain ⟨_, _, _, u, hu, hr⟩ := h.1.1.2.1 i hi
      refine ⟨2, Or.inl rfl, row_ty hr g ?_⟩
      unfold bk at hg
      rw [hu] at hg
      exact hg
  · exact ⟨2, Or.inl rfl, row_ty h.1.2.1 g hg⟩
  · obtain ⟨ys, hy, _⟩ := h.2
    exact ⟨34, Or.inr (Or.inr rfl), row_ty hy g hg⟩
theorem ro_off {w w' : World} {base : Nat} {r x j : Value} {xs : List Value} {R : Tk.Ls} {X : List Int} {J : Jb.Ls} (h : RO w base r x j xs R X J) {b : Nat} {e : TypeId} (hb : KB (fun y => y = b) w w') (hty : Ty w b e) (he : e ≠ 2 ∧ e ≠ 50 ∧ e ≠ 34) : RO w' base r x j xs R X J :=
  h.kb hb (fun g hg hx => by
    have hx' : g = b := hx
    obtain ⟨e', he', ht⟩ := ro_ty h g hg
    have he2 : e' = e := Classical.byContradiction fun hc => (ht.ne hty hc) hx'
    subst he2
    rcases he' with q | q | q
    · exact he.1 q
    · exact he.2.1 q
    · exact he.2.2 q)
end Go.Proofs.Ytfhpomfdkpfooaa.Ty
