/- A request by value: measured, copied, compared, marked. -/
import Derived.Test.YtkegllbedejkgaaDoorWd
import Derived.Test.YtkegllbedejkgaaDoorRq
namespace Go.Proofs.YtkegllbedejkgaaDoor.Ix
open Go.ChangeShapes Go.WideShapes Go.ChangeAt Go.RowKit
open Lists (ints)
/-- a block of four values -/
def Q4 (w : World) (b t : Nat) (x0 x1 x2 x3 : Value) : Prop := w.heap[b]? = some (.cells #[x0, x1, x2, x3] t (0, 0))
theorem Q4.lt {w : World} {b t : Nat} {x0 x1 x2 x3 : Value} (h : Q4 w b t x0 x1 x2 x3) : b < w.heap.size := by
  unfold Q4 at h
  rcases Nat.lt_or_ge b w.heap.size with x | x
  · exact x
  · rw [Array.getElem?_eq_none x] at h; cases h
theorem Q4.on {w w' : World} {B b t : Nat} {x0 x1 x2 x3 : Value} (h : Q4 w b t x0 x1 x2 x3) (hb : Below B w w') (hg : b < B) : Q4 w' b t x0 x1 x2 x3 := (hb.block b hg).trans h
theorem Q4.new (w : World) (t : Nat) (x0 x1 x2 x3 : Value) : Q4 (w.alloc (.cells #[x0, x1, x2, x3] t)) w.heap.size t x0 x1 x2 x3 := by
  unfold Q4 World.alloc
  simp
theorem Q4.alloc {w : World} {b t : Nat} {x0 x1 x2 x3 : Value} (h : Q4 w b t x0 x1 x2 x3) (o : Obj) : Q4 (w.alloc o) b t x0 x1 x2 x3 := h.on ((Below.refl _ _).alloc (Nat.le_refl _) _) h.lt
theorem Q4.keep {w : World} {b t g o : Nat} {u x0 x1 x2 x3 : Value} (h : Q4 w b t x0 x1 x2 x3) (hg : b ≠ g) : Q4 (w.setCell ⟨g, o, none⟩ u) b t x0 x1 x2 x3 := (Below.heap_setCell w ⟨g, o, none⟩ u b hg).trans h
theorem Q4.cells {w : World} {b t : Nat} {x0 x1 x2 x3 : Value} (h : Q4 w b t x0 x1 x2 x3) : w.cell? ⟨b, 0, none⟩ = some x0 ∧ w.cell? ⟨b, 1, none⟩ = some x1 ∧ w.cell? ⟨b, 2, none⟩ = some x2 ∧ w.cell? ⟨b, 3, none⟩ = some x3 ∧ ∀ o, w.frozen? ⟨b, o, none⟩ = false := by
  unfold Q4 at h
  simp [World.cell?, World.frozen?, h]
theorem Q4.s0 {w : World} {b t : Nat} {x0 x1 x2 x3 : Value} (h : Q4 w b t x0 x1 x2 x3) (u : Value) : Q4 (w.setCell ⟨b, 0, none⟩ u) b t u x1 x2 x3 := by
  have hlt := h.lt
  unfold Q4 at h ⊢
  have h' : w.heap[b] = .cells #[x0, x1, x2, x3] t (0, 0) := by simpa [Array.getElem?_eq_getElem hlt] using h
  show (w.heap.modify b _)[b]? = _
  rw [Array.getElem?_eq_getElem (by simpa using hlt), Array.getElem_modify_self, h']
  rfl
theorem Q4.s1 {w : World} {b t : Nat} {x0 x1 x2 x3 : Value} (h : Q4 w b t x0 x1 x2 x3) (u : Value) : Q4 (w.setCell ⟨b, 1, none⟩ u) b t x0 u x2 x3 := by
  have hlt := h.lt
  unfold Q4 at h ⊢
  have h' : w.heap[b] = .cells #[x0, x1, x2, x3] t (0, 0) := by simpa [Array.getElem?_eq_getElem hlt] using h
  show (w.heap.modify b _)[b]? = _
  rw [Array.getElem?_eq_getElem (by simpa using hlt), Array.getElem_modify_self, h']
  rfl
theorem Q4.s2 {w : World} {b t : Nat} {x0 x1 x2 x3 : Value} (h : Q4 w b t x0 x1 x2 x3) (u : Value) : Q4 (w.setCell ⟨b, 2, none⟩ u) b t x0 x1 u x3 := by
  have hlt := h.lt
  unfold Q4 at h ⊢
  have h' : w.heap[b] = .cells #[x0, x1, x2, x3] t (0, 0) := by simpa [Array.getElem?_eq_getElem hlt] using h
  show (w.heap.modify b _)[b]? = _
  rw [Array.getElem?_eq_getElem (by simpa using hlt), Array.getElem_modify_self, h']
  rfl
theorem Q4.s3 {w : World} {b t : Nat} {x0 x1 x2 x3 : Value} (h : Q4 w b t x0 x1 x2 x3) (u : Value) : Q4 (w.setCell ⟨b, 3, none⟩ u) b t x0 x1 x2 u := by
  have hlt := h.lt
  unfold Q4 at h ⊢
  have h' : w.heap[b] = .cells #[x0, x1, x2, x3] t (0, 0) := by simpa [Array.getElem?_eq_getElem hlt] using h
  show (w.heap.modify b _)[b]? = _
  rw [Array.getElem?_eq_getElem (by simpa using hlt), Array.getElem_modify_self, h']
  rfl
theorem own_set {w : World} {base n k : Nat} {e : TypeId} {v : Value} {xs : List Value} (h : w.ownsRow base e k v n xs) (g o : Nat) (u : Value) (hg : g < base) : (w.setCell ⟨g, o, none⟩ u).ownsRow base e k v n xs :=
  En.row_grown h (Lists.grown_setCell (World.grownBy.refl w (some g)) o u) (fun g' hg' e => by have := (h.lt g' hg').1; simp at e; omega)
/-- a request's lists, owned, each apart -/
structure RqO (w : World) (base : Nat) (vP vT vS vL : Value) (R : Rq) : Prop where
  p : w.ownsRow base 9 1 vP R.1.length (strs R.1)
  t : w.ownsRow base 2 1 vT R.2.1.length (ints R.2.1)
  s : w.ownsRow base 2 1 vS R.2.2.1.length (ints R.2.2.1)
  l : w.ownsRow base 2 1 vL R.2.2.2.length (ints R.2.2.2)
  d1 : ∀ g, vP.ownBlock = some g → vT.ownBlock ≠ some g ∧ vS.ownBlock ≠ some g ∧ vL.ownBlock ≠ some g
  d2 : ∀ g, vT.ownBlock = some g → vS.ownBlock ≠ some g ∧ vL.ownBlock ≠ some g
  d3 : ∀ g, vS.ownBlock = some g → vL.ownBlock ≠ some g
theorem RqO.on {w w' : World} {base : Nat} {vP vT vS vL : Value} {R : Rq} (h : RqO w base vP vT vS vL R) (hb : Below w.heap.size w w') : RqO w' base vP vT vS vL R := ⟨En.row_below h.p hb, En.row_below h.t hb, En.row_below h.s hb, En.row_below h.l hb, h.d1, h.d2, h.d3⟩
/-- the blocks of a request's lists -/
def RqB (vP vT vS vL : Value) (g : Nat) : Prop := vP.ownBlock = some g ∨ vT.ownBlock = some g ∨ vS.ownBlock = some g ∨ vL.ownBlock = some g
theorem RqO.lt {w : World} {base : Nat} {vP vT vS vL : Value} {R : Rq} (h : RqO w base vP vT vS vL R) (g : Nat) (hg : RqB vP vT vS vL g) : base ≤ g ∧ g < w.heap.size := by
  rcases hg with x | x | x | x
  · exact h.p.lt g x
  · exact h.t.lt g x
  · exact h.s.lt g x
  · exact h.l.lt g x
theorem RqO.grown {w w' : World} {base : Nat} {vP vT vS vL : Value} {R : Rq} {row : Option Nat} (h : RqO w base vP vT vS vL R) (hg : w.grownBy w' row) (hne : ∀ g, RqB vP vT vS vL g → row ≠ some g) : RqO w' base vP vT vS vL R :=
  ⟨En.row_grown h.p hg (fun g x => hne g (.inl x)), En.row_grown h.t hg (fun g x => hne g (.inr (.inl x))), En.row_grown h.s hg (fun g x => hne g (.inr (.inr (.inl x)))), En.row_grown h.l hg (fun g x => hne g (.inr (.inr (.inr x)))), h.d1, h.d2, h.d3⟩
/-- a request not too great -/
def FineR (R : Rq) : Prop := (R.1.length ≤ 1048576 ∧ ∀ i, i < R.1.length → (R.1.getD i ⟨#[]⟩).size ≤ 1048576) ∧ R.2.1.length ≤ 1048576 ∧ R.2.2.1.length ≤ 1048576 ∧ R.2.2.2.length ≤ 1048576
theorem RqO.reads {w : World} {base : Nat} {vP vT vS vL : Value} {R : Rq} (h : RqO w base vP vT vS vL R) (hf : FineR R) : RqR w vP vT vS vL R := ⟨sreads_row h.p, Lists.reads_row h.t, Lists.reads_row h.s, Lists.reads_row h.l, hf.1.2⟩
/-- what lies in memory of a request that came in -/
structure RqI (w : World) (vP vT vS vL : Value) (R : Rq) : Prop where
  p : Reads w vP R.1
  t : Lists.Reads w vT R.2.1
  s : Lists.Reads w vS R.2.2.1
  l : Lists.Reads w vL R.2.2.2
  z : ∀ i, i < R.1.length → (R.1.getD i ⟨#[]⟩).size < 9223372036854775808
theorem RqI.on {w w' : World} {vP vT vS vL : Value} {R : Rq} (h : RqI w vP vT vS vL R) (hb : Below w.heap.size w w') : RqI w' vP vT vS vL R := ⟨h.p.on hb, h.t.on hb, h.s.on hb, h.l.on hb, h.z⟩
theorem below_new (w : World) (o : Obj) : Below w.heap.size w (w.alloc o) := (Below.refl _ _).alloc (Nat.le_refl _) _

set_option maxHeartbeats 1000000 in
theorem szR_any (R : Rq) (vP vT vS vL : Value) (l : Int) (w : World) (h0 : 0 ≤ l) (h1 : l ≤ 1048576) (h : RqI w vP vT vS vL R) :
    Calls Tryd.prog 4 #[.agg #[vP, vT, vS, vL], .int .i64 l] w fun e w' => (∃ r : Int, e = .returned (.int .i64 r) ∧ (0 ≤ r → FineR R) ∧ r ≤ 1048576) ∧ Below w.heap.size w w' := by
  have hb := below_new w (.cells #[vP, vT, vS, vL] 25)
  have h' := h.on hb
  have Q := Q4.new w 25 vP vT vS vL
  obtain ⟨w0, hw0⟩ : ∃ w0, w0 = w.alloc (.cells #[vP, vT, vS, vL] 25) := ⟨_, rfl⟩
  have HW : Hid (w0 = w.alloc (.cells #[vP, vT, vS, vL] 25)) := hw0
  rw [← hw0] at hb h' Q
  have BB : Hid (Below w.heap.size w w0) := hb
  have S1 : Hid (Calls Tryd.prog 9 #[vP, .int .i64 l] w0 fun e w' => (∃ r : Int, e = .returned (.int .i64 r) ∧ (0 ≤ r → R.1.length ≤ 1048576 ∧ ∀ i, i < R.1.length → (R.1.getD i ⟨#[]⟩).size ≤ 1048576) ∧ r ≤ 1048576) ∧ w' = w0) := szS_any vP R.1 l w0 h0 h1 h'.p h'.z
  have S2 : Hid (∀ l, 0 ≤ l → l ≤ 1048576 → Calls Tryd.prog 10 #[vT, .int .i64 l] w0 fun e w' => (∃ r : Int, e = .returned (.int .i64 r) ∧ (0 ≤ r → R.2.1.length ≤ 1048576) ∧ r ≤ 1048576) ∧ w' = w0) := fun l a b => szI_any vT _ l w0 a b h'.t
  have S3 : Hid (∀ l, 0 ≤ l → l ≤ 1048576 → Calls Tryd.prog 10 #[vS, .int .i64 l] w0 fun e w' => (∃ r : Int, e = .returned (.int .i64 r) ∧ (0 ≤ r → R.2.2.1.length ≤ 1048576) ∧ r ≤ 1048576) ∧ w' = w0) := fun l a b => szI_any vS _ l w0 a b h'.s
  have S4 : Hid (∀ l, 0 ≤ l → l ≤ 1048576 → Calls Tryd.prog 10 #[vL, .int .i64 l] w0 fun e w' => (∃ r : Int, e = .returned (.int .i64 r) ∧ (0 ≤ r → R.2.2.2.length ≤ 1048576) ∧ r ≤ 1048576) ∧ w' = w0) := fun l a b => szI_any vL _ l w0 a b h'.l
  obtain ⟨c0, c1, c2, c3, _⟩ := Q.cells
  obtain ⟨_, _, e0⟩ := h.p.form
  obtain ⟨_, _, e1⟩ := h.t.form
  obtain ⟨_, _, e2⟩ := h.s.form
  obtain ⟨_, _, e3⟩ := h.l.form
  obtain ⟨X, hX⟩ : ∃ X, X = w.heap.size := ⟨_, rfl⟩
  have HX : Hid (X = w.heap.size) := hX
  rw [← hX] at c0 c1 c2 c3
  have HF : Hid ((R.1.length ≤ 1048576 ∧ ∀ i, i < R.1.length → (R.1.getD i ⟨#[]⟩).size ≤ 1048576) → R.2.1.length ≤ 1048576 → R.2.2.1.length ≤ 1048576 → R.2.2.2.length ≤ 1048576 → FineR R) := fun a b c d => ⟨a, b, c, d⟩
  subst e0 e1 e2 e3
  clear h h' hb Q hw0 hX
  go_enter Tryd.func4, Tryd.ntmps4
  go_upto_region 1 with fail
  rw [← HW.out, ← HX.out]
  go_wp2_with fail
  refine S1.out.mono ?_
  rintro e w1 ⟨⟨r1, rfl, f1, g1⟩, hw⟩
  subst hw
  have F1 : Hid (0 ≤ r1 → R.1.length ≤ 1048576 ∧ ∀ i, i < R.1.length → (R.1.getD i ⟨#[]⟩).size ≤ 1048576) := f1
  clear f1 S1
  by_cases n1 : r1 < 0
  · go_wp2_with fail
    go_ret
    exact ⟨⟨-1, rfl, fun h => by omega, by omega⟩, BB.out⟩
  go_wp2_with fail
  refine (S2.out _ (by omega) g1).mono ?_
  rintro e w2 ⟨⟨r2, rfl, f2, g2⟩, hw⟩
  subst hw
  have F2 : Hid (0 ≤ r2 → R.2.1.length ≤ 1048576) := f2
  clear f2 S2
  by_cases n2 : r2 < 0
  · go_wp2_with fail
    go_ret
    exact ⟨⟨-1, rfl, fun h => by omega, by omega⟩, BB.out⟩
  go_wp2_with fail
  refine (S3.out _ (by omega) g2).mono ?_
  rintro e w3 ⟨⟨r3, rfl, f3, g3⟩, hw⟩
  subst hw
  have F3 : Hid (0 ≤ r3 → R.2.2.1.length ≤ 1048576) := f3
  clear f3 S3
  by_cases n3 : r3 < 0
  · go_wp2_with fail
    go_ret
    exact ⟨⟨-1, rfl, fun h => by omega, by omega⟩, BB.out⟩
  go_wp2_with fail
  refine (S4.out _ (by omega) g3).mono ?_
  rintro e w4 ⟨⟨r4, rfl, f4, g4⟩, hw⟩
  subst hw
  have F4 : Hid (0 ≤ r4 → R.2.2.2.length ≤ 1048576) := f4
  clear f4 S4
  by_cases n4 : r4 < 0
  · go_wp2_with fail
    go_ret
    exact ⟨⟨-1, rfl, fun h => by omega, by omega⟩, BB.out⟩
  go_wp2_with fail
  go_ret
  exact ⟨⟨r4, rfl, fun h => HF.out (F1.out (by omega)) (F2.out (by omega)) (F3.out (by omega)) (F4.out h), g4⟩, BB.out⟩

set_option maxHeartbeats 1000000 in
theorem eqR_same (R : Rq) (vP vT vS vL uP uT uS uL : Value) (w : World) (B C : Nat) (h : RqO w B vP vT vS vL R) (h' : RqO w C uP uT uS uL R) :
    Calls Tryd.prog 8 #[.agg #[vP, vT, vS, vL], .agg #[uP, uT, uS, uL]] w fun e w' => e = .returned (.bool true) ∧ Below w.heap.size w w' := by
  have hb : Below w.heap.size w ((w.alloc (.cells #[vP, vT, vS, vL] 28)).alloc (.cells #[uP, uT, uS, uL] 28)) := (below_new w _).trans ((below_new _ _).mono (by simp))
  have Q1 : Q4 ((w.alloc (.cells #[vP, vT, vS, vL] 28)).alloc (.cells #[uP, uT, uS, uL] 28)) w.heap.size 28 vP vT vS vL := (Q4.new w 28 vP vT vS vL).alloc _
  have Q2 : Q4 ((w.alloc (.cells #[vP, vT, vS, vL] 28)).alloc (.cells #[uP, uT, uS, uL] 28)) (w.heap.size + 1) 28 uP uT uS uL := (by
    have := Q4.new (w.alloc (.cells #[vP, vT, vS, vL] 28)) 28 uP uT uS uL
    simpa using this)
  obtain ⟨w0, hw0⟩ : ∃ w0, w0 = (w.alloc (.cells #[vP, vT, vS, vL] 28)).alloc (.cells #[uP, uT, uS, uL] 28) := ⟨_, rfl⟩
  have HW : Hid (w0 = (w.alloc (.cells #[vP, vT, vS, vL] 28)).alloc (.cells #[uP, uT, uS, uL] 28)) := hw0
  rw [← hw0] at hb Q1 Q2
  have BD : Hid (∀ n, Below w.heap.size w (w0.drewN n)) := fun n => hb.trans ⟨rfl, rfl, rfl, Nat.le_refl _, fun _ _ => rfl⟩
  have E1 : Hid (∀ n, Calls Tryd.prog 26 #[vP, uP] (w0.drewN n) fun e w' => e = .returned (.bool true) ∧ ∃ k, w' = (w0.drewN n).drewN k) := fun n => seq_same _ B C vP uP R.1 (h.on (BD.out n)).p (h'.on (BD.out n)).p
  have E2 : Hid (∀ n, Calls Tryd.prog 27 #[vT, uT] (w0.drewN n) fun e w' => e = .returned (.bool true) ∧ ∃ k, w' = (w0.drewN n).drewN k) := fun n => Lists.eq_same _ B C vT uT R.2.1 (h.on (BD.out n)).t (h'.on (BD.out n)).t
  have E3 : Hid (∀ n, Calls Tryd.prog 27 #[vS, uS] (w0.drewN n) fun e w' => e = .returned (.bool true) ∧ ∃ k, w' = (w0.drewN n).drewN k) := fun n => Lists.eq_same _ B C vS uS R.2.2.1 (h.on (BD.out n)).s (h'.on (BD.out n)).s
  have E4 : Hid (∀ n, Calls Tryd.prog 27 #[vL, uL] (w0.drewN n) fun e w' => e = .returned (.bool true) ∧ ∃ k, w' = (w0.drewN n).drewN k) := fun n => Lists.eq_same _ B C vL uL R.2.2.2 (h.on (BD.out n)).l (h'.on (BD.out n)).l
  have CB : Hid (∀ n, Q4 (w0.drewN n) w.heap.size 28 vP vT vS vL ∧ Q4 (w0.drewN n) (w.heap.size + 1) 28 uP uT uS uL) := fun n => ⟨Q1, Q2⟩
  obtain ⟨_, _, e0⟩ := (sreads_row h.p).form
  obtain ⟨_, _, e1⟩ := (Lists.reads_row h.t).form
  obtain ⟨_, _, e2⟩ := (Lists.reads_row h.s).form
  obtain ⟨_, _, e3⟩ := (Lists.reads_row h.l).form
  obtain ⟨_, _, d0⟩ := (sreads_row h'.p).form
  obtain ⟨_, _, d1⟩ := (Lists.reads_row h'.t).form
  obtain ⟨_, _, d2⟩ := (Lists.reads_row h'.s).form
  obtain ⟨_, _, d3⟩ := (Lists.reads_row h'.l).form
  subst e0 e1 e2 e3 d0 d1 d2 d3
  obtain ⟨X, hX⟩ : ∃ X, X = w.heap.size := ⟨_, rfl⟩
  have HX : Hid (X = w.heap.size) := hX
  rw [← hX] at CB
  clear h h' hb Q1 Q2 hw0 hX
  go_enter Tryd.func8, Tryd.ntmps8
  go_upto_region 1 with fail
  rw [← HW.out, ← HX.out]
  obtain ⟨a, b⟩ := CB.out 0
  obtain ⟨c0, c1, c2, c3, cf⟩ := a.cells
  obtain ⟨k0, k1, k2, k3, kf⟩ := b.cells
  replace c0 : w0.cell? ⟨X, 0, none⟩ = _ := c0
  replace k0 : w0.cell? ⟨X + 1, 0, none⟩ = _ := k0
  clear a b cf kf c1 c2 c3 k1 k2 k3
  go_wp2_with fail
  clear c0 k0
  refine (E1.out 0).mono ?_
  rintro e w1 ⟨rfl, n1, hw1⟩
  rw [World.drewN_drewN] at hw1
  generalize 0 + n1 = m1 at *
  have H1 : Hid (w1 = w0.drewN m1) := hw1
  obtain ⟨a, b⟩ := CB.out m1
  rw [← hw1] at a b
  obtain ⟨c0, c1, c2, c3, cf⟩ := a.cells
  obtain ⟨k0, k1, k2, k3, kf⟩ := b.cells
  clear a b cf kf hw1
  go_wp2_with fail
  clear c0 c1 c2 c3 k0 k1 k2 k3
  rw [H1.out]
  refine (E2.out m1).mono ?_
  rintro e w2 ⟨rfl, n2, hw2⟩
  rw [World.drewN_drewN] at hw2
  generalize m1 + n2 = m2 at *
  have H2 : Hid (w2 = w0.drewN m2) := hw2
  obtain ⟨a, b⟩ := CB.out m2
  rw [← hw2] at a b
  obtain ⟨c0, c1, c2, c3, cf⟩ := a.cells
  obtain ⟨k0, k1, k2, k3, kf⟩ := b.cells
  clear a b cf kf hw2
  go_wp2_with fail
  clear c0 c1 c2 c3 k0 k1 k2 k3
  rw [H2.out]
  refine (E3.out m2).mono ?_
  rintro e w3 ⟨rfl, n3, hw3⟩
  rw [World.drewN_drewN] at hw3
  generalize m2 + n3 = m3 at *
  have H3 : Hid (w3 = w0.drewN m3) := hw3
  obtain ⟨a, b⟩ := CB.out m3
  rw [← hw3] at a b
  obtain ⟨c0, c1, c2, c3, cf⟩ := a.cells
  obtain ⟨k0, k1, k2, k3, kf⟩ := b.cells
  clear a b cf kf hw3
  go_wp2_with fail
  clear c0 c1 c2 c3 k0 k1 k2 k3
  rw [H3.out]
  refine (E4.out m3).mono ?_
  rintro e w4 ⟨rfl, n4, hw4⟩
  rw [World.drewN_drewN] at hw4
  generalize m3 + n4 = m4 at *
  have H4 : Hid (w4 = w0.drewN m4) := hw4
  have BF : Hid (Below w.heap.size w w4) := (by show Below _ _ _; rw [hw4]; exact BD.out _)
  clear hw4
  go_wp2_with fail
  go_ret
  exact ⟨rfl, BF.out⟩

/-- what changed but at some blocks -/
structure Win (S : Nat → Prop) (w w' : World) : Prop where
  os : w'.os = w.os
  tape : w'.tape = w.tape
  output : w'.output = w.output
  size : w.heap.size ≤ w'.heap.size
  block : ∀ k, k < w.heap.size → ¬ S k → w'.heap[k]? = w.heap[k]?
theorem Win.grown {S : Nat → Prop} {w w1 w2 : World} {row : Option Nat} (h : Win S w w1) (hg : w1.grownBy w2 row) (hr : ∀ g, row = some g → S g) : Win S w w2 :=
  ⟨hg.os.trans h.os, hg.tape.trans h.tape, hg.output.trans h.output, Nat.le_trans h.size hg.size, fun k hk hn => (hg.block k (Nat.lt_of_lt_of_le hk h.size) (fun e => hn (hr k e.symm))).trans (h.block k hk hn)⟩
theorem Win.of_below {S : Nat → Prop} {w w' : World} (h : Below w.heap.size w w') : Win S w w' := ⟨h.os, h.tape, h.output, h.size, fun k hk _ => h.block k hk⟩
theorem Win.row {S : Nat → Prop} {w w' : World} {base n k : Nat} {e : TypeId} {v : Value} {xs : List Value} (h : Win S w w') (hr : w.ownsRow base e k v n xs) (hn : ∀ g, v.ownBlock = some g → ¬ S g) : w'.ownsRow base e k v n xs := by
  refine ⟨hr.1, ?_⟩
  have hlt := hr.lt
  rcases hr.2 with h2 | ⟨g, cap, cur, h1, h2, h3, h4⟩
  · exact .inl h2
  · have ho : v.ownBlock = some g := by rw [h1]; rfl
    exact .inr ⟨g, cap, cur, h1, h2, (h.block g (hlt g ho).2 (hn g ho)).trans h3, h4⟩
theorem Win.below {S : Nat → Prop} {w w' : World} {B : Nat} {a : World} (h : Win S w w') (hb : Below B a w) (hB : B ≤ w.heap.size) (hn : ∀ g, S g → B ≤ g) : Below B a w' :=
  hb.trans ⟨h.os, h.tape, h.output, h.size, fun k hk => h.block k (by omega) (fun s => by have := hn k s; omega)⟩

end Go.Proofs.YtkegllbedejkgaaDoor.Ix
