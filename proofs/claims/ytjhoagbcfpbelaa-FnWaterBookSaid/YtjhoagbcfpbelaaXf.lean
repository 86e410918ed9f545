/- A step drawn: what is kept. -/
import Derived.Test.YtjhoagbcfpbelaaXe
namespace Go.Proofs.Ytjhoagbcfpbelaa.Xa
open Go.ChangeShapes Go.WideShapes Go.ChangeAt Go.RowKit
open Go.Proofs.Ytjhoagbcfpbelaa.Lists Go.Proofs.Ytjhoagbcfpbelaa.Gd Go.Proofs.Ytjhoagbcfpbelaa.Rd

/-- a list that lies elsewhere than A -/
def RV (A : Nat) (wx : World) (v : Value) (b : Nat) : Prop := ∃ L : List Int, L.length ≤ b ∧ Lists.Reads wx v L ∧ ∀ g o l c, v = .slice (some ⟨g, o, none⟩) l c → g ≠ A
theorem RV.of {A b n c : Nat} {wx : World} {v : Value} (h : AI wx b v n) (hA : A < b) (hn : n ≤ c) : RV A wx v c := by
  obtain ⟨L, hl, hr⟩ := h.reads
  refine ⟨L, by omega, hr, fun g o l c e x => ?_⟩
  subst e
  have := (h.lt g rfl).1
  omega
theorem RV.keep {A b : Nat} {wx wy : World} {v : Value} (h : RV A wx v b) (ho : Wn.Out (fun k => k = A) wx wy) : RV A wy v b := by
  obtain ⟨L, hl, hr, hn⟩ := h
  refine ⟨L, hl, ?_, hn⟩
  rcases hr with h1 | ⟨g, o, cap, e, e1, e2, e3, e4⟩
  · exact .inl h1
  · refine .inr ⟨g, o, cap, e, e1, e2, Nat.lt_of_lt_of_le e3 ho.size, fun i hi => ?_⟩
    exact (World.cell?_of_block (ho.block g e3 (hn _ _ _ _ e))).trans (e4 i hi)
/-- what is drawn at last -/
structure FL (w : World) (B : Nat) (nv v2 v3 : Value) (o z : Int) (wx : World) : Prop where
  bl : Below w.heap.size w wx
  rc : (∃ u0 u1 u2, Bk.Box wx w.heap.size u0 u1 u2) ∧ ∀ j, wx.frozen? ⟨w.heap.size, j, none⟩ = false
  bx : Bk.Box wx B v2 (.int .i64 o) (.int .i64 z)
  r1 : RV w.heap.size wx nv 600
  r2 : RV w.heap.size wx v2 601
  r3 : RV w.heap.size wx v3 600
  lt : w.heap.size < B
/-- what is being drawn -/
structure PS (r : Nat) (w1 w : World) (B : Nat) (nv v2 v3 : Value) (n m : Nat) (o z : Int) (wr : World) : Prop where
  kt : KT r w1 wr
  b1 : Below w.heap.size w w1
  rc : (∃ u0 u1 u2, Bk.Box wr w.heap.size u0 u1 u2) ∧ ∀ j, wr.frozen? ⟨w.heap.size, j, none⟩ = false
  bx : Bk.Box wr B v2 (.int .i64 o) (.int .i64 z)
  fz : ∀ j, wr.frozen? ⟨B, j, none⟩ = false
  an : AI wr w1.heap.size nv n
  a2 : AI wr w1.heap.size v2 m
  a3 : AI wr w1.heap.size v3 n
  n1 : nv.ownBlock ≠ some B
  n2 : v2.ownBlock ≠ some B
  n3 : v3.ownBlock ≠ some B
  lr : w.heap.size < r ∧ r < w1.heap.size
  lt : w1.heap.size ≤ B ∧ B < wr.heap.size
  n6 : n ≤ 600
  m6 : m ≤ 600
  q1 : ∀ g, v2.ownBlock = some g → nv.ownBlock = some g → False
  q3 : ∀ g, v2.ownBlock = some g → v3.ownBlock = some g → False
section
variable {r : Nat} {w1 w : World} {B : Nat} {nv v2 v3 : Value} {n m : Nat} {o z : Int} {wr : World}
theorem PS.turn {w2 : World} (h : PS r w1 w B nv v2 v3 n m o z wr) (k : Rd.Rd r w2) (t : Turn r wr w2) : PS r w1 w B nv v2 v3 n m o z w2 := by
  obtain ⟨l1, l2⟩ := h.lt
  obtain ⟨l3, l4⟩ := h.lr
  have oo := Dr.turn_out t
  have s1 := h.kt.tn.size
  have eB := oo.block B l2 (by omega)
  have eR := oo.block w.heap.size (by omega) (by omega)
  obtain ⟨b0, b1, b2⟩ := h.bx
  obtain ⟨⟨u0, u1, u2, c0, c1, c2⟩, cf⟩ := h.rc
  exact ⟨h.kt.call k t, h.b1, ⟨⟨u0, u1, u2, (World.cell?_of_block eR).trans c0, (World.cell?_of_block eR).trans c1, (World.cell?_of_block eR).trans c2⟩, fun i => (World.frozen?_of_block eR).trans (cf i)⟩,
    ⟨(World.cell?_of_block eB).trans b0, (World.cell?_of_block eB).trans b1, (World.cell?_of_block eB).trans b2⟩, fun i => (World.frozen?_of_block eB).trans (h.fz i), h.an.turn l4 t, h.a2.turn l4 t, h.a3.turn l4 t, h.n1, h.n2, h.n3, h.lr, ⟨l1, Nat.lt_of_lt_of_le l2 oo.size⟩, h.n6, h.m6, h.q1, h.q3⟩
theorem PS.up {w2 : World} (h : PS r w1 w B nv v2 v3 n m o z wr) (hb : Below wr.heap.size wr w2) : PS r w1 w B nv v2 v3 n m o z w2 :=
  h.turn (h.kt.rd.kept hb h.kt.rd.lt) (Turn.of hb (Nat.le_refl _) (Nat.le_of_lt h.kt.rd.lt))
theorem PS.drew (h : PS r w1 w B nv v2 v3 n m o z wr) : PS r w1 w B nv v2 v3 n m o z wr.drew := h.up (Bx.below_drewN (Below.refl _ _) 1)
theorem PS.alloc (h : PS r w1 w B nv v2 v3 n m o z wr) (ob : Obj) : PS r w1 w B nv v2 v3 n m o z (wr.alloc ob) := h.up ((Below.refl _ _).alloc (Nat.le_refl _) _)
theorem PS.low (h : PS r w1 w B nv v2 v3 n m o z wr) : Below w.heap.size w wr := h.b1.trans (h.kt.tn.bel.mono (by have := h.lr; omega))
theorem PS.fl (h : PS r w1 w B nv v2 v3 n m o z wr) : FL w B nv v2 v3 o z wr :=
  have l := h.lr
  have l2 := h.lt
  ⟨h.low, h.rc, h.bx, RV.of h.an (by omega) h.n6, RV.of h.a2 (by omega) (by have := h.m6; omega), RV.of h.a3 (by omega) h.n6, by omega⟩
/-- a whole number is written into a list -/
theorem PS.put {g : Nat} (h : PS r w1 w B nv v2 v3 n m o z wr) (hg : w1.heap.size ≤ g) (hB : g ≠ B) (i : Nat) (u : Int) : PS r w1 w B nv v2 v3 n m o z (wr.setCell ⟨g, i, none⟩ (.int .i64 u)) := by
  obtain ⟨l1, l2⟩ := h.lt
  obtain ⟨l3, l4⟩ := h.lr
  have eB := Below.heap_setCell wr ⟨g, i, none⟩ (.int .i64 u) B (by show B ≠ g; omega)
  have eR := Below.heap_setCell wr ⟨g, i, none⟩ (.int .i64 u) w.heap.size (by show w.heap.size ≠ g; omega)
  obtain ⟨b0, b1, b2⟩ := h.bx
  obtain ⟨⟨u0, u1, u2, c0, c1, c2⟩, cf⟩ := h.rc
  exact ⟨h.kt.below l4 ((Below.refl _ _).setCell (p := ⟨g, i, none⟩) hg _), h.b1, ⟨⟨u0, u1, u2, (World.cell?_of_block eR).trans c0, (World.cell?_of_block eR).trans c1, (World.cell?_of_block eR).trans c2⟩, fun i => (World.frozen?_of_block eR).trans (cf i)⟩,
    ⟨(World.cell?_of_block eB).trans b0, (World.cell?_of_block eB).trans b1, (World.cell?_of_block eB).trans b2⟩, fun i => (World.frozen?_of_block eB).trans (h.fz i), h.an.put _ _ _, h.a2.put _ _ _, h.a3.put _ _ _, h.n1, h.n2, h.n3, h.lr, ⟨l1, by simpa using l2⟩, h.n6, h.m6, h.q1, h.q3⟩
/-- the book's box is written anew -/
theorem PS.rebox {v2' : Value} {m' : Nat} {o' z' : Int} {wy : World} (h : PS r w1 w B nv v2 v3 n m o z wr) (ho : Wn.Out (fun k => k = B) wr wy) (hb : Bk.Box wy B v2' (.int .i64 o') (.int .i64 z')) (hf : ∀ j, wy.frozen? ⟨B, j, none⟩ = false) (ha : AI wr w1.heap.size v2' m') (hn : v2'.ownBlock ≠ some B) (hm : m' ≤ 600)
    (p1 : ∀ g, v2'.ownBlock = some g → nv.ownBlock = some g → False) (p3 : ∀ g, v2'.ownBlock = some g → v3.ownBlock = some g → False) : PS r w1 w B nv v2' v3 n m' o' z' wy := by
  obtain ⟨l1, l2⟩ := h.lt
  obtain ⟨l3, l4⟩ := h.lr
  have eR := ho.block w.heap.size (by omega) (by omega)
  obtain ⟨⟨u0, u1, u2, c0, c1, c2⟩, cf⟩ := h.rc
  have ak : ∀ {v : Value} {k : Nat}, AI wr w1.heap.size v k → v.ownBlock ≠ some B → AI wy w1.heap.size v k := fun {v k} a hne => a.out ho (fun g e x => hne (by rw [e, x]))
  have s1 := h.kt.tn.size
  exact ⟨h.kt.below l4 ⟨ho.os, ho.tape, ho.output, ho.size, fun k hk => ho.block k (by omega) (by omega)⟩, h.b1, ⟨⟨u0, u1, u2, (World.cell?_of_block eR).trans c0, (World.cell?_of_block eR).trans c1, (World.cell?_of_block eR).trans c2⟩, fun i => (World.frozen?_of_block eR).trans (cf i)⟩,
    hb, hf, ak h.an h.n1, ak ha hn, ak h.a3 h.n3, h.n1, hn, h.n3, h.lr, ⟨l1, Nat.lt_of_lt_of_le l2 ho.size⟩, h.n6, hm, p1, p3⟩
theorem out_set (w : World) (g i : Nat) (u : Value) : Wn.Out (fun k => k = g) w (w.setCell ⟨g, i, none⟩ u) :=
  ⟨rfl, rfl, rfl, by simp, fun k _ hn => Below.heap_setCell w ⟨g, i, none⟩ u k hn⟩
/-- the book's list has one more -/
theorem PS.more {v2' : Value} {w5 : World} {ob : Obj} {L : List Int} {u : Int} (h : PS r w1 w B nv v2 v3 n m o z wr) (hL : L.length = m) (hg : (wr.alloc ob).grownBy w5 v2.ownBlock) (hrow : w5.ownsRow w1.heap.size 2 1 v2' (m + 1) (ints L ++ [.int .i64 u])) (hat : v2'.ownBlock = v2.ownBlock ∨ v2'.ownBlock = some (wr.heap.size + 1)) :
    (w5.cell? ⟨B, 0, none⟩ = some v2 ∧ w5.frozen? ⟨B, 0, none⟩ = false) ∧ FL w B nv v2' v3 o z (w5.setCell ⟨B, 0, none⟩ v2') := by
  have A := h.alloc ob
  have lt := A.lt
  have lt0 := h.lt
  have lr := A.lr
  have lo := fun g e => (A.a2.lt g e).1
  have s1 := A.kt.tn.size
  have hb : Below w1.heap.size (wr.alloc ob) w5 := (Below.refl _ _).grown hg s1 lo
  have nB : v2.ownBlock ≠ some B := h.n2
  obtain ⟨b0, b1, b2⟩ := A.bx
  have eB := hg.block B lt.2 (fun e => nB e.symm)
  have eR := hb.block w.heap.size (by omega)
  obtain ⟨⟨u0, u1, u2, c0, c1, c2⟩, cf⟩ := A.rc
  have n2' : v2'.ownBlock ≠ some B := fun e => by
    rcases hat with k | k
    · exact nB (by rw [← k]; exact e)
    · rw [k] at e; cases e; omega
  have ho := out_set w5 B 0 v2'
  have ak : ∀ {v : Value} {k : Nat}, AI w5 w1.heap.size v k → v.ownBlock ≠ some B → AI (w5.setCell ⟨B, 0, none⟩ v2') w1.heap.size v k := fun {v k} a hne => a.out ho (fun g e x => hne (by rw [e, x]))
  have a1 : AI w5 w1.heap.size nv n := A.an.grown hg (fun k j e1 e2 e => by subst e; exact h.q1 _ e2 e1)
  have a3 : AI w5 w1.heap.size v3 n := A.a3.grown hg (fun k j e1 e2 e => by subst e; exact h.q3 _ e2 e1)
  have a2 : AI w5 w1.heap.size v2' (m + 1) := AI.app hL hrow
  have eR2 := (ho.block w.heap.size (by have := hb.size; omega) (by omega)).trans eR
  have m6 := h.m6
  refine ⟨⟨(World.cell?_of_block eB).trans b0, (World.frozen?_of_block eB).trans (A.fz 0)⟩, ⟨(A.low.trans (hb.mono (by omega))).setCell (p := ⟨B, 0, none⟩) (by show w.heap.size ≤ B; omega) _, ⟨⟨u0, u1, u2, (World.cell?_of_block eR2).trans c0, (World.cell?_of_block eR2).trans c1, (World.cell?_of_block eR2).trans c2⟩, fun i => (World.frozen?_of_block eR2).trans (cf i)⟩, ?_, RV.of (ak a1 h.n1) (by omega) h.n6, RV.of (ak a2 n2') (by omega) (by omega), RV.of (ak a3 h.n3) (by omega) h.n6, by omega⟩⟩
  have d0 := (World.cell?_of_block eB).trans b0
  have d1 := (World.cell?_of_block eB).trans b1
  have d2 := (World.cell?_of_block eB).trans b2
  unfold Bk.Box
  simp [go_sem, d0, d1, d2]
theorem RV.tail {A b g p c : Nat} {wx : World} (h : AI wx b (.slice (some ⟨g, 0, none⟩) (p + 1) c) (p + 1)) (hA : A < b) (hp : p ≤ 600) : RV A wx (.slice (some ⟨g, 1, none⟩) p (c - 1)) 600 := by
  have lg := h.lt g rfl
  obtain ⟨L, hl, hr⟩ := h
  have hc : p + 1 ≤ c ∧ c ≤ maxLen := by
    rcases hr.2 with ⟨e, _⟩ | ⟨g', cap, cur, e, _, _, h3, h4, _⟩
    · cases e
    · cases e; exact ⟨h3, h4⟩
  refine ⟨L.tail, by simp; omega, .inr ⟨g, 1, c - 1, by simp [hl], by simp; omega, by omega, lg.2, fun i hi => ?_⟩, fun g' o l c' e x => ?_⟩
  · simp at hi
    have q := Ct.row_get hr hl (1 + i) (by omega)
    rw [q]
    congr 2
    cases L with
    | nil => simp at hi
    | cons a L => rw [Nat.add_comm]; simp
  · cases e; omega
theorem RV.none0 {A g b : Nat} {wx : World} (h : A < g) : RV A wx (.slice (some ⟨g, 0, none⟩) 0 0) b := ⟨[], Nat.zero_le _, .inl ⟨rfl, _, _, rfl⟩, fun g' o l c e x => by cases e; omega⟩
end
def FP (w : World) (e : Ending) (w' : World) : Prop := ∃ v1 v2 v3 N W R o z, e = .returned (.tuple #[v1, Bk.sv o z v2, v3]) ∧ Lists.Reads w' v1 N ∧ Lists.Reads w' v2 W ∧ Lists.Reads w' v3 R ∧ N.length ≤ 600 ∧ W.length ≤ 601 ∧ R.length ≤ 600 ∧ Below w.heap.size w w'
theorem FL.told {w wx wy : World} {B : Nat} {nv v2 v3 : Value} {o z : Int} (h : FL w B nv v2 v3 o z wx) (hy : Wn.Out (fun k => k = w.heap.size) wx wy) : FP w (.returned (.tuple #[nv, Bk.sv o z v2, v3])) wy := by
  obtain ⟨N, n1, n2, _⟩ := h.r1.keep hy
  obtain ⟨W, w1, w2, _⟩ := h.r2.keep hy
  obtain ⟨R, r1, r2, _⟩ := h.r3.keep hy
  exact ⟨_, _, _, N, W, R, o, z, rfl, n2, w2, r2, n1, w1, r1, h.bl.trans ⟨hy.os, hy.tape, hy.output, hy.size, fun k hk => hy.block k (by have := h.bl.size; omega) (by omega)⟩⟩
theorem pick3 (z : Int) (h0 : 0 ≤ z) (h1 : z < 3) : ∃ q, ∀ W : World, (W.alloc (Obj.cells #[.int .i64 (-1), .int .i64 1000000000000, .int .i64 1000000000001] 2)).cell? ⟨W.heap.size, z.toNat, none⟩ = some (.int .i64 q) := by
  have : z = 0 ∨ z = 1 ∨ z = 2 := by omega
  rcases this with rfl | rfl | rfl
  · exact ⟨-1, fun W => by simp [go_sem]⟩
  · exact ⟨1000000000000, fun W => by simp [go_sem]⟩
  · exact ⟨1000000000001, fun W => by simp [go_sem]⟩
theorem pick2 (x z : Int) (h0 : 0 ≤ z) (h1 : z < 2) : ∃ q, ∀ W : World, (W.alloc (Obj.cells #[.int .i64 x, .int .i64 (-1)] 2)).cell? ⟨W.heap.size, z.toNat, none⟩ = some (.int .i64 q) := by
  have : z = 0 ∨ z = 1 := by omega
  rcases this with rfl | rfl
  · exact ⟨x, fun W => by simp [go_sem]⟩
  · exact ⟨-1, fun W => by simp [go_sem]⟩
end Go.Proofs.Ytjhoagbcfpbelaa.Xa
