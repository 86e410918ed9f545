/- What FnSuiteOnce keeps in memory: a run, who runs, what is done. -/
import Derived.Test.YtfhpomfdkpfooaaRl
import Derived.Test.YtfhpomfdkpfooaaSn
namespace Go.Proofs.Ytfhpomfdkpfooaa.Ty
open Go.ChangeShapes Go.WideShapes Go.ChangeAt Go.RowKit
open Go.Proofs.Ytfhpomfdkpfooaa.Lists Go.Proofs.Ytfhpomfdkpfooaa.Tm Go.Proofs.Ytfhpomfdkpfooaa.Rk Go.Proofs.Ytfhpomfdkpfooaa.Ru Go.Proofs.Ytfhpomfdkpfooaa.Al Go.Proofs.Ytfhpomfdkpfooaa.Rd Go.Proofs.Ytfhpomfdkpfooaa.Cp

abbrev bools (B : List Bool) : List Value := B.map Value.bool
structure ST (w2 : World) (bb db rk n : Nat) (vr vx vj : Value) (R : Tk.Ls) (X : List Int) (J : Jb.Ls) (D : List Int) (B : List Bool) (W : World) : Prop where
  bel : Below w2.heap.size w2 W
  lo : w2.heap.size ≤ bb ∧ w2.heap.size ≤ db ∧ w2.heap.size ≤ rk
  bx : Bl W bb 30 #[vr, vx, .int .i64 0, vj]
  ro : ∃ xs base, RO W base vr vx vj xs R X J ∧ ∀ g, RB vr vx vj xs R.length g → g ≠ db
  dn : W.ownsRow 0 2 1 (.slice (some ⟨db, 0, none⟩) n n) n (ints D)
  rn : W.ownsRow 0 4 1 (.slice (some ⟨rk, 0, none⟩) n n) n (bools B)
theorem ST.reads {w2 : World} {bb db rk n : Nat} {vr vx vj : Value} {R : Tk.Ls} {X : List Int} {J : Jb.Ls} {D : List Int} {B : List Bool} {W : World} (h : ST w2 bb db rk n vr vx vj R X J D B W) : RR W vr vx vj R X J := by
  obtain ⟨xs, base, h1, _⟩ := h.ro
  exact h1.reads
theorem ST.up {w2 : World} {bb db rk n : Nat} {vr vx vj : Value} {R : Tk.Ls} {X : List Int} {J : Jb.Ls} {D : List Int} {B : List Bool} {W W' : World} (h : ST w2 bb db rk n vr vx vj R X J D B W) (hb : Below W.heap.size W W') : ST w2 bb db rk n vr vx vj R X J D B W' := by
  obtain ⟨xs, base, h1, h2⟩ := h.ro
  exact ⟨h.bel.trans (hb.mono h.bel.size), h.lo, h.bx.on hb, ⟨xs, base, h1.on hb, h2⟩, row_kb (S := fun _ => False) h.dn (KB.of_below hb) (fun _ _ q => q), row_kb (S := fun _ => False) h.rn (KB.of_below hb) (fun _ _ q => q)⟩
/-- a new run kept -/
theorem ST.run {w2 : World} {bb db rk n : Nat} {vr vx vj ur ux uj : Value} {R : Tk.Ls} {X : List Int} {J J' : Jb.Ls} {D : List Int} {B : List Bool} {W W' : World} {xs : List Value} (h : ST w2 bb db rk n vr vx vj R X J D B W) (hb : Below W.heap.size W W') (ro : RO W' W.heap.size ur ux uj xs R X J') : ST w2 bb db rk n ur ux uj R X J' D B (put4 W' bb ur ux (.int .i64 0) uj) := by
  have h2 := h.up hb
  have ks : KB (fun b => b = bb) W' (put4 W' bb ur ux (.int .i64 0) uj) := (((kb_set W' bb 0 _).trans (kb_set _ bb 1 _)).trans (kb_set _ bb 2 _)).trans (kb_set _ bb 3 _)
  have hl := h.bx.lt
  have dl := (row_ty h.dn db rfl).lt
  refine ⟨h2.bel.trans (ks.below h2.bel.size (fun b hb => by have := h.lo.1; omega)), h.lo, (((h2.bx.set 0 ur).set 1 ux).set 2 (.int .i64 0)).set 3 uj, ⟨xs, W.heap.size, ro.kb ks (fun g hg e => by have := (ro.bs g hg).1; omega), fun g hg e => by have := (ro.bs g hg).1; omega⟩, row_kb h2.dn ks (fun g hg e => (row_ty h2.dn g hg).ne h2.bx.ty (by decide) e), row_kb h2.rn ks (fun g hg e => (row_ty h2.rn g hg).ne h2.bx.ty (by decide) e)⟩
theorem bools_set (B : List Bool) (i : Nat) (b : Bool) : (bools B).set i (.bool b) = bools (B.set i b) := by simp [bools, List.map_set]
theorem ints_setn (D : List Int) (i : Nat) (z : Int) : (ints D).set i (.int .i64 z) = ints (D.set i z) := by simp [ints, List.map_set]
theorem ST.setB {w2 : World} {bb db rk n : Nat} {vr vx vj : Value} {R : Tk.Ls} {X : List Int} {J : Jb.Ls} {D : List Int} {B : List Bool} {W : World} (h : ST w2 bb db rk n vr vx vj R X J D B W) (i : Nat) (b : Bool) : ST w2 bb db rk n vr vx vj R X J D (B.set i b) (W.setCell ⟨rk, i, none⟩ (.bool b)) := by
  have ks : KB (fun b => b = rk) W (W.setCell ⟨rk, i, none⟩ (.bool b)) := kb_set W _ _ _
  have tr' := row_ty h.rn rk rfl
  obtain ⟨xs, base, h1, h2⟩ := h.ro
  refine ⟨h.bel.trans (ks.below h.bel.size (fun b hb => by have := h.lo.2.2; omega)), h.lo, h.bx.kb ks (fun e => h.bx.ty.ne tr' (by decide) e), ⟨xs, base, h1.kb ks (fun g hg e => ?_), h2⟩, row_kb h.dn ks (fun g hg e => (row_ty h.dn g hg).ne tr' (by decide) e), ?_⟩
  · obtain ⟨e', he, ht⟩ := ro_ty h1 g hg
    exact ht.ne tr' (by rcases he with q | q | q <;> subst q <;> decide) e
  · have := (h.rn.stored i (.bool b)).1
    rw [bools_set] at this
    exact this
theorem ST.setD {w2 : World} {bb db rk n : Nat} {vr vx vj : Value} {R : Tk.Ls} {X : List Int} {J : Jb.Ls} {D : List Int} {B : List Bool} {W : World} (h : ST w2 bb db rk n vr vx vj R X J D B W) (i : Nat) (z : Int) : ST w2 bb db rk n vr vx vj R X J (D.set i z) B (W.setCell ⟨db, i, none⟩ (.int .i64 z)) := by
  have ks : KB (fun b => b = db) W (W.setCell ⟨db, i, none⟩ (.int .i64 z)) := kb_set W _ _ _
  have td := row_ty h.dn db rfl
  obtain ⟨xs, base, h1, h2⟩ := h.ro
  refine ⟨h.bel.trans (ks.below h.bel.size (fun b hb => by have := h.lo.2.1; omega)), h.lo, h.bx.kb ks (fun e => h.bx.ty.ne td (by decide) e), ⟨xs, base, h1.kb ks (fun g hg e => h2 g hg e), h2⟩, ?_, row_kb h.rn ks (fun g hg e => (row_ty h.rn g hg).ne td (by decide) e)⟩
  have := (h.dn.stored i (.int .i64 z)).1
  rw [ints_setn] at this
  exact this
theorem made_bools (n : Nat) : (madeCells (Value.bool false).cells (n * 1)).toList = bools (List.replicate n false) := by
  apply List.ext_getElem
  · simp [madeCells, bools]
  · intro i h1 h2
    simp [madeCells, bools, Value.cells, Nat.mod_one]
theorem made_ints (n : Nat) : (madeCells (Value.int .i64 0).cells (n * 1)).toList = ints (List.replicate n 0) := by
  apply List.ext_getElem
  · simp [madeCells, ints]
  · intro i h1 h2
    simp [madeCells, ints, Value.cells, Nat.mod_one]
theorem made_own (W : World) (n : Nat) (e : TypeId) (z : Value) (ys : List Value) (hy : (madeCells z.cells (n * 1)).toList = ys) (hn : n ≤ 1048576) : (W.alloc (.cells (madeCells z.cells (n * 1)) e)).ownsRow W.heap.size e 1 (.slice (some ⟨W.heap.size, 0, none⟩) n n) n ys := by
  have hl : (madeCells z.cells (n * 1)).size = n * 1 := by simp [madeCells]
  refine ⟨by rw [← hy]; simp [madeCells], Or.inr ⟨W.heap.size, n, madeCells z.cells (n * 1), rfl, Nat.le_refl _, Bl.new W e _, Nat.le_refl _, by unfold maxLen; omega, hl, ?_⟩⟩
  rw [← hy]
  exact List.take_of_length_le (by simp [madeCells])
theorem row_low {w : World} {B n k : Nat} {e : TypeId} {v : Value} {xs : List Value} (h : w.ownsRow B e k v n xs) : w.ownsRow 0 e k v n xs := by
  refine ⟨h.1, ?_⟩
  rcases h.2 with h | ⟨gx, cap, cur, x1, x2, x3⟩
  · exact .inl h
  · exact .inr ⟨gx, cap, cur, x1, Nat.zero_le _, x3⟩
/-- who runs, anew -/
theorem ST.newB {w2 : World} {bb db rk n : Nat} {vr vx vj : Value} {R : Tk.Ls} {X : List Int} {J : Jb.Ls} {D : List Int} {B : List Bool} {W : World} (h : ST w2 bb db rk n vr vx vj R X J D B W) (hn : n ≤ 1048576) : ST w2 bb db W.heap.size n vr vx vj R X J D (List.replicate n false) (W.alloc (.cells (madeCells (Value.bool false).cells (n * 1)) 4)) := by
  have h2 := h.up (show Below W.heap.size W (W.alloc (.cells (madeCells (Value.bool false).cells (n * 1)) 4)) from (Below.refl _ _).alloc (Nat.le_refl _) _)
  exact ⟨h2.bel, ⟨h.lo.1, h.lo.2.1, h.bel.size⟩, h2.bx, h2.ro, h2.dn, row_low (made_own W n 4 (.bool false) _ (made_bools n) hn)⟩
theorem ST.cells {w2 : World} {bb db rk n : Nat} {vr vx vj : Value} {R : Tk.Ls} {X : List Int} {J : Jb.Ls} {D : List Int} {B : List Bool} {W : World} (h : ST w2 bb db rk n vr vx vj R X J D B W) : W.cell? ⟨bb, 0, none⟩ = some vr ∧ W.cell? ⟨bb, 1, none⟩ = some vx ∧ W.cell? ⟨bb, 2, none⟩ = some (.int .i64 0) ∧ W.cell? ⟨bb, 3, none⟩ = some vj := by
  refine ⟨?_, ?_, ?_, ?_⟩ <;> rw [h.bx.cell] <;> rfl
theorem ST.free {w2 : World} {bb db rk n : Nat} {vr vx vj : Value} {R : Tk.Ls} {X : List Int} {J : Jb.Ls} {D : List Int} {B : List Bool} {W : World} (h : ST w2 bb db rk n vr vx vj R X J D B W) : W.frozen? ⟨bb, 0, none⟩ = false ∧ W.frozen? ⟨bb, 1, none⟩ = false ∧ W.frozen? ⟨bb, 2, none⟩ = false ∧ W.frozen? ⟨bb, 3, none⟩ = false := ⟨h.bx.fz 0, h.bx.fz 1, h.bx.fz 2, h.bx.fz 3⟩
theorem ST.dcell {w2 : World} {bb db rk n : Nat} {vr vx vj : Value} {R : Tk.Ls} {X : List Int} {J : Jb.Ls} {D : List Int} {B : List Bool} {W : World} (h : ST w2 bb db rk n vr vx vj R X J D B W) (i : Nat) (hi : i < n) : W.cell? ⟨db, i, none⟩ = some (.int .i64 (D.getD i 0)) ∧ W.frozen? ⟨db, i, none⟩ = false := by
  have hl : D.length = n := by have := h.dn.1; simp at this; omega
  refine ⟨(h.dn.cellAt i (by omega)).trans ?_, h.dn.frozenAt i⟩
  have : i < D.length := by omega
  simp [ints, List.getD_eq_getElem?_getD, this]
theorem ST.rcell {w2 : World} {bb db rk n : Nat} {vr vx vj : Value} {R : Tk.Ls} {X : List Int} {J : Jb.Ls} {D : List Int} {B : List Bool} {W : World} (h : ST w2 bb db rk n vr vx vj R X J D B W) (i : Nat) (hi : i < n) : W.cell? ⟨rk, i, none⟩ = some (.bool (B.getD i false)) ∧ W.frozen? ⟨rk, i, none⟩ = false := by
  have hl : B.length = n := by have := h.rn.1; simp at this; omega
  refine ⟨(h.rn.cellAt i (by omega)).trans ?_, h.rn.frozenAt i⟩
  have : i < B.length := by omega
  simp [bools, List.getD_eq_getElem?_getD, this]
theorem Try.infoB : (Try.prog.info? 4).map (fun i => (i.zero, i.size, i.bytes)) = some (some (.bool false), 1, 1) := by kernel_rfl
theorem make_bools (n : Nat) (hn : n ≤ 1048576) (w : World) : (Instr.makeSlice 46 (.int .i64 (n : Int)) (.int .i64 (n : Int))).run Try.prog w = .ok (.slice (some ⟨w.heap.size, 0, none⟩) n n) (w.alloc (.cells (madeCells (Value.bool false).cells (n * 1)) 4)) := by
  obtain ⟨i0, hi, hz0, hz1, hz2⟩ := info_parts Try.infoB
  have := run_make (P := Try.prog) w 46 4 i0 (.bool false) Try.underlying46 hi hz0 .i64 .i64 (n : Int) (n : Int) (by omega) (Int.le_refl _) (by rw [hz2]; omega) (by omega)
  rw [hz1] at this
  simp only [Int.toNat_natCast] at this
  exact this
theorem make_ints (n : Nat) (hn : n ≤ 1048576) (w : World) : (Instr.makeSlice 25 (.int .i64 (n : Int)) (.int .i64 (n : Int))).run Try.prog w = .ok (.slice (some ⟨w.heap.size, 0, none⟩) n n) (w.alloc (.cells (madeCells (Value.int .i64 0).cells (n * 1)) 2)) := by
  obtain ⟨i0, hi, hz0, hz1, hz2⟩ := info_parts Lists.Try.info2
  have := run_make (P := Try.prog) w 25 2 i0 (.int .i64 0) Try.underlying25 hi hz0 .i64 .i64 (n : Int) (n : Int) (by omega) (Int.le_refl _) (by rw [hz2]; omega) (by omega)
  rw [hz1] at this
  simp only [Int.toNat_natCast] at this
  exact this
/-- at the start -/
theorem ST.new {w2 w5 w6 : World} {vr vx vj : Value} {R : Tk.Ls} {X : List Int} {J : Jb.Ls} {xs : List Value} {n : Nat} (h5 : Below w2.heap.size w2 w5) (ro : RO w6 w5.heap.size vr vx vj xs R X J) (h6 : Below w5.heap.size w5 w6) (hn : n ≤ 1048576) (hd : (rl J n) = List.replicate n false ∧ dl J n = List.replicate n 0) :
    ST w2 w6.heap.size (w6.heap.size + 1) (w6.heap.size + 2) n vr vx vj R X J (dl J n) (rl J n) (((w6.alloc (.cells #[vr, vx, .int .i64 0, vj] 30)).alloc (.cells (madeCells (Value.int .i64 0).cells (n * 1)) 2)).alloc (.cells (madeCells (Value.bool false).cells (n * 1)) 4)) := by
  obtain ⟨a, ha⟩ : ∃ a, a = w6.alloc (.cells #[vr, vx, .int .i64 0, vj] 30) := ⟨_, rfl⟩
  obtain ⟨b, hb⟩ : ∃ b, b = a.alloc (.cells (madeCells (Value.int .i64 0).cells (n * 1)) 2) := ⟨_, rfl⟩
  rw [← ha, ← hb]
  have za : a.heap.size = w6.heap.size + 1 := by rw [ha]; simp
  have zb : b.heap.size = w6.heap.size + 2 := by rw [hb]; simp; omega
  have ba : Below w6.heap.size w6 a := by rw [ha]; exact (Below.refl _ _).alloc (Nat.le_refl _) _
  have bb' : Below a.heap.size a b := by rw [hb]; exact (Below.refl _ _).alloc (Nat.le_refl _) _
  have bc : Below b.heap.size b (b.alloc (.cells (madeCells (Value.bool false).cells (n * 1)) 4)) := (Below.refl _ _).alloc (Nat.le_refl _) _
  have z5 := h5.size
  have z6 := h6.size
  have B6 : Below w2.heap.size w2 w6 := h5.trans (h6.mono z5)
  have BA : Below w6.heap.size w6 (b.alloc (.cells (madeCells (Value.bool false).cells (n * 1)) 4)) := (ba.trans (bb'.mono (by omega))).trans (bc.mono (by omega))
  have BB : Below a.heap.size a (b.alloc (.cells (madeCells (Value.bool false).cells (n * 1)) 4)) := bb'.trans (bc.mono (by omega))
  have d0 := made_own a n 2 (.int .i64 0) _ (made_ints n) hn
  rw [← hb, za] at d0
  have r0 := made_own b n 4 (.bool false) _ (made_bools n) hn
  rw [zb] at r0
  refine ⟨B6.trans (BA.mono (by omega)), ⟨by omega, by omega, by omega⟩, (by rw [ha]; exact Bl.new w6 30 _ : Bl a w6.heap.size 30 #[vr, vx, .int .i64 0, vj]).on BB, ⟨xs, w5.heap.size, ro.on BA, fun g hg e => by have := (ro.bs g hg).2; omega⟩, ?_, ?_⟩
  · rw [hd.2]; exact row_low (row_kb (S := fun _ => False) d0 (KB.of_below bc) (fun _ _ q => q))
  · rw [hd.1]; exact row_low r0
end Go.Proofs.Ytfhpomfdkpfooaa.Ty
