/- An entry drawn of a code: the region by its states. -/
import Derived.Test.YtfnkcoppdelmjaaEb
namespace Go.Proofs.Ytfnkcoppdelmjaa.Ed
open Go.ChangeShapes Go.WideShapes Go.ChangeAt Go.RowKit
open Go.Proofs.Ytfnkcoppdelmjaa.Rd Go.Proofs.Ytfnkcoppdelmjaa.Eo
abbrev OPS : Array Oper := #[{ dst := some 3, op := Go.Op.buildSlice 32 5 #[(0, Go.Operand.const (Go.Value.string { data := #[116] })), (1, Go.Operand.const (Go.Value.string { data := #[117] })), (2, Go.Operand.const (Go.Value.string { data := #[118] })), (3, Go.Operand.const (Go.Value.string { data := #[109, 115, 108] })), (4, Go.Operand.const (Go.Value.string { data := #[116, 112] }))], type := 32, pos := "l25_archive.go:350", after := #[], guard := none }, { dst := some 4, op := Go.Op.move (Go.Operand.tmp 0), type := 41, pos := "l25_archive.go:350", after := #[], guard := none }, { dst := some 5, op := Go.Op.call { callee := Go.Callee.value (Go.Operand.func 17), args := #[Go.Operand.tmp 4, Go.Operand.const (Go.Value.int Go.IntKind.i64 5)], argTypes := #[41, 3] }, type := 3, pos := "l25_archive.go:350", after := #[{ on := 1, ground := Go.Ground.data }], guard := none }, { dst := some 6, op := Go.Op.indexAddr 32 (Go.Operand.tmp 3) (Go.Operand.tmp 5), type := 0, pos := "l25_archive.go:350", after := #[{ on := 0, ground := Go.Ground.data }, { on := 2, ground := Go.Ground.data }], guard := none }, { dst := some 7, op := Go.Op.load 9 (Go.Operand.tmp 6), type := 9, pos := "l25_archive.go:350", after := #[{ on := 3, ground := Go.Ground.data }], guard := none }, { dst := some 8, op := Go.Op.move (Go.Operand.tmp 0), type := 41, pos := "l25_archive.go:350", after := #[], guard := none }, { dst := some 9, op := Go.Op.call { callee := Go.Callee.value (Go.Operand.func 17), args := #[Go.Operand.tmp 8, Go.Operand.const (Go.Value.int Go.IntKind.i64 3)], argTypes := #[41, 3] }, type := 3, pos := "l25_archive.go:350", after := #[{ on := 5, ground := Go.Ground.data }, { on := 2, ground := Go.Ground.chain }], guard := none }, { dst := some 10, op := Go.Op.binOp Go.BinOp.mul 3 (Go.Operand.tmp 9) (Go.Operand.const (Go.Value.int Go.IntKind.i64 720)) 3, type := 3, pos := "l25_archive.go:350", after := #[{ on := 6, ground := Go.Ground.data }], guard := none }, { dst := some 11, op := Go.Op.binOp Go.BinOp.add 2 (Go.Operand.const (Go.Value.int Go.IntKind.i64 14130000)) (Go.Operand.tmp 10) 2, type := 2, pos := "l25_archive.go:350", after := #[{ on := 7, ground := Go.Ground.data }], guard := none }, { dst := some 12, op := Go.Op.move (Go.Operand.tmp 0), type := 41, pos := "l25_archive.go:350", after := #[], guard := none }, { dst := some 13, op := Go.Op.call { callee := Go.Callee.value (Go.Operand.func 17), args := #[Go.Operand.tmp 12, Go.Operand.const (Go.Value.int Go.IntKind.i64 5)], argTypes := #[41, 3] }, type := 3, pos := "l25_archive.go:350", after := #[{ on := 9, ground := Go.Ground.data }, { on := 6, ground := Go.Ground.chain }], guard := none }, { dst := some 14, op := Go.Op.binOp Go.BinOp.mul 3 (Go.Operand.tmp 13) (Go.Operand.const (Go.Value.int Go.IntKind.i64 6)) 3, type := 3, pos := "l25_archive.go:350", after := #[{ on := 10, ground := Go.Ground.data }], guard := none }, { dst := some 15, op := Go.Op.buildSlice 33 3 #[(0, Go.Operand.const (Go.Value.int Go.IntKind.i64 0)), (1, Go.Operand.const (Go.Value.int Go.IntKind.i64 500)), (2, Go.Operand.const (Go.Value.int Go.IntKind.i64 850))], type := 33, pos := "l25_archive.go:350", after := #[], guard := none }, { dst := some 16, op := Go.Op.move (Go.Operand.tmp 0), type := 41, pos := "l25_archive.go:350", after := #[], guard := none }, { dst := some 17, op := Go.Op.call { callee := Go.Callee.value (Go.Operand.func 17), args := #[Go.Operand.tmp 16, Go.Operand.const (Go.Value.int Go.IntKind.i64 3)], argTypes := #[41, 3] }, type := 3, pos := "l25_archive.go:350", after := #[{ on := 13, ground := Go.Ground.data }, { on := 10, ground := Go.Ground.chain }], guard := none }, { dst := some 18, op := Go.Op.indexAddr 33 (Go.Operand.tmp 15) (Go.Operand.tmp 17), type := 0, pos := "l25_archive.go:350", after := #[{ on := 12, ground := Go.Ground.data }, { on := 14, ground := Go.Ground.data }], guard := none }, { dst := some 19, op := Go.Op.load 2 (Go.Operand.tmp 18), type := 2, pos := "l25_archive.go:350", after := #[{ on := 15, ground := Go.Ground.data }], guard := none }, { dst := some 20, op := Go.Op.move (Go.Operand.tmp 0), type := 41, pos := "l25_archive.go:350", after := #[], guard := none }, { dst := some 21, op := Go.Op.call { callee := Go.Callee.value (Go.Operand.func 17), args := #[Go.Operand.tmp 20, Go.Operand.const (Go.Value.int Go.IntKind.i64 90)], argTypes := #[41, 3] }, type := 3, pos := "l25_archive.go:350", after := #[{ on := 17, ground := Go.Ground.data }, { on := 14, ground := Go.Ground.chain }], guard := none }, { dst := some 22, op := Go.Op.build 26 #[(0, Go.Operand.tmp 7), (1, Go.Operand.tmp 11), (2, Go.Operand.tmp 14), (3, Go.Operand.tmp 19), (4, Go.Operand.tmp 21)], type := 26, pos := "l25_archive.go:350", after := #[{ on := 4, ground := Go.Ground.data }, { on := 8, ground := Go.Ground.data }, { on := 11, ground := Go.Ground.data }, { on := 16, ground := Go.Ground.data }, { on := 18, ground := Go.Ground.data }], guard := none }, { dst := none, op := Go.Op.store 26 (Go.Operand.tmp 2) (Go.Operand.tmp 22), type := 0, pos := "l25_archive.go:350", after := #[{ on := 19, ground := Go.Ground.data }, { on := 18, ground := Go.Ground.chain }, { on := 0, ground := Go.Ground.phase }, { on := 1, ground := Go.Ground.phase }, { on := 2, ground := Go.Ground.phase }, { on := 3, ground := Go.Ground.phase }, { on := 4, ground := Go.Ground.phase }, { on := 5, ground := Go.Ground.phase }, { on := 6, ground := Go.Ground.phase }, { on := 7, ground := Go.Ground.phase }, { on := 8, ground := Go.Ground.phase }, { on := 9, ground := Go.Ground.phase }, { on := 10, ground := Go.Ground.phase }, { on := 11, ground := Go.Ground.phase }, { on := 12, ground := Go.Ground.phase }, { on := 13, ground := Go.Ground.phase }, { on := 14, ground := Go.Ground.phase }, { on := 15, ground := Go.Ground.phase }, { on := 16, ground := Go.Ground.phase }, { on := 17, ground := Go.Ground.phase }, { on := 18, ground := Go.Ground.phase }, { on := 19, ground := Go.Ground.phase }], guard := none }]
theorem wpAnyH_weak {P : Program} {md : Region.Mode} {ops : Array Oper} {Q : Exit → Act → World → Prop} {S1 S : World → Prop} (h : ∀ w, S1 w → S w) : ∀ (fuel : Nat) (listed : Array Bool) (a : Act) (w : World), wpAnyH P md ops Q S1 fuel listed a w → wpAnyH P md ops Q S fuel listed a w
  | 0, _, _, _, H => H
  | fuel + 1, _, _, _, H => ⟨H.1, fun i hi => wpOp_mono (fun a' w' h' => ⟨h _ h'.1, wpAnyH_weak h fuel _ a' w' h'.2⟩) (H.2 i hi)⟩
def H1 (z : Int) (q : ByteArray) : Prop := (0 ≤ z ∧ z < 5) ∧ pok q = true ∧ At [.string ⟨#[116]⟩, .string ⟨#[117]⟩, .string ⟨#[118]⟩, .string ⟨#[109, 115, 108]⟩, .string ⟨#[116, 112]⟩] 9 z.toNat (.string q)
def H2 (z : Int) : Prop := 0 ≤ z ∧ z < 3
def H3 (z : Int) : Prop := 0 ≤ z ∧ z < 5
def H4 (z q : Int) : Prop := (0 ≤ z ∧ z < 3) ∧ (0 ≤ q ∧ q ≤ 850) ∧ At [.int .i64 0, .int .i64 500, .int .i64 850] 2 z.toNat (.int .i64 q)
def H5 (z : Int) : Prop := 0 ≤ z ∧ z < 90
theorem rg1 {z : Int} (h : H2 z) : H2 z := h
theorem rg2 {z : Int} (h : H3 z) : H3 z := h
def Fin (r : Nat) (W w : World) : Prop := ∃ p, ∃ t s l z : Int, (pok p = true ∧ (0 ≤ t ∧ t ≤ 52596000) ∧ (0 ≤ s ∧ s ≤ 360) ∧ (0 ≤ l ∧ l ≤ 1100) ∧ (0 ≤ z ∧ z ≤ 89)) ∧ DE r W w p t s l z
structure Sn (r : Nat) (W : World) (o1 o2 : Option Nat) (w : World) : Prop where
  de : ∃ p, ∃ t s l z : Int, DE r W w p t s l z
  l1 : ∀ b, o1 = some b → LT r W words w b
  l2 : ∀ b, o2 = some b → LT r W levels w b
  lt : r < W.heap.size
theorem Sn.rd {r : Nat} {W w : World} {o1 o2 : Option Nat} (h : Sn r W o1 o2 w) : Rd r w := by
  obtain ⟨p, t, s, l, z, d⟩ := h.de
  exact d.rd
theorem Sn.turn {r : Nat} {W w w' : World} {o1 o2 : Option Nat} (h : Sn r W o1 o2 w) (t : Turn r w w') (k : Rd r w') : Sn r W o1 o2 w' := by
  obtain ⟨p, a, s, l, z, d⟩ := h.de
  exact ⟨⟨p, a, s, l, z, blk_turn d.an t (by have := h.lt; omega), k, d.tn.trans t⟩, fun b e => (h.l1 b e).turn t, fun b e => (h.l2 b e).turn t, h.lt⟩
theorem DE.alloc {r : Nat} {W w : World} {p : ByteArray} {t s l z : Int} (h : DE r W w p t s l z) (hr : r < W.heap.size) (o : Obj) : DE r W (w.alloc o) p t s l z :=
  ⟨blk_alloc h.an o, h.rd.kept ((Below.refl (r + 1) w).alloc (by have := h.rd.lt; omega) _) (by omega), h.tn.alloc hr _⟩
theorem Sn.lit1 {r : Nat} {W w : World} {o1 o2 : Option Nat} (h : Sn r W o1 o2 w) : Sn r W (some w.heap.size) o2 (w.alloc words) := by
  obtain ⟨p, a, s, l, z, d⟩ := h.de
  exact ⟨⟨p, a, s, l, z, d.alloc h.lt _⟩, fun b e => by cases e; exact ⟨heap_alloc_new w _, d.an.lt, h.lt⟩, fun b e => (h.l2 b e).alloc _, h.lt⟩
theorem Sn.lit2 {r : Nat} {W w : World} {o1 o2 : Option Nat} (h : Sn r W o1 o2 w) : Sn r W o1 (some w.heap.size) (w.alloc levels) := by
  obtain ⟨p, a, s, l, z, d⟩ := h.de
  exact ⟨⟨p, a, s, l, z, d.alloc h.lt _⟩, fun b e => (h.l1 b e).alloc _, fun b e => by cases e; exact ⟨heap_alloc_new w _, d.an.lt, h.lt⟩, h.lt⟩
theorem Sn.less1 {r : Nat} {W w : World} {o1 o2 : Option Nat} (h : Sn r W o1 o2 w) : Sn r W none o2 w := ⟨h.de, (fun b e => by cases e), h.l2, h.lt⟩
theorem Sn.less2 {r : Nat} {W w : World} {o1 o2 : Option Nat} (h : Sn r W o1 o2 w) : Sn r W o1 none w := ⟨h.de, h.l1, (fun b e => by cases e), h.lt⟩
theorem DE.set {r : Nat} {W wx : World} {p0 : ByteArray} {t0 s0 l0 z0 : Int} (h : DE r W wx p0 t0 s0 l0 z0) (hl : r < W.heap.size) (p : ByteArray) (t s l z : Int) : DE r W (((((wx.setCell ⟨W.heap.size, 0, none⟩ (.string p)).setCell ⟨W.heap.size, 1, none⟩ (.int .i64 t)).setCell ⟨W.heap.size, 2, none⟩ (.int .i64 s)).setCell ⟨W.heap.size, 3, none⟩ (.int .i64 l)).setCell ⟨W.heap.size, 4, none⟩ (.int .i64 z)) p t s l z := by
  refine ⟨h.an.all p t s l z, ?_, ?_⟩
  · refine h.rd.kept (B := r + 1) ?_ (by omega)
    exact (((((Below.refl _ _).setCell (p := ⟨W.heap.size, 0, none⟩) hl _).setCell (p := ⟨W.heap.size, 1, none⟩) hl _).setCell (p := ⟨W.heap.size, 2, none⟩) hl _).setCell (p := ⟨W.heap.size, 3, none⟩) hl _).setCell (p := ⟨W.heap.size, 4, none⟩) hl _
  · exact ((((h.tn.setCell (p := ⟨W.heap.size, 0, none⟩) (Nat.le_refl _) hl _).setCell (p := ⟨W.heap.size, 1, none⟩) (Nat.le_refl _) hl _).setCell (p := ⟨W.heap.size, 2, none⟩) (Nat.le_refl _) hl _).setCell (p := ⟨W.heap.size, 3, none⟩) (Nat.le_refl _) hl _).setCell (p := ⟨W.heap.size, 4, none⟩) (Nat.le_refl _) hl _
theorem LT.cell {r : Nat} {W wx : World} {o : Obj} {b : Nat} (h : LT r W o wx b) (i : Nat) (u : Value) : LT r W o (wx.setCell ⟨W.heap.size, i, none⟩ u) b :=
  ⟨(Below.heap_setCell wx ⟨W.heap.size, i, none⟩ u b (by have := h.hb; show b ≠ W.heap.size; omega)).trans h.on, h.hb, h.lt⟩
theorem Sn.set {r : Nat} {W w : World} {o1 o2 : Option Nat} (h : Sn r W o1 o2 w) (p : ByteArray) (t s l z : Int) : Sn r W o1 o2 (((((w.setCell ⟨W.heap.size, 0, none⟩ (.string p)).setCell ⟨W.heap.size, 1, none⟩ (.int .i64 t)).setCell ⟨W.heap.size, 2, none⟩ (.int .i64 s)).setCell ⟨W.heap.size, 3, none⟩ (.int .i64 l)).setCell ⟨W.heap.size, 4, none⟩ (.int .i64 z)) := by
  obtain ⟨p0, t0, s0, l0, z0, d⟩ := h.de
  exact ⟨⟨p, t, s, l, z, d.set h.lt p t s l z⟩, fun b e => (((((h.l1 b e).cell 0 _).cell 1 _).cell 2 _).cell 3 _).cell 4 _, fun b e => (((((h.l2 b e).cell 0 _).cell 1 _).cell 2 _).cell 3 _).cell 4 _, h.lt⟩
theorem fin_of {r : Nat} {W w : World} {o1 o2 : Option Nat} (h : Sn r W o1 o2 w) {z1 z2 z3 z4 z5 q4 : Int} {q1 : ByteArray} (h1 : H1 z1 q1) (h2 : H2 z2) (h3 : H3 z3) (h4 : H4 z4 q4) (h5 : H5 z5) : Fin r W (((((w.setCell ⟨W.heap.size, 0, none⟩ (.string q1)).setCell ⟨W.heap.size, 1, none⟩ (.int .i64 (14130000 + z2 * 720))).setCell ⟨W.heap.size, 2, none⟩ (.int .i64 (z3 * 6))).setCell ⟨W.heap.size, 3, none⟩ (.int .i64 q4)).setCell ⟨W.heap.size, 4, none⟩ (.int .i64 z5)) := by
  obtain ⟨p0, t0, s0, l0, z0, d⟩ := h.de
  obtain ⟨_, hp, _⟩ := h1
  obtain ⟨a2, b2⟩ := h2
  obtain ⟨a3, b3⟩ := h3
  obtain ⟨_, ⟨a4, b4⟩, _⟩ := h4
  obtain ⟨a5, b5⟩ := h5
  exact ⟨q1, _, _, q4, z5, ⟨hp, ⟨by omega, by omega⟩, ⟨by omega, by omega⟩, ⟨by omega, by omega⟩, by omega, by omega⟩, d.set h.lt _ _ _ _ _⟩
theorem Sn.start {r : Nat} {W wx : World} (h : SE r W wx) : Sn r W none none wx := ⟨⟨_, _, _, _, _, h.an, h.rd, h.tn⟩, (fun b e => by cases e), (fun b e => by cases e), h.lt⟩
set_option maxHeartbeats 2000000 in
theorem st511 {r : Nat} {W : World} {Q : Exit → Act → World → Prop} (_hP : ∀ c (a : Act) d (v : Value) w, Q (.panic c) (a.put d v) w → Q (.panic c) a w) (hQ : ∀ (u3 u4 u5 u6 u7 u8 u9 u10 u11 u12 u13 u14 u15 u16 u17 u18 u19 u20 u21 u22 : Value) (w : World), Fin r W w → Q .normal ⟨#[.pointer (some ⟨r, 0, none⟩), undef, .pointer (some ⟨W.heap.size, 0, none⟩), u3, u4, u5, u6, u7, u8, u9, u10, u11, u12, u13, u14, u15, u16, u17, u18, u19, u20, u21, u22], []⟩ w) {z1 : Int} {q1 : ByteArray} (h1 : H1 z1 q1) {z2 : Int} (h2 : H2 z2) {z3 : Int} (h3 : H3 z3) {z4 q4 : Int} (h4 : H4 z4 q4) {z5 : Int} (h5 : H5 z5) (b1 : Nat) (b2 : Nat) (w : World) (hS : Sn r W (some b1) (some b2) w) : wpAnyH Try.prog .any OPS Q (Sn r W (some b1) (some b2)) 1 #[true, true, true, true, true, true, true, true, true, true, true, true, true, true, true, true, true, true, true, true, false] ⟨#[.pointer (some ⟨r, 0, none⟩), undef, .pointer (some ⟨W.heap.size, 0, none⟩), .slice (some ⟨b1, 0, none⟩) 5 5, .pointer (some ⟨r, 0, none⟩), .int .i64 z1, .pointer (some ⟨b1, z1.toNat, none⟩), .string q1, .pointer (some ⟨r, 0, none⟩), .int .i64 z2, .int .i64 (z2 * 720), .int .i64 (14130000 + z2 * 720), .pointer (some ⟨r, 0, none⟩), .int .i64 z3, .int .i64 (z3 * 6), .slice (some ⟨b2, 0, none⟩) 3 3, .pointer (some ⟨r, 0, none⟩), .int .i64 z4, .pointer (some ⟨b2, z4.toNat, none⟩), .int .i64 q4, .pointer (some ⟨r, 0, none⟩), .int .i64 z5, .agg #[.string q1, .int .i64 (14130000 + z2 * 720), .int .i64 (z3 * 6), .int .i64 q4, .int .i64 z5]], []⟩ w := by
  refine wpAnyH_ready (rs := [20]) (by kernel_rfl) (by simp) ?_
  refine AllReadyH.cons (o := { dst := none, op := Go.Op.store 26 (Go.Operand.tmp 2) (Go.Operand.tmp 22), type := 0, pos := "l25_archive.go:350", after := #[{ on := 19, ground := Go.Ground.data }, { on := 18, ground := Go.Ground.chain }, { on := 0, ground := Go.Ground.phase }, { on := 1, ground := Go.Ground.phase }, { on := 2, ground := Go.Ground.phase }, { on := 3, ground := Go.Ground.phase }, { on := 4, ground := Go.Ground.phase }, { on := 5, ground := Go.Ground.phase }, { on := 6, ground := Go.Ground.phase }, { on := 7, ground := Go.Ground.phase }, { on := 8, ground := Go.Ground.phase }, { on := 9, ground := Go.Ground.phase }, { on := 10, ground := Go.Ground.phase }, { on := 11, ground := Go.Ground.phase }, { on := 12, ground := Go.Ground.phase }, { on := 13, ground := Go.Ground.phase }, { on := 14, ground := Go.Ground.phase }, { on := 15, ground := Go.Ground.phase }, { on := 16, ground := Go.Ground.phase }, { on := 17, ground := Go.Ground.phase }, { on := 18, ground := Go.Ground.phase }, { on := 19, ground := Go.Ground.phase }], guard := none }) rfl (fun K hK => ?_) ?_
  · have RR := rg1 h2; have R3 := rg2 h3
    obtain ⟨p, t, s, l, z, d⟩ := hS.de
    obtain ⟨e0, e1, e2, e3, e4, ef⟩ := d.an.cells
    have f0 := ef 0; have f1 := ef 1; have f2 := ef 2; have f3 := ef 3; have f4 := ef 4
    clear ef d
    go_simp
    refine hK.out _ _ (Sn.set hS _ _ _ _ _) (fun _ => ?_)
    clear hK K
    (try simp only [List.setIfInBounds_toArray, List.set_cons_zero, List.set_cons_succ])
    refine wpAnyH_done (by kernel_rfl) ?_ _
    exact hQ _ _ _ _ _ _ _ _ _ _ _ _ _ _ _ _ _ _ _ _ _ (fin_of hS h1 h2 h3 h4 h5)
  exact AllReadyH.nil
set_option maxHeartbeats 2000000 in
theorem st501 {r : Nat} {W : World} {Q : Exit → Act → World → Prop} (hP : ∀ c (a : Act) d (v : Value) w, Q (.panic c) (a.put d v) w → Q (.panic c) a w) (hQ : ∀ (u3 u4 u5 u6 u7 u8 u9 u10 u11 u12 u13 u14 u15 u16 u17 u18 u19 u20 u21 u22 : Value) (w : World), Fin r W w → Q .normal ⟨#[.pointer (some ⟨r, 0, none⟩), undef, .pointer (some ⟨W.heap.size, 0, none⟩), u3, u4, u5, u6, u7, u8, u9, u10, u11, u12, u13, u14, u15, u16, u17, u18, u19, u20, u21, u22], []⟩ w) {z1 : Int} {q1 : ByteArray} (h1 : H1 z1 q1) {z2 : Int} (h2 : H2 z2) {z3 : Int} (h3 : H3 z3) {z4 q4 : Int} (h4 : H4 z4 q4) {z5 : Int} (h5 : H5 z5) (b2 : Nat) (w : World) (hS : Sn r W (none) (some b2) w) : wpAnyH Try.prog .any OPS Q (Sn r W (none) (some b2)) 5 #[false, true, true, false, false, true, true, true, true, true, true, true, true, true, true, true, true, true, true, false, false] ⟨#[.pointer (some ⟨r, 0, none⟩), undef, .pointer (some ⟨W.heap.size, 0, none⟩), undef, .pointer (some ⟨r, 0, none⟩), .int .i64 z1, undef, undef, .pointer (some ⟨r, 0, none⟩), .int .i64 z2, .int .i64 (z2 * 720), .int .i64 (14130000 + z2 * 720), .pointer (some ⟨r, 0, none⟩), .int .i64 z3, .int .i64 (z3 * 6), .slice (some ⟨b2, 0, none⟩) 3 3, .pointer (some ⟨r, 0, none⟩), .int .i64 z4, .pointer (some ⟨b2, z4.toNat, none⟩), .int .i64 q4, .pointer (some ⟨r, 0, none⟩), .int .i64 z5, undef], []⟩ w := by
  refine wpAnyH_ready (rs := [0]) (by kernel_rfl) (by simp) ?_
  refine AllReadyH.cons (o := { dst := some 3, op := Go.Op.buildSlice 32 5 #[(0, Go.Operand.const (Go.Value.string { data := #[116] })), (1, Go.Operand.const (Go.Value.string { data := #[117] })), (2, Go.Operand.const (Go.Value.string { data := #[118] })), (3, Go.Operand.const (Go.Value.string { data := #[109, 115, 108] })), (4, Go.Operand.const (Go.Value.string { data := #[116, 112] }))], type := 32, pos := "l25_archive.go:350", after := #[], guard := none }) rfl (fun K hK => ?_) ?_
  · have hS2 := hS
    go_simp
    have hS2 : Sn r W (some w.heap.size) (some b2) (w.alloc words) := hS.lit1
    refine hK.out _ _ (by first | exact hS2 | exact hS2.less1 | exact hS2.less2) (fun _ => ?_)
    clear hK K
    (try simp only [List.setIfInBounds_toArray, List.set_cons_zero])
    refine wpAnyH_weak (S1 := Sn r W (some w.heap.size) (some b2)) (fun _ h => h.less1) _ _ _ _ ?_
    refine wpAnyH_take (i := 3) (oi := { dst := some 6, op := Go.Op.indexAddr 32 (Go.Operand.tmp 3) (Go.Operand.tmp 5), type := 0, pos := "l25_archive.go:350", after := #[{ on := 0, ground := Go.Ground.data }, { on := 2, ground := Go.Ground.data }], guard := none }) (v := (.pointer (some ⟨w.heap.size, z1.toNat, none⟩))) rfl (by kernel_rfl) (by kernel_rfl) (by kernel_rfl) (fun c a w h => hP c a _ _ w h) (Or.inl ⟨by rfl, ?_⟩) (by assumption) ?_
    · intro w hSw; have g1 := h1.1.1; have g2 := h1.1.2; go_simp
    (try simp only [Act.put, List.setIfInBounds_toArray, List.set_cons_zero, List.set_cons_succ])
    refine wpAnyH_take (i := 4) (oi := { dst := some 7, op := Go.Op.load 9 (Go.Operand.tmp 6), type := 9, pos := "l25_archive.go:350", after := #[{ on := 3, ground := Go.Ground.data }], guard := none }) (v := (.string q1)) rfl (by kernel_rfl) (by kernel_rfl) (by kernel_rfl) (fun c a w h => hP c a _ _ w h) (Or.inl ⟨by rfl, ?_⟩) (by assumption) ?_
    · intro w hSw; have cc := (h1.2.2.f4 _ _ _ _ (hSw.l1 _ rfl)).1; go_simp
    (try simp only [Act.put, List.setIfInBounds_toArray, List.set_cons_zero, List.set_cons_succ])
    refine wpAnyH_take (i := 19) (oi := { dst := some 22, op := Go.Op.build 26 #[(0, Go.Operand.tmp 7), (1, Go.Operand.tmp 11), (2, Go.Operand.tmp 14), (3, Go.Operand.tmp 19), (4, Go.Operand.tmp 21)], type := 26, pos := "l25_archive.go:350", after := #[{ on := 4, ground := Go.Ground.data }, { on := 8, ground := Go.Ground.data }, { on := 11, ground := Go.Ground.data }, { on := 16, ground := Go.Ground.data }, { on := 18, ground := Go.Ground.data }], guard := none }) (v := (.agg #[.string q1, .int .i64 (14130000 + z2 * 720), .int .i64 (z3 * 6), .int .i64 q4, .int .i64 z5])) rfl (by kernel_rfl) (by kernel_rfl) (by kernel_rfl) (fun c a w h => hP c a _ _ w h) (Or.inl ⟨by rfl, ?_⟩) (by assumption) ?_
    · intro w hSw; go_simp
    (try simp only [Act.put, List.setIfInBounds_toArray, List.set_cons_zero, List.set_cons_succ])
    exact st511 hP hQ h1 h2 h3 h4 h5 w.heap.size b2 _ hS2
  exact AllReadyH.nil
set_option maxHeartbeats 2000000 in
theorem st510 {r : Nat} {W : World} {Q : Exit → Act → World → Prop} (hP : ∀ c (a : Act) d (v : Value) w, Q (.panic c) (a.put d v) w → Q (.panic c) a w) (hQ : ∀ (u3 u4 u5 u6 u7 u8 u9 u10 u11 u12 u13 u14 u15 u16 u17 u18 u19 u20 u21 u22 : Value) (w : World), Fin r W w → Q .normal ⟨#[.pointer (some ⟨r, 0, none⟩), undef, .pointer (some ⟨W.heap.size, 0, none⟩), u3, u4, u5, u6, u7, u8, u9, u10, u11, u12, u13, u14, u15, u16, u17, u18, u19, u20, u21, u22], []⟩ w) {z1 : Int} {q1 : ByteArray} (h1 : H1 z1 q1) {z2 : Int} (h2 : H2 z2) {z3 : Int} (h3 : H3 z3) {z4 q4 : Int} (h4 : H4 z4 q4) {z5 : Int} (h5 : H5 z5) (b1 : Nat) (w : World) (hS : Sn r W (some b1) (none) w) : wpAnyH Try.prog .any OPS Q (Sn r W (some b1) (none)) 5 #[true, true, true, true, true, true, true, true, true, true, true, true, false, true, true, false, false, true, true, false, false] ⟨#[.pointer (some ⟨r, 0, none⟩), undef, .pointer (some ⟨W.heap.size, 0, none⟩), .slice (some ⟨b1, 0, none⟩) 5 5, .pointer (some ⟨r, 0, none⟩), .int .i64 z1, .pointer (some ⟨b1, z1.toNat, none⟩), .string q1, .pointer (some ⟨r, 0, none⟩), .int .i64 z2, .int .i64 (z2 * 720), .int .i64 (14130000 + z2 * 720), .pointer (some ⟨r, 0, none⟩), .int .i64 z3, .int .i64 (z3 * 6), undef, .pointer (some ⟨r, 0, none⟩), .int .i64 z4, undef, undef, .pointer (some ⟨r, 0, none⟩), .int .i64 z5, undef], []⟩ w := by
  refine wpAnyH_ready (rs := [12]) (by kernel_rfl) (by simp) ?_
  refine AllReadyH.cons (o := { dst := some 15, op := Go.Op.buildSlice 33 3 #[(0, Go.Operand.const (Go.Value.int Go.IntKind.i64 0)), (1, Go.Operand.const (Go.Value.int Go.IntKind.i64 500)), (2, Go.Operand.const (Go.Value.int Go.IntKind.i64 850))], type := 33, pos := "l25_archive.go:350", after := #[], guard := none }) rfl (fun K hK => ?_) ?_
  · have hS2 := hS
    go_simp
    have hS2 : Sn r W (some b1) (some w.heap.size) (w.alloc levels) := hS.lit2
    refine hK.out _ _ (by first | exact hS2 | exact hS2.less1 | exact hS2.less2) (fun _ => ?_)
    clear hK K
    (try simp only [List.setIfInBounds_toArray, List.set_cons_zero, List.set_cons_succ])
    refine wpAnyH_weak (S1 := Sn r W (some b1) (some w.heap.size)) (fun _ h => h.less2) _ _ _ _ ?_
    refine wpAnyH_take (i := 15) (oi := { dst := some 18, op := Go.Op.indexAddr 33 (Go.Operand.tmp 15) (Go.Operand.tmp 17), type := 0, pos := "l25_archive.go:350", after := #[{ on := 12, ground := Go.Ground.data }, { on := 14, ground := Go.Ground.data }], guard := none }) (v := (.pointer (some ⟨w.heap.size, z4.toNat, none⟩))) rfl (by kernel_rfl) (by kernel_rfl) (by kernel_rfl) (fun c a w h => hP c a _ _ w h) (Or.inl ⟨by rfl, ?_⟩) (by assumption) ?_
    · intro w hSw; have g1 := h4.1.1; have g2 := h4.1.2; go_simp
    (try simp only [Act.put, List.setIfInBounds_toArray, List.set_cons_zero, List.set_cons_succ])
    refine wpAnyH_take (i := 16) (oi := { dst := some 19, op := Go.Op.load 2 (Go.Operand.tmp 18), type := 2, pos := "l25_archive.go:350", after := #[{ on := 15, ground := Go.Ground.data }], guard := none }) (v := (.int .i64 q4)) rfl (by kernel_rfl) (by kernel_rfl) (by kernel_rfl) (fun c a w h => hP c a _ _ w h) (Or.inl ⟨by rfl, ?_⟩) (by assumption) ?_
    · intro w hSw; have cc := (h4.2.2.f4 _ _ _ _ (hSw.l2 _ rfl)).1; go_simp
    (try simp only [Act.put, List.setIfInBounds_toArray, List.set_cons_zero, List.set_cons_succ])
    refine wpAnyH_take (i := 19) (oi := { dst := some 22, op := Go.Op.build 26 #[(0, Go.Operand.tmp 7), (1, Go.Operand.tmp 11), (2, Go.Operand.tmp 14), (3, Go.Operand.tmp 19), (4, Go.Operand.tmp 21)], type := 26, pos := "l25_archive.go:350", after := #[{ on := 4, ground := Go.Ground.data }, { on := 8, ground := Go.Ground.data }, { on := 11, ground := Go.Ground.data }, { on := 16, ground := Go.Ground.data }, { on := 18, ground := Go.Ground.data }], guard := none }) (v := (.agg #[.string q1, .int .i64 (14130000 + z2 * 720), .int .i64 (z3 * 6), .int .i64 q4, .int .i64 z5])) rfl (by kernel_rfl) (by kernel_rfl) (by kernel_rfl) (fun c a w h => hP c a _ _ w h) (Or.inl ⟨by rfl, ?_⟩) (by assumption) ?_
    · intro w hSw; go_simp
    (try simp only [Act.put, List.setIfInBounds_toArray, List.set_cons_zero, List.set_cons_succ])
    exact st511 hP hQ h1 h2 h3 h4 h5 b1 w.heap.size _ hS2
  exact AllReadyH.nil
set_option maxHeartbeats 2000000 in
theorem st500 {r : Nat} {W : World} {Q : Exit → Act → World → Prop} (hP : ∀ c (a : Act) d (v : Value) w, Q (.panic c) (a.put d v) w → Q (.panic c) a w) (hQ : ∀ (u3 u4 u5 u6 u7 u8 u9 u10 u11 u12 u13 u14 u15 u16 u17 u18 u19 u20 u21 u22 : Value) (w : World), Fin r W w → Q .normal ⟨#[.pointer (some ⟨r, 0, none⟩), undef, .pointer (some ⟨W.heap.size, 0, none⟩), u3, u4, u5, u6, u7, u8, u9, u10, u11, u12, u13, u14, u15, u16, u17, u18, u19, u20, u21, u22], []⟩ w) {z1 : Int} {q1 : ByteArray} (h1 : H1 z1 q1) {z2 : Int} (h2 : H2 z2) {z3 : Int} (h3 : H3 z3) {z4 q4 : Int} (h4 : H4 z4 q4) {z5 : Int} (h5 : H5 z5) (w : World) (hS : Sn r W (none) (none) w) : wpAnyH Try.prog .any OPS Q (Sn r W (none) (none)) 8 #[false, true, true, false, false, true, true, true, true, true, true, true, false, true, true, false, false, true, true, false, false] ⟨#[.pointer (some ⟨r, 0, none⟩), undef, .pointer (some ⟨W.heap.size, 0, none⟩), undef, .pointer (some ⟨r, 0, none⟩), .int .i64 z1, undef, undef, .pointer (some ⟨r, 0, none⟩), .int .i64 z2, .int .i64 (z2 * 720), .int .i64 (14130000 + z2 * 720), .pointer (some ⟨r, 0, none⟩), .int .i64 z3, .int .i64 (z3 * 6), undef, .pointer (some ⟨r, 0, none⟩), .int .i64 z4, undef, undef, .pointer (some ⟨r, 0, none⟩), .int .i64 z5, undef], []⟩ w := by
  refine wpAnyH_ready (rs := [0, 12]) (by kernel_rfl) (by simp) ?_
  refine AllReadyH.cons (o := { dst := some 3, op := Go.Op.buildSlice 32 5 #[(0, Go.Operand.const (Go.Value.string { data := #[116] })), (1, Go.Operand.const (Go.Value.string { data := #[117] })), (2, Go.Operand.const (Go.Value.string { data := #[118] })), (3, Go.Operand.const (Go.Value.string { data := #[109, 115, 108] })), (4, Go.Operand.const (Go.Value.string { data := #[116, 112] }))], type := 32, pos := "l25_archive.go:350", after := #[], guard := none }) rfl (fun K hK => ?_) ?_
  · have hS2 := hS
    go_simp
    have hS2 : Sn r W (some w.heap.size) (none) (w.alloc words) := hS.lit1
    refine hK.out _ _ (by first | exact hS2 | exact hS2.less1 | exact hS2.less2) (fun _ => ?_)
    clear hK K
    (try simp only [List.setIfInBounds_toArray, List.set_cons_zero])
    refine wpAnyH_weak (S1 := Sn r W (some w.heap.size) (none)) (fun _ h => h.less1) _ _ _ _ ?_
    refine wpAnyH_take (i := 3) (oi := { dst := some 6, op := Go.Op.indexAddr 32 (Go.Operand.tmp 3) (Go.Operand.tmp 5), type := 0, pos := "l25_archive.go:350", after := #[{ on := 0, ground := Go.Ground.data }, { on := 2, ground := Go.Ground.data }], guard := none }) (v := (.pointer (some ⟨w.heap.size, z1.toNat, none⟩))) rfl (by kernel_rfl) (by kernel_rfl) (by kernel_rfl) (fun c a w h => hP c a _ _ w h) (Or.inl ⟨by rfl, ?_⟩) (by assumption) ?_
    · intro w hSw; have g1 := h1.1.1; have g2 := h1.1.2; go_simp
    (try simp only [Act.put, List.setIfInBounds_toArray, List.set_cons_zero, List.set_cons_succ])
    refine wpAnyH_take (i := 4) (oi := { dst := some 7, op := Go.Op.load 9 (Go.Operand.tmp 6), type := 9, pos := "l25_archive.go:350", after := #[{ on := 3, ground := Go.Ground.data }], guard := none }) (v := (.string q1)) rfl (by kernel_rfl) (by kernel_rfl) (by kernel_rfl) (fun c a w h => hP c a _ _ w h) (Or.inl ⟨by rfl, ?_⟩) (by assumption) ?_
    · intro w hSw; have cc := (h1.2.2.f4 _ _ _ _ (hSw.l1 _ rfl)).1; go_simp
    (try simp only [Act.put, List.setIfInBounds_toArray, List.set_cons_zero, List.set_cons_succ])
    exact st510 hP hQ h1 h2 h3 h4 h5 w.heap.size _ hS2
  refine AllReadyH.cons (o := { dst := some 15, op := Go.Op.buildSlice 33 3 #[(0, Go.Operand.const (Go.Value.int Go.IntKind.i64 0)), (1, Go.Operand.const (Go.Value.int Go.IntKind.i64 500)), (2, Go.Operand.const (Go.Value.int Go.IntKind.i64 850))], type := 33, pos := "l25_archive.go:350", after := #[], guard := none }) rfl (fun K hK => ?_) ?_
  · have hS2 := hS
    go_simp
    have hS2 : Sn r W (none) (some w.heap.size) (w.alloc levels) := hS.lit2
    refine hK.out _ _ (by first | exact hS2 | exact hS2.less1 | exact hS2.less2) (fun _ => ?_)
    clear hK K
    (try simp only [List.setIfInBounds_toArray, List.set_cons_zero, List.set_cons_succ])
    refine wpAnyH_weak (S1 := Sn r W (none) (some w.heap.size)) (fun _ h => h.less2) _ _ _ _ ?_
    refine wpAnyH_take (i := 15) (oi := { dst := some 18, op := Go.Op.indexAddr 33 (Go.Operand.tmp 15) (Go.Operand.tmp 17), type := 0, pos := "l25_archive.go:350", after := #[{ on := 12, ground := Go.Ground.data }, { on := 14, ground := Go.Ground.data }], guard := none }) (v := (.pointer (some ⟨w.heap.size, z4.toNat, none⟩))) rfl (by kernel_rfl) (by kernel_rfl) (by kernel_rfl) (fun c a w h => hP c a _ _ w h) (Or.inl ⟨by rfl, ?_⟩) (by assumption) ?_
    · intro w hSw; have g1 := h4.1.1; have g2 := h4.1.2; go_simp
    (try simp only [Act.put, List.setIfInBounds_toArray, List.set_cons_zero, List.set_cons_succ])
    refine wpAnyH_take (i := 16) (oi := { dst := some 19, op := Go.Op.load 2 (Go.Operand.tmp 18), type := 2, pos := "l25_archive.go:350", after := #[{ on := 15, ground := Go.Ground.data }], guard := none }) (v := (.int .i64 q4)) rfl (by kernel_rfl) (by kernel_rfl) (by kernel_rfl) (fun c a w h => hP c a _ _ w h) (Or.inl ⟨by rfl, ?_⟩) (by assumption) ?_
    · intro w hSw; have cc := (h4.2.2.f4 _ _ _ _ (hSw.l2 _ rfl)).1; go_simp
    (try simp only [Act.put, List.setIfInBounds_toArray, List.set_cons_zero, List.set_cons_succ])
    exact st501 hP hQ h1 h2 h3 h4 h5 w.heap.size _ hS2
  exact AllReadyH.nil
set_option maxHeartbeats 2000000 in
theorem st411 {r : Nat} {W : World} {Q : Exit → Act → World → Prop} (hP : ∀ c (a : Act) d (v : Value) w, Q (.panic c) (a.put d v) w → Q (.panic c) a w) (hQ : ∀ (u3 u4 u5 u6 u7 u8 u9 u10 u11 u12 u13 u14 u15 u16 u17 u18 u19 u20 u21 u22 : Value) (w : World), Fin r W w → Q .normal ⟨#[.pointer (some ⟨r, 0, none⟩), undef, .pointer (some ⟨W.heap.size, 0, none⟩), u3, u4, u5, u6, u7, u8, u9, u10, u11, u12, u13, u14, u15, u16, u17, u18, u19, u20, u21, u22], []⟩ w) {z1 : Int} {q1 : ByteArray} (h1 : H1 z1 q1) {z2 : Int} (h2 : H2 z2) {z3 : Int} (h3 : H3 z3) {z4 q4 : Int} (h4 : H4 z4 q4) (b1 : Nat) (b2 : Nat) (w : World) (hS : Sn r W (some b1) (some b2) w) : wpAnyH Try.prog .any OPS Q (Sn r W (some b1) (some b2)) 3 #[true, true, true, true, true, true, true, true, true, true, true, true, true, true, true, true, true, true, false, false, false] ⟨#[.pointer (some ⟨r, 0, none⟩), undef, .pointer (some ⟨W.heap.size, 0, none⟩), .slice (some ⟨b1, 0, none⟩) 5 5, .pointer (some ⟨r, 0, none⟩), .int .i64 z1, .pointer (some ⟨b1, z1.toNat, none⟩), .string q1, .pointer (some ⟨r, 0, none⟩), .int .i64 z2, .int .i64 (z2 * 720), .int .i64 (14130000 + z2 * 720), .pointer (some ⟨r, 0, none⟩), .int .i64 z3, .int .i64 (z3 * 6), .slice (some ⟨b2, 0, none⟩) 3 3, .pointer (some ⟨r, 0, none⟩), .int .i64 z4, .pointer (some ⟨b2, z4.toNat, none⟩), .int .i64 q4, .pointer (some ⟨r, 0, none⟩), undef, undef], []⟩ w := by
  refine wpAnyH_ready (rs := [18]) (by kernel_rfl) (by simp) ?_
  refine AllReadyH.cons (o := { dst := some 21, op := Go.Op.call { callee := Go.Callee.value (Go.Operand.func 17), args := #[Go.Operand.tmp 20, Go.Operand.const (Go.Value.int Go.IntKind.i64 90)], argTypes := #[41, 3] }, type := 3, pos := "l25_archive.go:350", after := #[{ on := 17, ground := Go.Ground.data }, { on := 14, ground := Go.Ground.chain }], guard := none }) rfl (fun K hK => ?_) ?_
  · have rdw := hS.rd
    go_simp
    go_at_call 17
    refine (below_all r _ rdw 90 (by omega) (by omega)).mono ?_
    rintro e w1 ⟨⟨z5, hz, rfl⟩, k1, t1⟩
    have h5 : H5 z5 := hz
    clear hz
    have hS2 := hS.turn t1 k1
    clear k1 t1 hS rdw
    go_wp2_with fail
    refine hK.out _ _ (by first | exact hS2 | exact hS2.less1 | exact hS2.less2) (fun _ => ?_)
    clear hK K
    (try simp only [List.setIfInBounds_toArray, List.set_cons_zero, List.set_cons_succ])
    refine wpAnyH_take (i := 19) (oi := { dst := some 22, op := Go.Op.build 26 #[(0, Go.Operand.tmp 7), (1, Go.Operand.tmp 11), (2, Go.Operand.tmp 14), (3, Go.Operand.tmp 19), (4, Go.Operand.tmp 21)], type := 26, pos := "l25_archive.go:350", after := #[{ on := 4, ground := Go.Ground.data }, { on := 8, ground := Go.Ground.data }, { on := 11, ground := Go.Ground.data }, { on := 16, ground := Go.Ground.data }, { on := 18, ground := Go.Ground.data }], guard := none }) (v := (.agg #[.string q1, .int .i64 (14130000 + z2 * 720), .int .i64 (z3 * 6), .int .i64 q4, .int .i64 z5])) rfl (by kernel_rfl) (by kernel_rfl) (by kernel_rfl) (fun c a w h => hP c a _ _ w h) (Or.inl ⟨by rfl, ?_⟩) (by assumption) ?_
    · intro w hSw; go_simp
    (try simp only [Act.put, List.setIfInBounds_toArray, List.set_cons_zero, List.set_cons_succ])
    exact st511 hP hQ h1 h2 h3 h4 h5 b1 b2 _ hS2
  exact AllReadyH.nil
set_option maxHeartbeats 2000000 in
theorem st401 {r : Nat} {W : World} {Q : Exit → Act → World → Prop} (hP : ∀ c (a : Act) d (v : Value) w, Q (.panic c) (a.put d v) w → Q (.panic c) a w) (hQ : ∀ (u3 u4 u5 u6 u7 u8 u9 u10 u11 u12 u13 u14 u15 u16 u17 u18 u19 u20 u21 u22 : Value) (w : World), Fin r W w → Q .normal ⟨#[.pointer (some ⟨r, 0, none⟩), undef, .pointer (some ⟨W.heap.size, 0, none⟩), u3, u4, u5, u6, u7, u8, u9, u10, u11, u12, u13, u14, u15, u16, u17, u18, u19, u20, u21, u22], []⟩ w) {z1 : Int} {q1 : ByteArray} (h1 : H1 z1 q1) {z2 : Int} (h2 : H2 z2) {z3 : Int} (h3 : H3 z3) {z4 q4 : Int} (h4 : H4 z4 q4) (b2 : Nat) (w : World) (hS : Sn r W (none) (some b2) w) : wpAnyH Try.prog .any OPS Q (Sn r W (none) (some b2)) 6 #[false, true, true, false, false, true, true, true, true, true, true, true, true, true, true, true, true, true, false, false, false] ⟨#[.pointer (some ⟨r, 0, none⟩), undef, .pointer (some ⟨W.heap.size, 0, none⟩), undef, .pointer (some ⟨r, 0, none⟩), .int .i64 z1, undef, undef, .pointer (some ⟨r, 0, none⟩), .int .i64 z2, .int .i64 (z2 * 720), .int .i64 (14130000 + z2 * 720), .pointer (some ⟨r, 0, none⟩), .int .i64 z3, .int .i64 (z3 * 6), .slice (some ⟨b2, 0, none⟩) 3 3, .pointer (some ⟨r, 0, none⟩), .int .i64 z4, .pointer (some ⟨b2, z4.toNat, none⟩), .int .i64 q4, .pointer (some ⟨r, 0, none⟩), undef, undef], []⟩ w := by
  refine wpAnyH_ready (rs := [0, 18]) (by kernel_rfl) (by simp) ?_
  refine AllReadyH.cons (o := { dst := some 3, op := Go.Op.buildSlice 32 5 #[(0, Go.Operand.const (Go.Value.string { data := #[116] })), (1, Go.Operand.const (Go.Value.string { data := #[117] })), (2, Go.Operand.const (Go.Value.string { data := #[118] })), (3, Go.Operand.const (Go.Value.string { data := #[109, 115, 108] })), (4, Go.Operand.const (Go.Value.string { data := #[116, 112] }))], type := 32, pos := "l25_archive.go:350", after := #[], guard := none }) rfl (fun K hK => ?_) ?_
  · have hS2 := hS
    go_simp
    have hS2 : Sn r W (some w.heap.size) (some b2) (w.alloc words) := hS.lit1
    refine hK.out _ _ (by first | exact hS2 | exact hS2.less1 | exact hS2.less2) (fun _ => ?_)
    clear hK K
    (try simp only [List.setIfInBounds_toArray, List.set_cons_zero])
    refine wpAnyH_weak (S1 := Sn r W (some w.heap.size) (some b2)) (fun _ h => h.less1) _ _ _ _ ?_
    refine wpAnyH_take (i := 3) (oi := { dst := some 6, op := Go.Op.indexAddr 32 (Go.Operand.tmp 3) (Go.Operand.tmp 5), type := 0, pos := "l25_archive.go:350", after := #[{ on := 0, ground := Go.Ground.data }, { on := 2, ground := Go.Ground.data }], guard := none }) (v := (.pointer (some ⟨w.heap.size, z1.toNat, none⟩))) rfl (by kernel_rfl) (by kernel_rfl) (by kernel_rfl) (fun c a w h => hP c a _ _ w h) (Or.inl ⟨by rfl, ?_⟩) (by assumption) ?_
    · intro w hSw; have g1 := h1.1.1; have g2 := h1.1.2; go_simp
    (try simp only [Act.put, List.setIfInBounds_toArray, List.set_cons_zero, List.set_cons_succ])
    refine wpAnyH_take (i := 4) (oi := { dst := some 7, op := Go.Op.load 9 (Go.Operand.tmp 6), type := 9, pos := "l25_archive.go:350", after := #[{ on := 3, ground := Go.Ground.data }], guard := none }) (v := (.string q1)) rfl (by kernel_rfl) (by kernel_rfl) (by kernel_rfl) (fun c a w h => hP c a _ _ w h) (Or.inl ⟨by rfl, ?_⟩) (by assumption) ?_
    · intro w hSw; have cc := (h1.2.2.f4 _ _ _ _ (hSw.l1 _ rfl)).1; go_simp
    (try simp only [Act.put, List.setIfInBounds_toArray, List.set_cons_zero, List.set_cons_succ])
    exact st411 hP hQ h1 h2 h3 h4 w.heap.size b2 _ hS2
  refine AllReadyH.cons (o := { dst := some 21, op := Go.Op.call { callee := Go.Callee.value (Go.Operand.func 17), args := #[Go.Operand.tmp 20, Go.Operand.const (Go.Value.int Go.IntKind.i64 90)], argTypes := #[41, 3] }, type := 3, pos := "l25_archive.go:350", after := #[{ on := 17, ground := Go.Ground.data }, { on := 14, ground := Go.Ground.chain }], guard := none }) rfl (fun K hK => ?_) ?_
  · have rdw := hS.rd
    go_simp
    go_at_call 17
    refine (below_all r _ rdw 90 (by omega) (by omega)).mono ?_
    rintro e w1 ⟨⟨z5, hz, rfl⟩, k1, t1⟩
    have h5 : H5 z5 := hz
    clear hz
    have hS2 := hS.turn t1 k1
    clear k1 t1 hS rdw
    go_wp2_with fail
    refine hK.out _ _ (by first | exact hS2 | exact hS2.less1 | exact hS2.less2) (fun _ => ?_)
    clear hK K
    (try simp only [List.setIfInBounds_toArray, List.set_cons_zero, List.set_cons_succ])
    exact st501 hP hQ h1 h2 h3 h4 h5 b2 _ hS2
  exact AllReadyH.nil
set_option maxHeartbeats 2000000 in
theorem st410 {r : Nat} {W : World} {Q : Exit → Act → World → Prop} (hP : ∀ c (a : Act) d (v : Value) w, Q (.panic c) (a.put d v) w → Q (.panic c) a w) (hQ : ∀ (u3 u4 u5 u6 u7 u8 u9 u10 u11 u12 u13 u14 u15 u16 u17 u18 u19 u20 u21 u22 : Value) (w : World), Fin r W w → Q .normal ⟨#[.pointer (some ⟨r, 0, none⟩), undef, .pointer (some ⟨W.heap.size, 0, none⟩), u3, u4, u5, u6, u7, u8, u9, u10, u11, u12, u13, u14, u15, u16, u17, u18, u19, u20, u21, u22], []⟩ w) {z1 : Int} {q1 : ByteArray} (h1 : H1 z1 q1) {z2 : Int} (h2 : H2 z2) {z3 : Int} (h3 : H3 z3) {z4 q4 : Int} (h4 : H4 z4 q4) (b1 : Nat) (w : World) (hS : Sn r W (some b1) (none) w) : wpAnyH Try.prog .any OPS Q (Sn r W (some b1) (none)) 6 #[true, true, true, true, true, true, true, true, true, true, true, true, false, true, true, false, false, true, false, false, false] ⟨#[.pointer (some ⟨r, 0, none⟩), undef, .pointer (some ⟨W.heap.size, 0, none⟩), .slice (some ⟨b1, 0, none⟩) 5 5, .pointer (some ⟨r, 0, none⟩), .int .i64 z1, .pointer (some ⟨b1, z1.toNat, none⟩), .string q1, .pointer (some ⟨r, 0, none⟩), .int .i64 z2, .int .i64 (z2 * 720), .int .i64 (14130000 + z2 * 720), .pointer (some ⟨r, 0, none⟩), .int .i64 z3, .int .i64 (z3 * 6), undef, .pointer (some ⟨r, 0, none⟩), .int .i64 z4, undef, undef, .pointer (some ⟨r, 0, none⟩), undef, undef], []⟩ w := by
  refine wpAnyH_ready (rs := [12, 18]) (by kernel_rfl) (by simp) ?_
  refine AllReadyH.cons (o := { dst := some 15, op := Go.Op.buildSlice 33 3 #[(0, Go.Operand.const (Go.Value.int Go.IntKind.i64 0)), (1, Go.Operand.const (Go.Value.int Go.IntKind.i64 500)), (2, Go.Operand.const (Go.Value.int Go.IntKind.i64 850))], type := 33, pos := "l25_archive.go:350", after := #[], guard := none }) rfl (fun K hK => ?_) ?_
  · have hS2 := hS
    go_simp
    have hS2 : Sn r W (some b1) (some w.heap.size) (w.alloc levels) := hS.lit2
    refine hK.out _ _ (by first | exact hS2 | exact hS2.less1 | exact hS2.less2) (fun _ => ?_)
    clear hK K
    (try simp only [List.setIfInBounds_toArray, List.set_cons_zero, List.set_cons_succ])
    refine wpAnyH_weak (S1 := Sn r W (some b1) (some w.heap.size)) (fun _ h => h.less2) _ _ _ _ ?_
    refine wpAnyH_take (i := 15) (oi := { dst := some 18, op := Go.Op.indexAddr 33 (Go.Operand.tmp 15) (Go.Operand.tmp 17), type := 0, pos := "l25_archive.go:350", after := #[{ on := 12, ground := Go.Ground.data }, { on := 14, ground := Go.Ground.data }], guard := none }) (v := (.pointer (some ⟨w.heap.size, z4.toNat, none⟩))) rfl (by kernel_rfl) (by kernel_rfl) (by kernel_rfl) (fun c a w h => hP c a _ _ w h) (Or.inl ⟨by rfl, ?_⟩) (by assumption) ?_
    · intro w hSw; have g1 := h4.1.1; have g2 := h4.1.2; go_simp
    (try simp only [Act.put, List.setIfInBounds_toArray, List.set_cons_zero, List.set_cons_succ])
    refine wpAnyH_take (i := 16) (oi := { dst := some 19, op := Go.Op.load 2 (Go.Operand.tmp 18), type := 2, pos := "l25_archive.go:350", after := #[{ on := 15, ground := Go.Ground.data }], guard := none }) (v := (.int .i64 q4)) rfl (by kernel_rfl) (by kernel_rfl) (by kernel_rfl) (fun c a w h => hP c a _ _ w h) (Or.inl ⟨by rfl, ?_⟩) (by assumption) ?_
    · intro w hSw; have cc := (h4.2.2.f4 _ _ _ _ (hSw.l2 _ rfl)).1; go_simp
    (try simp only [Act.put, List.setIfInBounds_toArray, List.set_cons_zero, List.set_cons_succ])
    exact st411 hP hQ h1 h2 h3 h4 b1 w.heap.size _ hS2
  refine AllReadyH.cons (o := { dst := some 21, op := Go.Op.call { callee := Go.Callee.value (Go.Operand.func 17), args := #[Go.Operand.tmp 20, Go.Operand.const (Go.Value.int Go.IntKind.i64 90)], argTypes := #[41, 3] }, type := 3, pos := "l25_archive.go:350", after := #[{ on := 17, ground := Go.Ground.data }, { on := 14, ground := Go.Ground.chain }], guard := none }) rfl (fun K hK => ?_) ?_
  · have rdw := hS.rd
    go_simp
    go_at_call 17
    refine (below_all r _ rdw 90 (by omega) (by omega)).mono ?_
    rintro e w1 ⟨⟨z5, hz, rfl⟩, k1, t1⟩
    have h5 : H5 z5 := hz
    clear hz
    have hS2 := hS.turn t1 k1
    clear k1 t1 hS rdw
    go_wp2_with fail
    refine hK.out _ _ (by first | exact hS2 | exact hS2.less1 | exact hS2.less2) (fun _ => ?_)
    clear hK K
    (try simp only [List.setIfInBounds_toArray, List.set_cons_zero, List.set_cons_succ])
    exact st510 hP hQ h1 h2 h3 h4 h5 b1 _ hS2
  exact AllReadyH.nil
set_option maxHeartbeats 2000000 in
theorem st400 {r : Nat} {W : World} {Q : Exit → Act → World → Prop} (hP : ∀ c (a : Act) d (v : Value) w, Q (.panic c) (a.put d v) w → Q (.panic c) a w) (hQ : ∀ (u3 u4 u5 u6 u7 u8 u9 u10 u11 u12 u13 u14 u15 u16 u17 u18 u19 u20 u21 u22 : Value) (w : World), Fin r W w → Q .normal ⟨#[.pointer (some ⟨r, 0, none⟩), undef, .pointer (some ⟨W.heap.size, 0, none⟩), u3, u4, u5, u6, u7, u8, u9, u10, u11, u12, u13, u14, u15, u16, u17, u18, u19, u20, u21, u22], []⟩ w) {z1 : Int} {q1 : ByteArray} (h1 : H1 z1 q1) {z2 : Int} (h2 : H2 z2) {z3 : Int} (h3 : H3 z3) {z4 q4 : Int} (h4 : H4 z4 q4) (w : World) (hS : Sn r W (none) (none) w) : wpAnyH Try.prog .any OPS Q (Sn r W (none) (none)) 9 #[false, true, true, false, false, true, true, true, true, true, true, true, false, true, true, false, false, true, false, false, false] ⟨#[.pointer (some ⟨r, 0, none⟩), undef, .pointer (some ⟨W.heap.size, 0, none⟩), undef, .pointer (some ⟨r, 0, none⟩), .int .i64 z1, undef, undef, .pointer (some ⟨r, 0, none⟩), .int .i64 z2, .int .i64 (z2 * 720), .int .i64 (14130000 + z2 * 720), .pointer (some ⟨r, 0, none⟩), .int .i64 z3, .int .i64 (z3 * 6), undef, .pointer (some ⟨r, 0, none⟩), .int .i64 z4, undef, undef, .pointer (some ⟨r, 0, none⟩), undef, undef], []⟩ w := by
  refine wpAnyH_ready (rs := [0, 12, 18]) (by kernel_rfl) (by simp) ?_
  refine AllReadyH.cons (o := { dst := some 3, op := Go.Op.buildSlice 32 5 #[(0, Go.Operand.const (Go.Value.string { data := #[116] })), (1, Go.Operand.const (Go.Value.string { data := #[117] })), (2, Go.Operand.const (Go.Value.string { data := #[118] })), (3, Go.Operand.const (Go.Value.string { data := #[109, 115, 108] })), (4, Go.Operand.const (Go.Value.string { data := #[116, 112] }))], type := 32, pos := "l25_archive.go:350", after := #[], guard := none }) rfl (fun K hK => ?_) ?_
  · have hS2 := hS
    go_simp
    have hS2 : Sn r W (some w.heap.size) (none) (w.alloc words) := hS.lit1
    refine hK.out _ _ (by first | exact hS2 | exact hS2.less1 | exact hS2.less2) (fun _ => ?_)
    clear hK K
    (try simp only [List.setIfInBounds_toArray, List.set_cons_zero])
    refine wpAnyH_weak (S1 := Sn r W (some w.heap.size) (none)) (fun _ h => h.less1) _ _ _ _ ?_
    refine wpAnyH_take (i := 3) (oi := { dst := some 6, op := Go.Op.indexAddr 32 (Go.Operand.tmp 3) (Go.Operand.tmp 5), type := 0, pos := "l25_archive.go:350", after := #[{ on := 0, ground := Go.Ground.data }, { on := 2, ground := Go.Ground.data }], guard := none }) (v := (.pointer (some ⟨w.heap.size, z1.toNat, none⟩))) rfl (by kernel_rfl) (by kernel_rfl) (by kernel_rfl) (fun c a w h => hP c a _ _ w h) (Or.inl ⟨by rfl, ?_⟩) (by assumption) ?_
    · intro w hSw; have g1 := h1.1.1; have g2 := h1.1.2; go_simp
    (try simp only [Act.put, List.setIfInBounds_toArray, List.set_cons_zero, List.set_cons_succ])
    refine wpAnyH_take (i := 4) (oi := { dst := some 7, op := Go.Op.load 9 (Go.Operand.tmp 6), type := 9, pos := "l25_archive.go:350", after := #[{ on := 3, ground := Go.Ground.data }], guard := none }) (v := (.string q1)) rfl (by kernel_rfl) (by kernel_rfl) (by kernel_rfl) (fun c a w h => hP c a _ _ w h) (Or.inl ⟨by rfl, ?_⟩) (by assumption) ?_
    · intro w hSw; have cc := (h1.2.2.f4 _ _ _ _ (hSw.l1 _ rfl)).1; go_simp
    (try simp only [Act.put, List.setIfInBounds_toArray, List.set_cons_zero, List.set_cons_succ])
    exact st410 hP hQ h1 h2 h3 h4 w.heap.size _ hS2
  refine AllReadyH.cons (o := { dst := some 15, op := Go.Op.buildSlice 33 3 #[(0, Go.Operand.const (Go.Value.int Go.IntKind.i64 0)), (1, Go.Operand.const (Go.Value.int Go.IntKind.i64 500)), (2, Go.Operand.const (Go.Value.int Go.IntKind.i64 850))], type := 33, pos := "l25_archive.go:350", after := #[], guard := none }) rfl (fun K hK => ?_) ?_
  · have hS2 := hS
    go_simp
    have hS2 : Sn r W (none) (some w.heap.size) (w.alloc levels) := hS.lit2
    refine hK.out _ _ (by first | exact hS2 | exact hS2.less1 | exact hS2.less2) (fun _ => ?_)
    clear hK K
    (try simp only [List.setIfInBounds_toArray, List.set_cons_zero, List.set_cons_succ])
    refine wpAnyH_weak (S1 := Sn r W (none) (some w.heap.size)) (fun _ h => h.less2) _ _ _ _ ?_
    refine wpAnyH_take (i := 15) (oi := { dst := some 18, op := Go.Op.indexAddr 33 (Go.Operand.tmp 15) (Go.Operand.tmp 17), type := 0, pos := "l25_archive.go:350", after := #[{ on := 12, ground := Go.Ground.data }, { on := 14, ground := Go.Ground.data }], guard := none }) (v := (.pointer (some ⟨w.heap.size, z4.toNat, none⟩))) rfl (by kernel_rfl) (by kernel_rfl) (by kernel_rfl) (fun c a w h => hP c a _ _ w h) (Or.inl ⟨by rfl, ?_⟩) (by assumption) ?_
    · intro w hSw; have g1 := h4.1.1; have g2 := h4.1.2; go_simp
    (try simp only [Act.put, List.setIfInBounds_toArray, List.set_cons_zero, List.set_cons_succ])
    refine wpAnyH_take (i := 16) (oi := { dst := some 19, op := Go.Op.load 2 (Go.Operand.tmp 18), type := 2, pos := "l25_archive.go:350", after := #[{ on := 15, ground := Go.Ground.data }], guard := none }) (v := (.int .i64 q4)) rfl (by kernel_rfl) (by kernel_rfl) (by kernel_rfl) (fun c a w h => hP c a _ _ w h) (Or.inl ⟨by rfl, ?_⟩) (by assumption) ?_
    · intro w hSw; have cc := (h4.2.2.f4 _ _ _ _ (hSw.l2 _ rfl)).1; go_simp
    (try simp only [Act.put, List.setIfInBounds_toArray, List.set_cons_zero, List.set_cons_succ])
    exact st401 hP hQ h1 h2 h3 h4 w.heap.size _ hS2
  refine AllReadyH.cons (o := { dst := some 21, op := Go.Op.call { callee := Go.Callee.value (Go.Operand.func 17), args := #[Go.Operand.tmp 20, Go.Operand.const (Go.Value.int Go.IntKind.i64 90)], argTypes := #[41, 3] }, type := 3, pos := "l25_archive.go:350", after := #[{ on := 17, ground := Go.Ground.data }, { on := 14, ground := Go.Ground.chain }], guard := none }) rfl (fun K hK => ?_) ?_
  · have rdw := hS.rd
    go_simp
    go_at_call 17
    refine (below_all r _ rdw 90 (by omega) (by omega)).mono ?_
    rintro e w1 ⟨⟨z5, hz, rfl⟩, k1, t1⟩
    have h5 : H5 z5 := hz
    clear hz
    have hS2 := hS.turn t1 k1
    clear k1 t1 hS rdw
    go_wp2_with fail
    refine hK.out _ _ (by first | exact hS2 | exact hS2.less1 | exact hS2.less2) (fun _ => ?_)
    clear hK K
    (try simp only [List.setIfInBounds_toArray, List.set_cons_zero, List.set_cons_succ])
    exact st500 hP hQ h1 h2 h3 h4 h5 _ hS2
  exact AllReadyH.nil
set_option maxHeartbeats 2000000 in
theorem st311 {r : Nat} {W : World} {Q : Exit → Act → World → Prop} (hP : ∀ c (a : Act) d (v : Value) w, Q (.panic c) (a.put d v) w → Q (.panic c) a w) (hQ : ∀ (u3 u4 u5 u6 u7 u8 u9 u10 u11 u12 u13 u14 u15 u16 u17 u18 u19 u20 u21 u22 : Value) (w : World), Fin r W w → Q .normal ⟨#[.pointer (some ⟨r, 0, none⟩), undef, .pointer (some ⟨W.heap.size, 0, none⟩), u3, u4, u5, u6, u7, u8, u9, u10, u11, u12, u13, u14, u15, u16, u17, u18, u19, u20, u21, u22], []⟩ w) {z1 : Int} {q1 : ByteArray} (h1 : H1 z1 q1) {z2 : Int} (h2 : H2 z2) {z3 : Int} (h3 : H3 z3) (b1 : Nat) (b2 : Nat) (w : World) (hS : Sn r W (some b1) (some b2) w) : wpAnyH Try.prog .any OPS Q (Sn r W (some b1) (some b2)) 6 #[true, true, true, true, true, true, true, true, true, true, true, true, true, true, false, false, false, true, false, false, false] ⟨#[.pointer (some ⟨r, 0, none⟩), undef, .pointer (some ⟨W.heap.size, 0, none⟩), .slice (some ⟨b1, 0, none⟩) 5 5, .pointer (some ⟨r, 0, none⟩), .int .i64 z1, .pointer (some ⟨b1, z1.toNat, none⟩), .string q1, .pointer (some ⟨r, 0, none⟩), .int .i64 z2, .int .i64 (z2 * 720), .int .i64 (14130000 + z2 * 720), .pointer (some ⟨r, 0, none⟩), .int .i64 z3, .int .i64 (z3 * 6), .slice (some ⟨b2, 0, none⟩) 3 3, .pointer (some ⟨r, 0, none⟩), undef, undef, undef, .pointer (some ⟨r, 0, none⟩), undef, undef], []⟩ w := by
  refine wpAnyH_ready (rs := [14]) (by kernel_rfl) (by simp) ?_
  refine AllReadyH.cons (o := { dst := some 17, op := Go.Op.call { callee := Go.Callee.value (Go.Operand.func 17), args := #[Go.Operand.tmp 16, Go.Operand.const (Go.Value.int Go.IntKind.i64 3)], argTypes := #[41, 3] }, type := 3, pos := "l25_archive.go:350", after := #[{ on := 13, ground := Go.Ground.data }, { on := 10, ground := Go.Ground.chain }], guard := none }) rfl (fun K hK => ?_) ?_
  · have rdw := hS.rd
    go_simp
    go_at_call 17
    refine (below_all r _ rdw 3 (by omega) (by omega)).mono ?_
    rintro e w1 ⟨⟨z4, hz, rfl⟩, k1, t1⟩
    obtain ⟨q4, hq4, hc4⟩ := level_of z4 hz.1 hz.2
    have h4 : H4 z4 q4 := ⟨hz, hq4, at_of 2 hc4⟩
    clear hq4 hc4 hz
    have hS2 := hS.turn t1 k1
    clear k1 t1 hS rdw
    go_wp2_with fail
    refine hK.out _ _ (by first | exact hS2 | exact hS2.less1 | exact hS2.less2) (fun _ => ?_)
    clear hK K
    (try simp only [List.setIfInBounds_toArray, List.set_cons_zero, List.set_cons_succ])
    refine wpAnyH_take (i := 15) (oi := { dst := some 18, op := Go.Op.indexAddr 33 (Go.Operand.tmp 15) (Go.Operand.tmp 17), type := 0, pos := "l25_archive.go:350", after := #[{ on := 12, ground := Go.Ground.data }, { on := 14, ground := Go.Ground.data }], guard := none }) (v := (.pointer (some ⟨b2, z4.toNat, none⟩))) rfl (by kernel_rfl) (by kernel_rfl) (by kernel_rfl) (fun c a w h => hP c a _ _ w h) (Or.inl ⟨by rfl, ?_⟩) (by assumption) ?_
    · intro w hSw; have g1 := h4.1.1; have g2 := h4.1.2; go_simp
    (try simp only [Act.put, List.setIfInBounds_toArray, List.set_cons_zero, List.set_cons_succ])
    refine wpAnyH_take (i := 16) (oi := { dst := some 19, op := Go.Op.load 2 (Go.Operand.tmp 18), type := 2, pos := "l25_archive.go:350", after := #[{ on := 15, ground := Go.Ground.data }], guard := none }) (v := (.int .i64 q4)) rfl (by kernel_rfl) (by kernel_rfl) (by kernel_rfl) (fun c a w h => hP c a _ _ w h) (Or.inl ⟨by rfl, ?_⟩) (by assumption) ?_
    · intro w hSw; have cc := (h4.2.2.f4 _ _ _ _ (hSw.l2 _ rfl)).1; go_simp
    (try simp only [Act.put, List.setIfInBounds_toArray, List.set_cons_zero, List.set_cons_succ])
    exact st411 hP hQ h1 h2 h3 h4 b1 b2 _ hS2
  exact AllReadyH.nil
set_option maxHeartbeats 2000000 in
theorem st301 {r : Nat} {W : World} {Q : Exit → Act → World → Prop} (hP : ∀ c (a : Act) d (v : Value) w, Q (.panic c) (a.put d v) w → Q (.panic c) a w) (hQ : ∀ (u3 u4 u5 u6 u7 u8 u9 u10 u11 u12 u13 u14 u15 u16 u17 u18 u19 u20 u21 u22 : Value) (w : World), Fin r W w → Q .normal ⟨#[.pointer (some ⟨r, 0, none⟩), undef, .pointer (some ⟨W.heap.size, 0, none⟩), u3, u4, u5, u6, u7, u8, u9, u10, u11, u12, u13, u14, u15, u16, u17, u18, u19, u20, u21, u22], []⟩ w) {z1 : Int} {q1 : ByteArray} (h1 : H1 z1 q1) {z2 : Int} (h2 : H2 z2) {z3 : Int} (h3 : H3 z3) (b2 : Nat) (w : World) (hS : Sn r W (none) (some b2) w) : wpAnyH Try.prog .any OPS Q (Sn r W (none) (some b2)) 9 #[false, true, true, false, false, true, true, true, true, true, true, true, true, true, false, false, false, true, false, false, false] ⟨#[.pointer (some ⟨r, 0, none⟩), undef, .pointer (some ⟨W.heap.size, 0, none⟩), undef, .pointer (some ⟨r, 0, none⟩), .int .i64 z1, undef, undef, .pointer (some ⟨r, 0, none⟩), .int .i64 z2, .int .i64 (z2 * 720), .int .i64 (14130000 + z2 * 720), .pointer (some ⟨r, 0, none⟩), .int .i64 z3, .int .i64 (z3 * 6), .slice (some ⟨b2, 0, none⟩) 3 3, .pointer (some ⟨r, 0, none⟩), undef, undef, undef, .pointer (some ⟨r, 0, none⟩), undef, undef], []⟩ w := by
  refine wpAnyH_ready (rs := [0, 14]) (by kernel_rfl) (by simp) ?_
  refine AllReadyH.cons (o := { dst := some 3, op := Go.Op.buildSlice 32 5 #[(0, Go.Operand.const (Go.Value.string { data := #[116] })), (1, Go.Operand.const (Go.Value.string { data := #[117] })), (2, Go.Operand.const (Go.Value.string { data := #[118] })), (3, Go.Operand.const (Go.Value.string { data := #[109, 115, 108] })), (4, Go.Operand.const (Go.Value.string { data := #[116, 112] }))], type := 32, pos := "l25_archive.go:350", after := #[], guard := none }) rfl (fun K hK => ?_) ?_
  · have hS2 := hS
    go_simp
    have hS2 : Sn r W (some w.heap.size) (some b2) (w.alloc words) := hS.lit1
    refine hK.out _ _ (by first | exact hS2 | exact hS2.less1 | exact hS2.less2) (fun _ => ?_)
    clear hK K
    (try simp only [List.setIfInBounds_toArray, List.set_cons_zero])
    refine wpAnyH_weak (S1 := Sn r W (some w.heap.size) (some b2)) (fun _ h => h.less1) _ _ _ _ ?_
    refine wpAnyH_take (i := 3) (oi := { dst := some 6, op := Go.Op.indexAddr 32 (Go.Operand.tmp 3) (Go.Operand.tmp 5), type := 0, pos := "l25_archive.go:350", after := #[{ on := 0, ground := Go.Ground.data }, { on := 2, ground := Go.Ground.data }], guard := none }) (v := (.pointer (some ⟨w.heap.size, z1.toNat, none⟩))) rfl (by kernel_rfl) (by kernel_rfl) (by kernel_rfl) (fun c a w h => hP c a _ _ w h) (Or.inl ⟨by rfl, ?_⟩) (by assumption) ?_
    · intro w hSw; have g1 := h1.1.1; have g2 := h1.1.2; go_simp
    (try simp only [Act.put, List.setIfInBounds_toArray, List.set_cons_zero, List.set_cons_succ])
    refine wpAnyH_take (i := 4) (oi := { dst := some 7, op := Go.Op.load 9 (Go.Operand.tmp 6), type := 9, pos := "l25_archive.go:350", after := #[{ on := 3, ground := Go.Ground.data }], guard := none }) (v := (.string q1)) rfl (by kernel_rfl) (by kernel_rfl) (by kernel_rfl) (fun c a w h => hP c a _ _ w h) (Or.inl ⟨by rfl, ?_⟩) (by assumption) ?_
    · intro w hSw; have cc := (h1.2.2.f4 _ _ _ _ (hSw.l1 _ rfl)).1; go_simp
    (try simp only [Act.put, List.setIfInBounds_toArray, List.set_cons_zero, List.set_cons_succ])
    exact st311 hP hQ h1 h2 h3 w.heap.size b2 _ hS2
  refine AllReadyH.cons (o := { dst := some 17, op := Go.Op.call { callee := Go.Callee.value (Go.Operand.func 17), args := #[Go.Operand.tmp 16, Go.Operand.const (Go.Value.int Go.IntKind.i64 3)], argTypes := #[41, 3] }, type := 3, pos := "l25_archive.go:350", after := #[{ on := 13, ground := Go.Ground.data }, { on := 10, ground := Go.Ground.chain }], guard := none }) rfl (fun K hK => ?_) ?_
  · have rdw := hS.rd
    go_simp
    go_at_call 17
    refine (below_all r _ rdw 3 (by omega) (by omega)).mono ?_
    rintro e w1 ⟨⟨z4, hz, rfl⟩, k1, t1⟩
    obtain ⟨q4, hq4, hc4⟩ := level_of z4 hz.1 hz.2
    have h4 : H4 z4 q4 := ⟨hz, hq4, at_of 2 hc4⟩
    clear hq4 hc4 hz
    have hS2 := hS.turn t1 k1
    clear k1 t1 hS rdw
    go_wp2_with fail
    refine hK.out _ _ (by first | exact hS2 | exact hS2.less1 | exact hS2.less2) (fun _ => ?_)
    clear hK K
    (try simp only [List.setIfInBounds_toArray, List.set_cons_zero, List.set_cons_succ])
    refine wpAnyH_take (i := 15) (oi := { dst := some 18, op := Go.Op.indexAddr 33 (Go.Operand.tmp 15) (Go.Operand.tmp 17), type := 0, pos := "l25_archive.go:350", after := #[{ on := 12, ground := Go.Ground.data }, { on := 14, ground := Go.Ground.data }], guard := none }) (v := (.pointer (some ⟨b2, z4.toNat, none⟩))) rfl (by kernel_rfl) (by kernel_rfl) (by kernel_rfl) (fun c a w h => hP c a _ _ w h) (Or.inl ⟨by rfl, ?_⟩) (by assumption) ?_
    · intro w hSw; have g1 := h4.1.1; have g2 := h4.1.2; go_simp
    (try simp only [Act.put, List.setIfInBounds_toArray, List.set_cons_zero, List.set_cons_succ])
    refine wpAnyH_take (i := 16) (oi := { dst := some 19, op := Go.Op.load 2 (Go.Operand.tmp 18), type := 2, pos := "l25_archive.go:350", after := #[{ on := 15, ground := Go.Ground.data }], guard := none }) (v := (.int .i64 q4)) rfl (by kernel_rfl) (by kernel_rfl) (by kernel_rfl) (fun c a w h => hP c a _ _ w h) (Or.inl ⟨by rfl, ?_⟩) (by assumption) ?_
    · intro w hSw; have cc := (h4.2.2.f4 _ _ _ _ (hSw.l2 _ rfl)).1; go_simp
    (try simp only [Act.put, List.setIfInBounds_toArray, List.set_cons_zero, List.set_cons_succ])
    exact st401 hP hQ h1 h2 h3 h4 b2 _ hS2
  exact AllReadyH.nil
set_option maxHeartbeats 2000000 in
theorem st310 {r : Nat} {W : World} {Q : Exit → Act → World → Prop} (hP : ∀ c (a : Act) d (v : Value) w, Q (.panic c) (a.put d v) w → Q (.panic c) a w) (hQ : ∀ (u3 u4 u5 u6 u7 u8 u9 u10 u11 u12 u13 u14 u15 u16 u17 u18 u19 u20 u21 u22 : Value) (w : World), Fin r W w → Q .normal ⟨#[.pointer (some ⟨r, 0, none⟩), undef, .pointer (some ⟨W.heap.size, 0, none⟩), u3, u4, u5, u6, u7, u8, u9, u10, u11, u12, u13, u14, u15, u16, u17, u18, u19, u20, u21, u22], []⟩ w) {z1 : Int} {q1 : ByteArray} (h1 : H1 z1 q1) {z2 : Int} (h2 : H2 z2) {z3 : Int} (h3 : H3 z3) (b1 : Nat) (w : World) (hS : Sn r W (some b1) (none) w) : wpAnyH Try.prog .any OPS Q (Sn r W (some b1) (none)) 7 #[true, true, true, true, true, true, true, true, true, true, true, true, false, true, false, false, false, true, false, false, false] ⟨#[.pointer (some ⟨r, 0, none⟩), undef, .pointer (some ⟨W.heap.size, 0, none⟩), .slice (some ⟨b1, 0, none⟩) 5 5, .pointer (some ⟨r, 0, none⟩), .int .i64 z1, .pointer (some ⟨b1, z1.toNat, none⟩), .string q1, .pointer (some ⟨r, 0, none⟩), .int .i64 z2, .int .i64 (z2 * 720), .int .i64 (14130000 + z2 * 720), .pointer (some ⟨r, 0, none⟩), .int .i64 z3, .int .i64 (z3 * 6), undef, .pointer (some ⟨r, 0, none⟩), undef, undef, undef, .pointer (some ⟨r, 0, none⟩), undef, undef], []⟩ w := by
  refine wpAnyH_ready (rs := [12, 14]) (by kernel_rfl) (by simp) ?_
  refine AllReadyH.cons (o := { dst := some 15, op := Go.Op.buildSlice 33 3 #[(0, Go.Operand.const (Go.Value.int Go.IntKind.i64 0)), (1, Go.Operand.const (Go.Value.int Go.IntKind.i64 500)), (2, Go.Operand.const (Go.Value.int Go.IntKind.i64 850))], type := 33, pos := "l25_archive.go:350", after := #[], guard := none }) rfl (fun K hK => ?_) ?_
  · have hS2 := hS
    go_simp
    have hS2 : Sn r W (some b1) (some w.heap.size) (w.alloc levels) := hS.lit2
    refine hK.out _ _ (by first | exact hS2 | exact hS2.less1 | exact hS2.less2) (fun _ => ?_)
    clear hK K
    (try simp only [List.setIfInBounds_toArray, List.set_cons_zero, List.set_cons_succ])
    refine wpAnyH_weak (S1 := Sn r W (some b1) (some w.heap.size)) (fun _ h => h.less2) _ _ _ _ ?_
    exact st311 hP hQ h1 h2 h3 b1 w.heap.size _ hS2
  refine AllReadyH.cons (o := { dst := some 17, op := Go.Op.call { callee := Go.Callee.value (Go.Operand.func 17), args := #[Go.Operand.tmp 16, Go.Operand.const (Go.Value.int Go.IntKind.i64 3)], argTypes := #[41, 3] }, type := 3, pos := "l25_archive.go:350", after := #[{ on := 13, ground := Go.Ground.data }, { on := 10, ground := Go.Ground.chain }], guard := none }) rfl (fun K hK => ?_) ?_
  · have rdw := hS.rd
    go_simp
    go_at_call 17
    refine (below_all r _ rdw 3 (by omega) (by omega)).mono ?_
    rintro e w1 ⟨⟨z4, hz, rfl⟩, k1, t1⟩
    obtain ⟨q4, hq4, hc4⟩ := level_of z4 hz.1 hz.2
    have h4 : H4 z4 q4 := ⟨hz, hq4, at_of 2 hc4⟩
    clear hq4 hc4 hz
    have hS2 := hS.turn t1 k1
    clear k1 t1 hS rdw
    go_wp2_with fail
    refine hK.out _ _ (by first | exact hS2 | exact hS2.less1 | exact hS2.less2) (fun _ => ?_)
    clear hK K
    (try simp only [List.setIfInBounds_toArray, List.set_cons_zero, List.set_cons_succ])
    exact st410 hP hQ h1 h2 h3 h4 b1 _ hS2
  exact AllReadyH.nil
set_option maxHeartbeats 2000000 in
theorem st300 {r : Nat} {W : World} {Q : Exit → Act → World → Prop} (hP : ∀ c (a : Act) d (v : Value) w, Q (.panic c) (a.put d v) w → Q (.panic c) a w) (hQ : ∀ (u3 u4 u5 u6 u7 u8 u9 u10 u11 u12 u13 u14 u15 u16 u17 u18 u19 u20 u21 u22 : Value) (w : World), Fin r W w → Q .normal ⟨#[.pointer (some ⟨r, 0, none⟩), undef, .pointer (some ⟨W.heap.size, 0, none⟩), u3, u4, u5, u6, u7, u8, u9, u10, u11, u12, u13, u14, u15, u16, u17, u18, u19, u20, u21, u22], []⟩ w) {z1 : Int} {q1 : ByteArray} (h1 : H1 z1 q1) {z2 : Int} (h2 : H2 z2) {z3 : Int} (h3 : H3 z3) (w : World) (hS : Sn r W (none) (none) w) : wpAnyH Try.prog .any OPS Q (Sn r W (none) (none)) 10 #[false, true, true, false, false, true, true, true, true, true, true, true, false, true, false, false, false, true, false, false, false] ⟨#[.pointer (some ⟨r, 0, none⟩), undef, .pointer (some ⟨W.heap.size, 0, none⟩), undef, .pointer (some ⟨r, 0, none⟩), .int .i64 z1, undef, undef, .pointer (some ⟨r, 0, none⟩), .int .i64 z2, .int .i64 (z2 * 720), .int .i64 (14130000 + z2 * 720), .pointer (some ⟨r, 0, none⟩), .int .i64 z3, .int .i64 (z3 * 6), undef, .pointer (some ⟨r, 0, none⟩), undef, undef, undef, .pointer (some ⟨r, 0, none⟩), undef, undef], []⟩ w := by
  refine wpAnyH_ready (rs := [0, 12, 14]) (by kernel_rfl) (by simp) ?_
  refine AllReadyH.cons (o := { dst := some 3, op := Go.Op.buildSlice 32 5 #[(0, Go.Operand.const (Go.Value.string { data := #[116] })), (1, Go.Operand.const (Go.Value.string { data := #[117] })), (2, Go.Operand.const (Go.Value.string { data := #[118] })), (3, Go.Operand.const (Go.Value.string { data := #[109, 115, 108] })), (4, Go.Operand.const (Go.Value.string { data := #[116, 112] }))], type := 32, pos := "l25_archive.go:350", after := #[], guard := none }) rfl (fun K hK => ?_) ?_
  · have hS2 := hS
    go_simp
    have hS2 : Sn r W (some w.heap.size) (none) (w.alloc words) := hS.lit1
    refine hK.out _ _ (by first | exact hS2 | exact hS2.less1 | exact hS2.less2) (fun _ => ?_)
    clear hK K
    (try simp only [List.setIfInBounds_toArray, List.set_cons_zero])
    refine wpAnyH_weak (S1 := Sn r W (some w.heap.size) (none)) (fun _ h => h.less1) _ _ _ _ ?_
    refine wpAnyH_take (i := 3) (oi := { dst := some 6, op := Go.Op.indexAddr 32 (Go.Operand.tmp 3) (Go.Operand.tmp 5), type := 0, pos := "l25_archive.go:350", after := #[{ on := 0, ground := Go.Ground.data }, { on := 2, ground := Go.Ground.data }], guard := none }) (v := (.pointer (some ⟨w.heap.size, z1.toNat, none⟩))) rfl (by kernel_rfl) (by kernel_rfl) (by kernel_rfl) (fun c a w h => hP c a _ _ w h) (Or.inl ⟨by rfl, ?_⟩) (by assumption) ?_
    · intro w hSw; have g1 := h1.1.1; have g2 := h1.1.2; go_simp
    (try simp only [Act.put, List.setIfInBounds_toArray, List.set_cons_zero, List.set_cons_succ])
    refine wpAnyH_take (i := 4) (oi := { dst := some 7, op := Go.Op.load 9 (Go.Operand.tmp 6), type := 9, pos := "l25_archive.go:350", after := #[{ on := 3, ground := Go.Ground.data }], guard := none }) (v := (.string q1)) rfl (by kernel_rfl) (by kernel_rfl) (by kernel_rfl) (fun c a w h => hP c a _ _ w h) (Or.inl ⟨by rfl, ?_⟩) (by assumption) ?_
    · intro w hSw; have cc := (h1.2.2.f4 _ _ _ _ (hSw.l1 _ rfl)).1; go_simp
    (try simp only [Act.put, List.setIfInBounds_toArray, List.set_cons_zero, List.set_cons_succ])
    exact st310 hP hQ h1 h2 h3 w.heap.size _ hS2
  refine AllReadyH.cons (o := { dst := some 15, op := Go.Op.buildSlice 33 3 #[(0, Go.Operand.const (Go.Value.int Go.IntKind.i64 0)), (1, Go.Operand.const (Go.Value.int Go.IntKind.i64 500)), (2, Go.Operand.const (Go.Value.int Go.IntKind.i64 850))], type := 33, pos := "l25_archive.go:350", after := #[], guard := none }) rfl (fun K hK => ?_) ?_
  · have hS2 := hS
    go_simp
    have hS2 : Sn r W (none) (some w.heap.size) (w.alloc levels) := hS.lit2
    refine hK.out _ _ (by first | exact hS2 | exact hS2.less1 | exact hS2.less2) (fun _ => ?_)
    clear hK K
    (try simp only [List.setIfInBounds_toArray, List.set_cons_zero, List.set_cons_succ])
    refine wpAnyH_weak (S1 := Sn r W (none) (some w.heap.size)) (fun _ h => h.less2) _ _ _ _ ?_
    exact st301 hP hQ h1 h2 h3 w.heap.size _ hS2
  refine AllReadyH.cons (o := { dst := some 17, op := Go.Op.call { callee := Go.Callee.value (Go.Operand.func 17), args := #[Go.Operand.tmp 16, Go.Operand.const (Go.Value.int Go.IntKind.i64 3)], argTypes := #[41, 3] }, type := 3, pos := "l25_archive.go:350", after := #[{ on := 13, ground := Go.Ground.data }, { on := 10, ground := Go.Ground.chain }], guard := none }) rfl (fun K hK => ?_) ?_
  · have rdw := hS.rd
    go_simp
    go_at_call 17
    refine (below_all r _ rdw 3 (by omega) (by omega)).mono ?_
    rintro e w1 ⟨⟨z4, hz, rfl⟩, k1, t1⟩
    obtain ⟨q4, hq4, hc4⟩ := level_of z4 hz.1 hz.2
    have h4 : H4 z4 q4 := ⟨hz, hq4, at_of 2 hc4⟩
    clear hq4 hc4 hz
    have hS2 := hS.turn t1 k1
    clear k1 t1 hS rdw
    go_wp2_with fail
    refine hK.out _ _ (by first | exact hS2 | exact hS2.less1 | exact hS2.less2) (fun _ => ?_)
    clear hK K
    (try simp only [List.setIfInBounds_toArray, List.set_cons_zero, List.set_cons_succ])
    exact st400 hP hQ h1 h2 h3 h4 _ hS2
  exact AllReadyH.nil
set_option maxHeartbeats 2000000 in
theorem st211 {r : Nat} {W : World} {Q : Exit → Act → World → Prop} (hP : ∀ c (a : Act) d (v : Value) w, Q (.panic c) (a.put d v) w → Q (.panic c) a w) (hQ : ∀ (u3 u4 u5 u6 u7 u8 u9 u10 u11 u12 u13 u14 u15 u16 u17 u18 u19 u20 u21 u22 : Value) (w : World), Fin r W w → Q .normal ⟨#[.pointer (some ⟨r, 0, none⟩), undef, .pointer (some ⟨W.heap.size, 0, none⟩), u3, u4, u5, u6, u7, u8, u9, u10, u11, u12, u13, u14, u15, u16, u17, u18, u19, u20, u21, u22], []⟩ w) {z1 : Int} {q1 : ByteArray} (h1 : H1 z1 q1) {z2 : Int} (h2 : H2 z2) (b1 : Nat) (b2 : Nat) (w : World) (hS : Sn r W (some b1) (some b2) w) : wpAnyH Try.prog .any OPS Q (Sn r W (some b1) (some b2)) 8 #[true, true, true, true, true, true, true, true, true, true, false, false, true, true, false, false, false, true, false, false, false] ⟨#[.pointer (some ⟨r, 0, none⟩), undef, .pointer (some ⟨W.heap.size, 0, none⟩), .slice (some ⟨b1, 0, none⟩) 5 5, .pointer (some ⟨r, 0, none⟩), .int .i64 z1, .pointer (some ⟨b1, z1.toNat, none⟩), .string q1, .pointer (some ⟨r, 0, none⟩), .int .i64 z2, .int .i64 (z2 * 720), .int .i64 (14130000 + z2 * 720), .pointer (some ⟨r, 0, none⟩), undef, undef, .slice (some ⟨b2, 0, none⟩) 3 3, .pointer (some ⟨r, 0, none⟩), undef, undef, undef, .pointer (some ⟨r, 0, none⟩), undef, undef], []⟩ w := by
  refine wpAnyH_ready (rs := [10]) (by kernel_rfl) (by simp) ?_
  refine AllReadyH.cons (o := { dst := some 13, op := Go.Op.call { callee := Go.Callee.value (Go.Operand.func 17), args := #[Go.Operand.tmp 12, Go.Operand.const (Go.Value.int Go.IntKind.i64 5)], argTypes := #[41, 3] }, type := 3, pos := "l25_archive.go:350", after := #[{ on := 9, ground := Go.Ground.data }, { on := 6, ground := Go.Ground.chain }], guard := none }) rfl (fun K hK => ?_) ?_
  · have rdw := hS.rd
    go_simp
    go_at_call 17
    refine (below_all r _ rdw 5 (by omega) (by omega)).mono ?_
    rintro e w1 ⟨⟨z3, hz, rfl⟩, k1, t1⟩
    have h3 : H3 z3 := hz
    clear hz
    have hS2 := hS.turn t1 k1
    clear k1 t1 hS rdw
    go_wp2_with fail
    refine hK.out _ _ (by first | exact hS2 | exact hS2.less1 | exact hS2.less2) (fun _ => ?_)
    clear hK K
    (try simp only [List.setIfInBounds_toArray, List.set_cons_zero, List.set_cons_succ])
    refine wpAnyH_take (i := 11) (oi := { dst := some 14, op := Go.Op.binOp Go.BinOp.mul 3 (Go.Operand.tmp 13) (Go.Operand.const (Go.Value.int Go.IntKind.i64 6)) 3, type := 3, pos := "l25_archive.go:350", after := #[{ on := 10, ground := Go.Ground.data }], guard := none }) (v := (.int .i64 (z3 * 6))) rfl (by kernel_rfl) (by kernel_rfl) (by kernel_rfl) (fun c a w h => hP c a _ _ w h) (Or.inl ⟨by rfl, ?_⟩) (by assumption) ?_
    · intro w hSw; have J : IntKind.i64.wrap (z3 * 6) = z3 * 6 := IntWalk.i64_in _ (by have := h3.1; have := h3.2; omega); go_simp
    (try simp only [Act.put, List.setIfInBounds_toArray, List.set_cons_zero, List.set_cons_succ])
    exact st311 hP hQ h1 h2 h3 b1 b2 _ hS2
  exact AllReadyH.nil
set_option maxHeartbeats 2000000 in
theorem st201 {r : Nat} {W : World} {Q : Exit → Act → World → Prop} (hP : ∀ c (a : Act) d (v : Value) w, Q (.panic c) (a.put d v) w → Q (.panic c) a w) (hQ : ∀ (u3 u4 u5 u6 u7 u8 u9 u10 u11 u12 u13 u14 u15 u16 u17 u18 u19 u20 u21 u22 : Value) (w : World), Fin r W w → Q .normal ⟨#[.pointer (some ⟨r, 0, none⟩), undef, .pointer (some ⟨W.heap.size, 0, none⟩), u3, u4, u5, u6, u7, u8, u9, u10, u11, u12, u13, u14, u15, u16, u17, u18, u19, u20, u21, u22], []⟩ w) {z1 : Int} {q1 : ByteArray} (h1 : H1 z1 q1) {z2 : Int} (h2 : H2 z2) (b2 : Nat) (w : World) (hS : Sn r W (none) (some b2) w) : wpAnyH Try.prog .any OPS Q (Sn r W (none) (some b2)) 11 #[false, true, true, false, false, true, true, true, true, true, false, false, true, true, false, false, false, true, false, false, false] ⟨#[.pointer (some ⟨r, 0, none⟩), undef, .pointer (some ⟨W.heap.size, 0, none⟩), undef, .pointer (some ⟨r, 0, none⟩), .int .i64 z1, undef, undef, .pointer (some ⟨r, 0, none⟩), .int .i64 z2, .int .i64 (z2 * 720), .int .i64 (14130000 + z2 * 720), .pointer (some ⟨r, 0, none⟩), undef, undef, .slice (some ⟨b2, 0, none⟩) 3 3, .pointer (some ⟨r, 0, none⟩), undef, undef, undef, .pointer (some ⟨r, 0, none⟩), undef, undef], []⟩ w := by
  refine wpAnyH_ready (rs := [0, 10]) (by kernel_rfl) (by simp) ?_
  refine AllReadyH.cons (o := { dst := some 3, op := Go.Op.buildSlice 32 5 #[(0, Go.Operand.const (Go.Value.string { data := #[116] })), (1, Go.Operand.const (Go.Value.string { data := #[117] })), (2, Go.Operand.const (Go.Value.string { data := #[118] })), (3, Go.Operand.const (Go.Value.string { data := #[109, 115, 108] })), (4, Go.Operand.const (Go.Value.string { data := #[116, 112] }))], type := 32, pos := "l25_archive.go:350", after := #[], guard := none }) rfl (fun K hK => ?_) ?_
  · have hS2 := hS
    go_simp
    have hS2 : Sn r W (some w.heap.size) (some b2) (w.alloc words) := hS.lit1
    refine hK.out _ _ (by first | exact hS2 | exact hS2.less1 | exact hS2.less2) (fun _ => ?_)
    clear hK K
    (try simp only [List.setIfInBounds_toArray, List.set_cons_zero])
    refine wpAnyH_weak (S1 := Sn r W (some w.heap.size) (some b2)) (fun _ h => h.less1) _ _ _ _ ?_
    refine wpAnyH_take (i := 3) (oi := { dst := some 6, op := Go.Op.indexAddr 32 (Go.Operand.tmp 3) (Go.Operand.tmp 5), type := 0, pos := "l25_archive.go:350", after := #[{ on := 0, ground := Go.Ground.data }, { on := 2, ground := Go.Ground.data }], guard := none }) (v := (.pointer (some ⟨w.heap.size, z1.toNat, none⟩))) rfl (by kernel_rfl) (by kernel_rfl) (by kernel_rfl) (fun c a w h => hP c a _ _ w h) (Or.inl ⟨by rfl, ?_⟩) (by assumption) ?_
    · intro w hSw; have g1 := h1.1.1; have g2 := h1.1.2; go_simp
    (try simp only [Act.put, List.setIfInBounds_toArray, List.set_cons_zero, List.set_cons_succ])
    refine wpAnyH_take (i := 4) (oi := { dst := some 7, op := Go.Op.load 9 (Go.Operand.tmp 6), type := 9, pos := "l25_archive.go:350", after := #[{ on := 3, ground := Go.Ground.data }], guard := none }) (v := (.string q1)) rfl (by kernel_rfl) (by kernel_rfl) (by kernel_rfl) (fun c a w h => hP c a _ _ w h) (Or.inl ⟨by rfl, ?_⟩) (by assumption) ?_
    · intro w hSw; have cc := (h1.2.2.f4 _ _ _ _ (hSw.l1 _ rfl)).1; go_simp
    (try simp only [Act.put, List.setIfInBounds_toArray, List.set_cons_zero, List.set_cons_succ])
    exact st211 hP hQ h1 h2 w.heap.size b2 _ hS2
  refine AllReadyH.cons (o := { dst := some 13, op := Go.Op.call { callee := Go.Callee.value (Go.Operand.func 17), args := #[Go.Operand.tmp 12, Go.Operand.const (Go.Value.int Go.IntKind.i64 5)], argTypes := #[41, 3] }, type := 3, pos := "l25_archive.go:350", after := #[{ on := 9, ground := Go.Ground.data }, { on := 6, ground := Go.Ground.chain }], guard := none }) rfl (fun K hK => ?_) ?_
  · have rdw := hS.rd
    go_simp
    go_at_call 17
    refine (below_all r _ rdw 5 (by omega) (by omega)).mono ?_
    rintro e w1 ⟨⟨z3, hz, rfl⟩, k1, t1⟩
    have h3 : H3 z3 := hz
    clear hz
    have hS2 := hS.turn t1 k1
    clear k1 t1 hS rdw
    go_wp2_with fail
    refine hK.out _ _ (by first | exact hS2 | exact hS2.less1 | exact hS2.less2) (fun _ => ?_)
    clear hK K
    (try simp only [List.setIfInBounds_toArray, List.set_cons_zero, List.set_cons_succ])
    refine wpAnyH_take (i := 11) (oi := { dst := some 14, op := Go.Op.binOp Go.BinOp.mul 3 (Go.Operand.tmp 13) (Go.Operand.const (Go.Value.int Go.IntKind.i64 6)) 3, type := 3, pos := "l25_archive.go:350", after := #[{ on := 10, ground := Go.Ground.data }], guard := none }) (v := (.int .i64 (z3 * 6))) rfl (by kernel_rfl) (by kernel_rfl) (by kernel_rfl) (fun c a w h => hP c a _ _ w h) (Or.inl ⟨by rfl, ?_⟩) (by assumption) ?_
    · intro w hSw; have J : IntKind.i64.wrap (z3 * 6) = z3 * 6 := IntWalk.i64_in _ (by have := h3.1; have := h3.2; omega); go_simp
    (try simp only [Act.put, List.setIfInBounds_toArray, List.set_cons_zero, List.set_cons_succ])
    exact st301 hP hQ h1 h2 h3 b2 _ hS2
  exact AllReadyH.nil
set_option maxHeartbeats 2000000 in
theorem st210 {r : Nat} {W : World} {Q : Exit → Act → World → Prop} (hP : ∀ c (a : Act) d (v : Value) w, Q (.panic c) (a.put d v) w → Q (.panic c) a w) (hQ : ∀ (u3 u4 u5 u6 u7 u8 u9 u10 u11 u12 u13 u14 u15 u16 u17 u18 u19 u20 u21 u22 : Value) (w : World), Fin r W w → Q .normal ⟨#[.pointer (some ⟨r, 0, none⟩), undef, .pointer (some ⟨W.heap.size, 0, none⟩), u3, u4, u5, u6, u7, u8, u9, u10, u11, u12, u13, u14, u15, u16, u17, u18, u19, u20, u21, u22], []⟩ w) {z1 : Int} {q1 : ByteArray} (h1 : H1 z1 q1) {z2 : Int} (h2 : H2 z2) (b1 : Nat) (w : World) (hS : Sn r W (some b1) (none) w) : wpAnyH Try.prog .any OPS Q (Sn r W (some b1) (none)) 9 #[true, true, true, true, true, true, true, true, true, true, false, false, false, true, false, false, false, true, false, false, false] ⟨#[.pointer (some ⟨r, 0, none⟩), undef, .pointer (some ⟨W.heap.size, 0, none⟩), .slice (some ⟨b1, 0, none⟩) 5 5, .pointer (some ⟨r, 0, none⟩), .int .i64 z1, .pointer (some ⟨b1, z1.toNat, none⟩), .string q1, .pointer (some ⟨r, 0, none⟩), .int .i64 z2, .int .i64 (z2 * 720), .int .i64 (14130000 + z2 * 720), .pointer (some ⟨r, 0, none⟩), undef, undef, undef, .pointer (some ⟨r, 0, none⟩), undef, undef, undef, .pointer (some ⟨r, 0, none⟩), undef, undef], []⟩ w := by
  refine wpAnyH_ready (rs := [10, 12]) (by kernel_rfl) (by simp) ?_
  refine AllReadyH.cons (o := { dst := some 13, op := Go.Op.call { callee := Go.Callee.value (Go.Operand.func 17), args := #[Go.Operand.tmp 12, Go.Operand.const (Go.Value.int Go.IntKind.i64 5)], argTypes := #[41, 3] }, type := 3, pos := "l25_archive.go:350", after := #[{ on := 9, ground := Go.Ground.data }, { on := 6, ground := Go.Ground.chain }], guard := none }) rfl (fun K hK => ?_) ?_
  · have rdw := hS.rd
    go_simp
    go_at_call 17
    refine (below_all r _ rdw 5 (by omega) (by omega)).mono ?_
    rintro e w1 ⟨⟨z3, hz, rfl⟩, k1, t1⟩
    have h3 : H3 z3 := hz
    clear hz
    have hS2 := hS.turn t1 k1
    clear k1 t1 hS rdw
    go_wp2_with fail
    refine hK.out _ _ (by first | exact hS2 | exact hS2.less1 | exact hS2.less2) (fun _ => ?_)
    clear hK K
    (try simp only [List.setIfInBounds_toArray, List.set_cons_zero, List.set_cons_succ])
    refine wpAnyH_take (i := 11) (oi := { dst := some 14, op := Go.Op.binOp Go.BinOp.mul 3 (Go.Operand.tmp 13) (Go.Operand.const (Go.Value.int Go.IntKind.i64 6)) 3, type := 3, pos := "l25_archive.go:350", after := #[{ on := 10, ground := Go.Ground.data }], guard := none }) (v := (.int .i64 (z3 * 6))) rfl (by kernel_rfl) (by kernel_rfl) (by kernel_rfl) (fun c a w h => hP c a _ _ w h) (Or.inl ⟨by rfl, ?_⟩) (by assumption) ?_
    · intro w hSw; have J : IntKind.i64.wrap (z3 * 6) = z3 * 6 := IntWalk.i64_in _ (by have := h3.1; have := h3.2; omega); go_simp
    (try simp only [Act.put, List.setIfInBounds_toArray, List.set_cons_zero, List.set_cons_succ])
    exact st310 hP hQ h1 h2 h3 b1 _ hS2
  refine AllReadyH.cons (o := { dst := some 15, op := Go.Op.buildSlice 33 3 #[(0, Go.Operand.const (Go.Value.int Go.IntKind.i64 0)), (1, Go.Operand.const (Go.Value.int Go.IntKind.i64 500)), (2, Go.Operand.const (Go.Value.int Go.IntKind.i64 850))], type := 33, pos := "l25_archive.go:350", after := #[], guard := none }) rfl (fun K hK => ?_) ?_
  · have hS2 := hS
    go_simp
    have hS2 : Sn r W (some b1) (some w.heap.size) (w.alloc levels) := hS.lit2
    refine hK.out _ _ (by first | exact hS2 | exact hS2.less1 | exact hS2.less2) (fun _ => ?_)
    clear hK K
    (try simp only [List.setIfInBounds_toArray, List.set_cons_zero, List.set_cons_succ])
    refine wpAnyH_weak (S1 := Sn r W (some b1) (some w.heap.size)) (fun _ h => h.less2) _ _ _ _ ?_
    exact st211 hP hQ h1 h2 b1 w.heap.size _ hS2
  exact AllReadyH.nil
set_option maxHeartbeats 2000000 in
theorem st200 {r : Nat} {W : World} {Q : Exit → Act → World → Prop} (hP : ∀ c (a : Act) d (v : Value) w, Q (.panic c) (a.put d v) w → Q (.panic c) a w) (hQ : ∀ (u3 u4 u5 u6 u7 u8 u9 u10 u11 u12 u13 u14 u15 u16 u17 u18 u19 u20 u21 u22 : Value) (w : World), Fin r W w → Q .normal ⟨#[.pointer (some ⟨r, 0, none⟩), undef, .pointer (some ⟨W.heap.size, 0, none⟩), u3, u4, u5, u6, u7, u8, u9, u10, u11, u12, u13, u14, u15, u16, u17, u18, u19, u20, u21, u22], []⟩ w) {z1 : Int} {q1 : ByteArray} (h1 : H1 z1 q1) {z2 : Int} (h2 : H2 z2) (w : World) (hS : Sn r W (none) (none) w) : wpAnyH Try.prog .any OPS Q (Sn r W (none) (none)) 12 #[false, true, true, false, false, true, true, true, true, true, false, false, false, true, false, false, false, true, false, false, false] ⟨#[.pointer (some ⟨r, 0, none⟩), undef, .pointer (some ⟨W.heap.size, 0, none⟩), undef, .pointer (some ⟨r, 0, none⟩), .int .i64 z1, undef, undef, .pointer (some ⟨r, 0, none⟩), .int .i64 z2, .int .i64 (z2 * 720), .int .i64 (14130000 + z2 * 720), .pointer (some ⟨r, 0, none⟩), undef, undef, undef, .pointer (some ⟨r, 0, none⟩), undef, undef, undef, .pointer (some ⟨r, 0, none⟩), undef, undef], []⟩ w := by
  refine wpAnyH_ready (rs := [0, 10, 12]) (by kernel_rfl) (by simp) ?_
  refine AllReadyH.cons (o := { dst := some 3, op := Go.Op.buildSlice 32 5 #[(0, Go.Operand.const (Go.Value.string { data := #[116] })), (1, Go.Operand.const (Go.Value.string { data := #[117] })), (2, Go.Operand.const (Go.Value.string { data := #[118] })), (3, Go.Operand.const (Go.Value.string { data := #[109, 115, 108] })), (4, Go.Operand.const (Go.Value.string { data := #[116, 112] }))], type := 32, pos := "l25_archive.go:350", after := #[], guard := none }) rfl (fun K hK => ?_) ?_
  · have hS2 := hS
    go_simp
    have hS2 : Sn r W (some w.heap.size) (none) (w.alloc words) := hS.lit1
    refine hK.out _ _ (by first | exact hS2 | exact hS2.less1 | exact hS2.less2) (fun _ => ?_)
    clear hK K
    (try simp only [List.setIfInBounds_toArray, List.set_cons_zero])
    refine wpAnyH_weak (S1 := Sn r W (some w.heap.size) (none)) (fun _ h => h.less1) _ _ _ _ ?_
    refine wpAnyH_take (i := 3) (oi := { dst := some 6, op := Go.Op.indexAddr 32 (Go.Operand.tmp 3) (Go.Operand.tmp 5), type := 0, pos := "l25_archive.go:350", after := #[{ on := 0, ground := Go.Ground.data }, { on := 2, ground := Go.Ground.data }], guard := none }) (v := (.pointer (some ⟨w.heap.size, z1.toNat, none⟩))) rfl (by kernel_rfl) (by kernel_rfl) (by kernel_rfl) (fun c a w h => hP c a _ _ w h) (Or.inl ⟨by rfl, ?_⟩) (by assumption) ?_
    · intro w hSw; have g1 := h1.1.1; have g2 := h1.1.2; go_simp
    (try simp only [Act.put, List.setIfInBounds_toArray, List.set_cons_zero, List.set_cons_succ])
    refine wpAnyH_take (i := 4) (oi := { dst := some 7, op := Go.Op.load 9 (Go.Operand.tmp 6), type := 9, pos := "l25_archive.go:350", after := #[{ on := 3, ground := Go.Ground.data }], guard := none }) (v := (.string q1)) rfl (by kernel_rfl) (by kernel_rfl) (by kernel_rfl) (fun c a w h => hP c a _ _ w h) (Or.inl ⟨by rfl, ?_⟩) (by assumption) ?_
    · intro w hSw; have cc := (h1.2.2.f4 _ _ _ _ (hSw.l1 _ rfl)).1; go_simp
    (try simp only [Act.put, List.setIfInBounds_toArray, List.set_cons_zero, List.set_cons_succ])
    exact st210 hP hQ h1 h2 w.heap.size _ hS2
  refine AllReadyH.cons (o := { dst := some 13, op := Go.Op.call { callee := Go.Callee.value (Go.Operand.func 17), args := #[Go.Operand.tmp 12, Go.Operand.const (Go.Value.int Go.IntKind.i64 5)], argTypes := #[41, 3] }, type := 3, pos := "l25_archive.go:350", after := #[{ on := 9, ground := Go.Ground.data }, { on := 6, ground := Go.Ground.chain }], guard := none }) rfl (fun K hK => ?_) ?_
  · have rdw := hS.rd
    go_simp
    go_at_call 17
    refine (below_all r _ rdw 5 (by omega) (by omega)).mono ?_
    rintro e w1 ⟨⟨z3, hz, rfl⟩, k1, t1⟩
    have h3 : H3 z3 := hz
    clear hz
    have hS2 := hS.turn t1 k1
    clear k1 t1 hS rdw
    go_wp2_with fail
    refine hK.out _ _ (by first | exact hS2 | exact hS2.less1 | exact hS2.less2) (fun _ => ?_)
    clear hK K
    (try simp only [List.setIfInBounds_toArray, List.set_cons_zero, List.set_cons_succ])
    refine wpAnyH_take (i := 11) (oi := { dst := some 14, op := Go.Op.binOp Go.BinOp.mul 3 (Go.Operand.tmp 13) (Go.Operand.const (Go.Value.int Go.IntKind.i64 6)) 3, type := 3, pos := "l25_archive.go:350", after := #[{ on := 10, ground := Go.Ground.data }], guard := none }) (v := (.int .i64 (z3 * 6))) rfl (by kernel_rfl) (by kernel_rfl) (by kernel_rfl) (fun c a w h => hP c a _ _ w h) (Or.inl ⟨by rfl, ?_⟩) (by assumption) ?_
    · intro w hSw; have J : IntKind.i64.wrap (z3 * 6) = z3 * 6 := IntWalk.i64_in _ (by have := h3.1; have := h3.2; omega); go_simp
    (try simp only [Act.put, List.setIfInBounds_toArray, List.set_cons_zero, List.set_cons_succ])
    exact st300 hP hQ h1 h2 h3 _ hS2
  refine AllReadyH.cons (o := { dst := some 15, op := Go.Op.buildSlice 33 3 #[(0, Go.Operand.const (Go.Value.int Go.IntKind.i64 0)), (1, Go.Operand.const (Go.Value.int Go.IntKind.i64 500)), (2, Go.Operand.const (Go.Value.int Go.IntKind.i64 850))], type := 33, pos := "l25_archive.go:350", after := #[], guard := none }) rfl (fun K hK => ?_) ?_
  · have hS2 := hS
    go_simp
    have hS2 : Sn r W (none) (some w.heap.size) (w.alloc levels) := hS.lit2
    refine hK.out _ _ (by first | exact hS2 | exact hS2.less1 | exact hS2.less2) (fun _ => ?_)
    clear hK K
    (try simp only [List.setIfInBounds_toArray, List.set_cons_zero, List.set_cons_succ])
    refine wpAnyH_weak (S1 := Sn r W (none) (some w.heap.size)) (fun _ h => h.less2) _ _ _ _ ?_
    exact st201 hP hQ h1 h2 w.heap.size _ hS2
  exact AllReadyH.nil
set_option maxHeartbeats 2000000 in
theorem st111 {r : Nat} {W : World} {Q : Exit → Act → World → Prop} (hP : ∀ c (a : Act) d (v : Value) w, Q (.panic c) (a.put d v) w → Q (.panic c) a w) (hQ : ∀ (u3 u4 u5 u6 u7 u8 u9 u10 u11 u12 u13 u14 u15 u16 u17 u18 u19 u20 u21 u22 : Value) (w : World), Fin r W w → Q .normal ⟨#[.pointer (some ⟨r, 0, none⟩), undef, .pointer (some ⟨W.heap.size, 0, none⟩), u3, u4, u5, u6, u7, u8, u9, u10, u11, u12, u13, u14, u15, u16, u17, u18, u19, u20, u21, u22], []⟩ w) {z1 : Int} {q1 : ByteArray} (h1 : H1 z1 q1) (b1 : Nat) (b2 : Nat) (w : World) (hS : Sn r W (some b1) (some b2) w) : wpAnyH Try.prog .any OPS Q (Sn r W (some b1) (some b2)) 11 #[true, true, true, true, true, true, false, false, false, true, false, false, true, true, false, false, false, true, false, false, false] ⟨#[.pointer (some ⟨r, 0, none⟩), undef, .pointer (some ⟨W.heap.size, 0, none⟩), .slice (some ⟨b1, 0, none⟩) 5 5, .pointer (some ⟨r, 0, none⟩), .int .i64 z1, .pointer (some ⟨b1, z1.toNat, none⟩), .string q1, .pointer (some ⟨r, 0, none⟩), undef, undef, undef, .pointer (some ⟨r, 0, none⟩), undef, undef, .slice (some ⟨b2, 0, none⟩) 3 3, .pointer (some ⟨r, 0, none⟩), undef, undef, undef, .pointer (some ⟨r, 0, none⟩), undef, undef], []⟩ w := by
  refine wpAnyH_ready (rs := [6]) (by kernel_rfl) (by simp) ?_
  refine AllReadyH.cons (o := { dst := some 9, op := Go.Op.call { callee := Go.Callee.value (Go.Operand.func 17), args := #[Go.Operand.tmp 8, Go.Operand.const (Go.Value.int Go.IntKind.i64 3)], argTypes := #[41, 3] }, type := 3, pos := "l25_archive.go:350", after := #[{ on := 5, ground := Go.Ground.data }, { on := 2, ground := Go.Ground.chain }], guard := none }) rfl (fun K hK => ?_) ?_
  · have rdw := hS.rd
    go_simp
    go_at_call 17
    refine (below_all r _ rdw 3 (by omega) (by omega)).mono ?_
    rintro e w1 ⟨⟨z2, hz, rfl⟩, k1, t1⟩
    have h2 : H2 z2 := hz
    clear hz
    have hS2 := hS.turn t1 k1
    clear k1 t1 hS rdw
    go_wp2_with fail
    refine hK.out _ _ (by first | exact hS2 | exact hS2.less1 | exact hS2.less2) (fun _ => ?_)
    clear hK K
    (try simp only [List.setIfInBounds_toArray, List.set_cons_zero, List.set_cons_succ])
    refine wpAnyH_take (i := 7) (oi := { dst := some 10, op := Go.Op.binOp Go.BinOp.mul 3 (Go.Operand.tmp 9) (Go.Operand.const (Go.Value.int Go.IntKind.i64 720)) 3, type := 3, pos := "l25_archive.go:350", after := #[{ on := 6, ground := Go.Ground.data }], guard := none }) (v := (.int .i64 (z2 * 720))) rfl (by kernel_rfl) (by kernel_rfl) (by kernel_rfl) (fun c a w h => hP c a _ _ w h) (Or.inl ⟨by rfl, ?_⟩) (by assumption) ?_
    · intro w hSw; have J : IntKind.i64.wrap (z2 * 720) = z2 * 720 := IntWalk.i64_in _ (by have := h2.1; have := h2.2; omega); go_simp
    (try simp only [Act.put, List.setIfInBounds_toArray, List.set_cons_zero, List.set_cons_succ])
    refine wpAnyH_take (i := 8) (oi := { dst := some 11, op := Go.Op.binOp Go.BinOp.add 2 (Go.Operand.const (Go.Value.int Go.IntKind.i64 14130000)) (Go.Operand.tmp 10) 2, type := 2, pos := "l25_archive.go:350", after := #[{ on := 7, ground := Go.Ground.data }], guard := none }) (v := (.int .i64 (14130000 + z2 * 720))) rfl (by kernel_rfl) (by kernel_rfl) (by kernel_rfl) (fun c a w h => hP c a _ _ w h) (Or.inl ⟨by rfl, ?_⟩) (by assumption) ?_
    · intro w hSw; have J : IntKind.i64.wrap (14130000 + z2 * 720) = 14130000 + z2 * 720 := IntWalk.i64_in _ (by have := h2.1; have := h2.2; omega); go_simp
    (try simp only [Act.put, List.setIfInBounds_toArray, List.set_cons_zero, List.set_cons_succ])
    exact st211 hP hQ h1 h2 b1 b2 _ hS2
  exact AllReadyH.nil
set_option maxHeartbeats 2000000 in
theorem st101 {r : Nat} {W : World} {Q : Exit → Act → World → Prop} (hP : ∀ c (a : Act) d (v : Value) w, Q (.panic c) (a.put d v) w → Q (.panic c) a w) (hQ : ∀ (u3 u4 u5 u6 u7 u8 u9 u10 u11 u12 u13 u14 u15 u16 u17 u18 u19 u20 u21 u22 : Value) (w : World), Fin r W w → Q .normal ⟨#[.pointer (some ⟨r, 0, none⟩), undef, .pointer (some ⟨W.heap.size, 0, none⟩), u3, u4, u5, u6, u7, u8, u9, u10, u11, u12, u13, u14, u15, u16, u17, u18, u19, u20, u21, u22], []⟩ w) {z1 : Int} {q1 : ByteArray} (h1 : H1 z1 q1) (b2 : Nat) (w : World) (hS : Sn r W (none) (some b2) w) : wpAnyH Try.prog .any OPS Q (Sn r W (none) (some b2)) 14 #[false, true, true, false, false, true, false, false, false, true, false, false, true, true, false, false, false, true, false, false, false] ⟨#[.pointer (some ⟨r, 0, none⟩), undef, .pointer (some ⟨W.heap.size, 0, none⟩), undef, .pointer (some ⟨r, 0, none⟩), .int .i64 z1, undef, undef, .pointer (some ⟨r, 0, none⟩), undef, undef, undef, .pointer (some ⟨r, 0, none⟩), undef, undef, .slice (some ⟨b2, 0, none⟩) 3 3, .pointer (some ⟨r, 0, none⟩), undef, undef, undef, .pointer (some ⟨r, 0, none⟩), undef, undef], []⟩ w := by
  refine wpAnyH_ready (rs := [0, 6]) (by kernel_rfl) (by simp) ?_
  refine AllReadyH.cons (o := { dst := some 3, op := Go.Op.buildSlice 32 5 #[(0, Go.Operand.const (Go.Value.string { data := #[116] })), (1, Go.Operand.const (Go.Value.string { data := #[117] })), (2, Go.Operand.const (Go.Value.string { data := #[118] })), (3, Go.Operand.const (Go.Value.string { data := #[109, 115, 108] })), (4, Go.Operand.const (Go.Value.string { data := #[116, 112] }))], type := 32, pos := "l25_archive.go:350", after := #[], guard := none }) rfl (fun K hK => ?_) ?_
  · have hS2 := hS
    go_simp
    have hS2 : Sn r W (some w.heap.size) (some b2) (w.alloc words) := hS.lit1
    refine hK.out _ _ (by first | exact hS2 | exact hS2.less1 | exact hS2.less2) (fun _ => ?_)
    clear hK K
    (try simp only [List.setIfInBounds_toArray, List.set_cons_zero])
    refine wpAnyH_weak (S1 := Sn r W (some w.heap.size) (some b2)) (fun _ h => h.less1) _ _ _ _ ?_
    refine wpAnyH_take (i := 3) (oi := { dst := some 6, op := Go.Op.indexAddr 32 (Go.Operand.tmp 3) (Go.Operand.tmp 5), type := 0, pos := "l25_archive.go:350", after := #[{ on := 0, ground := Go.Ground.data }, { on := 2, ground := Go.Ground.data }], guard := none }) (v := (.pointer (some ⟨w.heap.size, z1.toNat, none⟩))) rfl (by kernel_rfl) (by kernel_rfl) (by kernel_rfl) (fun c a w h => hP c a _ _ w h) (Or.inl ⟨by rfl, ?_⟩) (by assumption) ?_
    · intro w hSw; have g1 := h1.1.1; have g2 := h1.1.2; go_simp
    (try simp only [Act.put, List.setIfInBounds_toArray, List.set_cons_zero, List.set_cons_succ])
    refine wpAnyH_take (i := 4) (oi := { dst := some 7, op := Go.Op.load 9 (Go.Operand.tmp 6), type := 9, pos := "l25_archive.go:350", after := #[{ on := 3, ground := Go.Ground.data }], guard := none }) (v := (.string q1)) rfl (by kernel_rfl) (by kernel_rfl) (by kernel_rfl) (fun c a w h => hP c a _ _ w h) (Or.inl ⟨by rfl, ?_⟩) (by assumption) ?_
    · intro w hSw; have cc := (h1.2.2.f4 _ _ _ _ (hSw.l1 _ rfl)).1; go_simp
    (try simp only [Act.put, List.setIfInBounds_toArray, List.set_cons_zero, List.set_cons_succ])
    exact st111 hP hQ h1 w.heap.size b2 _ hS2
  refine AllReadyH.cons (o := { dst := some 9, op := Go.Op.call { callee := Go.Callee.value (Go.Operand.func 17), args := #[Go.Operand.tmp 8, Go.Operand.const (Go.Value.int Go.IntKind.i64 3)], argTypes := #[41, 3] }, type := 3, pos := "l25_archive.go:350", after := #[{ on := 5, ground := Go.Ground.data }, { on := 2, ground := Go.Ground.chain }], guard := none }) rfl (fun K hK => ?_) ?_
  · have rdw := hS.rd
    go_simp
    go_at_call 17
    refine (below_all r _ rdw 3 (by omega) (by omega)).mono ?_
    rintro e w1 ⟨⟨z2, hz, rfl⟩, k1, t1⟩
    have h2 : H2 z2 := hz
    clear hz
    have hS2 := hS.turn t1 k1
    clear k1 t1 hS rdw
    go_wp2_with fail
    refine hK.out _ _ (by first | exact hS2 | exact hS2.less1 | exact hS2.less2) (fun _ => ?_)
    clear hK K
    (try simp only [List.setIfInBounds_toArray, List.set_cons_zero, List.set_cons_succ])
    refine wpAnyH_take (i := 7) (oi := { dst := some 10, op := Go.Op.binOp Go.BinOp.mul 3 (Go.Operand.tmp 9) (Go.Operand.const (Go.Value.int Go.IntKind.i64 720)) 3, type := 3, pos := "l25_archive.go:350", after := #[{ on := 6, ground := Go.Ground.data }], guard := none }) (v := (.int .i64 (z2 * 720))) rfl (by kernel_rfl) (by kernel_rfl) (by kernel_rfl) (fun c a w h => hP c a _ _ w h) (Or.inl ⟨by rfl, ?_⟩) (by assumption) ?_
    · intro w hSw; have J : IntKind.i64.wrap (z2 * 720) = z2 * 720 := IntWalk.i64_in _ (by have := h2.1; have := h2.2; omega); go_simp
    (try simp only [Act.put, List.setIfInBounds_toArray, List.set_cons_zero, List.set_cons_succ])
    refine wpAnyH_take (i := 8) (oi := { dst := some 11, op := Go.Op.binOp Go.BinOp.add 2 (Go.Operand.const (Go.Value.int Go.IntKind.i64 14130000)) (Go.Operand.tmp 10) 2, type := 2, pos := "l25_archive.go:350", after := #[{ on := 7, ground := Go.Ground.data }], guard := none }) (v := (.int .i64 (14130000 + z2 * 720))) rfl (by kernel_rfl) (by kernel_rfl) (by kernel_rfl) (fun c a w h => hP c a _ _ w h) (Or.inl ⟨by rfl, ?_⟩) (by assumption) ?_
    · intro w hSw; have J : IntKind.i64.wrap (14130000 + z2 * 720) = 14130000 + z2 * 720 := IntWalk.i64_in _ (by have := h2.1; have := h2.2; omega); go_simp
    (try simp only [Act.put, List.setIfInBounds_toArray, List.set_cons_zero, List.set_cons_succ])
    exact st201 hP hQ h1 h2 b2 _ hS2
  exact AllReadyH.nil
set_option maxHeartbeats 2000000 in
theorem st110 {r : Nat} {W : World} {Q : Exit → Act → World → Prop} (hP : ∀ c (a : Act) d (v : Value) w, Q (.panic c) (a.put d v) w → Q (.panic c) a w) (hQ : ∀ (u3 u4 u5 u6 u7 u8 u9 u10 u11 u12 u13 u14 u15 u16 u17 u18 u19 u20 u21 u22 : Value) (w : World), Fin r W w → Q .normal ⟨#[.pointer (some ⟨r, 0, none⟩), undef, .pointer (some ⟨W.heap.size, 0, none⟩), u3, u4, u5, u6, u7, u8, u9, u10, u11, u12, u13, u14, u15, u16, u17, u18, u19, u20, u21, u22], []⟩ w) {z1 : Int} {q1 : ByteArray} (h1 : H1 z1 q1) (b1 : Nat) (w : World) (hS : Sn r W (some b1) (none) w) : wpAnyH Try.prog .any OPS Q (Sn r W (some b1) (none)) 12 #[true, true, true, true, true, true, false, false, false, true, false, false, false, true, false, false, false, true, false, false, false] ⟨#[.pointer (some ⟨r, 0, none⟩), undef, .pointer (some ⟨W.heap.size, 0, none⟩), .slice (some ⟨b1, 0, none⟩) 5 5, .pointer (some ⟨r, 0, none⟩), .int .i64 z1, .pointer (some ⟨b1, z1.toNat, none⟩), .string q1, .pointer (some ⟨r, 0, none⟩), undef, undef, undef, .pointer (some ⟨r, 0, none⟩), undef, undef, undef, .pointer (some ⟨r, 0, none⟩), undef, undef, undef, .pointer (some ⟨r, 0, none⟩), undef, undef], []⟩ w := by
  refine wpAnyH_ready (rs := [6, 12]) (by kernel_rfl) (by simp) ?_
  refine AllReadyH.cons (o := { dst := some 9, op := Go.Op.call { callee := Go.Callee.value (Go.Operand.func 17), args := #[Go.Operand.tmp 8, Go.Operand.const (Go.Value.int Go.IntKind.i64 3)], argTypes := #[41, 3] }, type := 3, pos := "l25_archive.go:350", after := #[{ on := 5, ground := Go.Ground.data }, { on := 2, ground := Go.Ground.chain }], guard := none }) rfl (fun K hK => ?_) ?_
  · have rdw := hS.rd
    go_simp
    go_at_call 17
    refine (below_all r _ rdw 3 (by omega) (by omega)).mono ?_
    rintro e w1 ⟨⟨z2, hz, rfl⟩, k1, t1⟩
    have h2 : H2 z2 := hz
    clear hz
    have hS2 := hS.turn t1 k1
    clear k1 t1 hS rdw
    go_wp2_with fail
    refine hK.out _ _ (by first | exact hS2 | exact hS2.less1 | exact hS2.less2) (fun _ => ?_)
    clear hK K
    (try simp only [List.setIfInBounds_toArray, List.set_cons_zero, List.set_cons_succ])
    refine wpAnyH_take (i := 7) (oi := { dst := some 10, op := Go.Op.binOp Go.BinOp.mul 3 (Go.Operand.tmp 9) (Go.Operand.const (Go.Value.int Go.IntKind.i64 720)) 3, type := 3, pos := "l25_archive.go:350", after := #[{ on := 6, ground := Go.Ground.data }], guard := none }) (v := (.int .i64 (z2 * 720))) rfl (by kernel_rfl) (by kernel_rfl) (by kernel_rfl) (fun c a w h => hP c a _ _ w h) (Or.inl ⟨by rfl, ?_⟩) (by assumption) ?_
    · intro w hSw; have J : IntKind.i64.wrap (z2 * 720) = z2 * 720 := IntWalk.i64_in _ (by have := h2.1; have := h2.2; omega); go_simp
    (try simp only [Act.put, List.setIfInBounds_toArray, List.set_cons_zero, List.set_cons_succ])
    refine wpAnyH_take (i := 8) (oi := { dst := some 11, op := Go.Op.binOp Go.BinOp.add 2 (Go.Operand.const (Go.Value.int Go.IntKind.i64 14130000)) (Go.Operand.tmp 10) 2, type := 2, pos := "l25_archive.go:350", after := #[{ on := 7, ground := Go.Ground.data }], guard := none }) (v := (.int .i64 (14130000 + z2 * 720))) rfl (by kernel_rfl) (by kernel_rfl) (by kernel_rfl) (fun c a w h => hP c a _ _ w h) (Or.inl ⟨by rfl, ?_⟩) (by assumption) ?_
    · intro w hSw; have J : IntKind.i64.wrap (14130000 + z2 * 720) = 14130000 + z2 * 720 := IntWalk.i64_in _ (by have := h2.1; have := h2.2; omega); go_simp
    (try simp only [Act.put, List.setIfInBounds_toArray, List.set_cons_zero, List.set_cons_succ])
    exact st210 hP hQ h1 h2 b1 _ hS2
  refine AllReadyH.cons (o := { dst := some 15, op := Go.Op.buildSlice 33 3 #[(0, Go.Operand.const (Go.Value.int Go.IntKind.i64 0)), (1, Go.Operand.const (Go.Value.int Go.IntKind.i64 500)), (2, Go.Operand.const (Go.Value.int Go.IntKind.i64 850))], type := 33, pos := "l25_archive.go:350", after := #[], guard := none }) rfl (fun K hK => ?_) ?_
  · have hS2 := hS
    go_simp
    have hS2 : Sn r W (some b1) (some w.heap.size) (w.alloc levels) := hS.lit2
    refine hK.out _ _ (by first | exact hS2 | exact hS2.less1 | exact hS2.less2) (fun _ => ?_)
    clear hK K
    (try simp only [List.setIfInBounds_toArray, List.set_cons_zero, List.set_cons_succ])
    refine wpAnyH_weak (S1 := Sn r W (some b1) (some w.heap.size)) (fun _ h => h.less2) _ _ _ _ ?_
    exact st111 hP hQ h1 b1 w.heap.size _ hS2
  exact AllReadyH.nil
set_option maxHeartbeats 2000000 in
theorem st100 {r : Nat} {W : World} {Q : Exit → Act → World → Prop} (hP : ∀ c (a : Act) d (v : Value) w, Q (.panic c) (a.put d v) w → Q (.panic c) a w) (hQ : ∀ (u3 u4 u5 u6 u7 u8 u9 u10 u11 u12 u13 u14 u15 u16 u17 u18 u19 u20 u21 u22 : Value) (w : World), Fin r W w → Q .normal ⟨#[.pointer (some ⟨r, 0, none⟩), undef, .pointer (some ⟨W.heap.size, 0, none⟩), u3, u4, u5, u6, u7, u8, u9, u10, u11, u12, u13, u14, u15, u16, u17, u18, u19, u20, u21, u22], []⟩ w) {z1 : Int} {q1 : ByteArray} (h1 : H1 z1 q1) (w : World) (hS : Sn r W (none) (none) w) : wpAnyH Try.prog .any OPS Q (Sn r W (none) (none)) 15 #[false, true, true, false, false, true, false, false, false, true, false, false, false, true, false, false, false, true, false, false, false] ⟨#[.pointer (some ⟨r, 0, none⟩), undef, .pointer (some ⟨W.heap.size, 0, none⟩), undef, .pointer (some ⟨r, 0, none⟩), .int .i64 z1, undef, undef, .pointer (some ⟨r, 0, none⟩), undef, undef, undef, .pointer (some ⟨r, 0, none⟩), undef, undef, undef, .pointer (some ⟨r, 0, none⟩), undef, undef, undef, .pointer (some ⟨r, 0, none⟩), undef, undef], []⟩ w := by
  refine wpAnyH_ready (rs := [0, 6, 12]) (by kernel_rfl) (by simp) ?_
  refine AllReadyH.cons (o := { dst := some 3, op := Go.Op.buildSlice 32 5 #[(0, Go.Operand.const (Go.Value.string { data := #[116] })), (1, Go.Operand.const (Go.Value.string { data := #[117] })), (2, Go.Operand.const (Go.Value.string { data := #[118] })), (3, Go.Operand.const (Go.Value.string { data := #[109, 115, 108] })), (4, Go.Operand.const (Go.Value.string { data := #[116, 112] }))], type := 32, pos := "l25_archive.go:350", after := #[], guard := none }) rfl (fun K hK => ?_) ?_
  · have hS2 := hS
    go_simp
    have hS2 : Sn r W (some w.heap.size) (none) (w.alloc words) := hS.lit1
    refine hK.out _ _ (by first | exact hS2 | exact hS2.less1 | exact hS2.less2) (fun _ => ?_)
    clear hK K
    (try simp only [List.setIfInBounds_toArray, List.set_cons_zero])
    refine wpAnyH_weak (S1 := Sn r W (some w.heap.size) (none)) (fun _ h => h.less1) _ _ _ _ ?_
    refine wpAnyH_take (i := 3) (oi := { dst := some 6, op := Go.Op.indexAddr 32 (Go.Operand.tmp 3) (Go.Operand.tmp 5), type := 0, pos := "l25_archive.go:350", after := #[{ on := 0, ground := Go.Ground.data }, { on := 2, ground := Go.Ground.data }], guard := none }) (v := (.pointer (some ⟨w.heap.size, z1.toNat, none⟩))) rfl (by kernel_rfl) (by kernel_rfl) (by kernel_rfl) (fun c a w h => hP c a _ _ w h) (Or.inl ⟨by rfl, ?_⟩) (by assumption) ?_
    · intro w hSw; have g1 := h1.1.1; have g2 := h1.1.2; go_simp
    (try simp only [Act.put, List.setIfInBounds_toArray, List.set_cons_zero, List.set_cons_succ])
    refine wpAnyH_take (i := 4) (oi := { dst := some 7, op := Go.Op.load 9 (Go.Operand.tmp 6), type := 9, pos := "l25_archive.go:350", after := #[{ on := 3, ground := Go.Ground.data }], guard := none }) (v := (.string q1)) rfl (by kernel_rfl) (by kernel_rfl) (by kernel_rfl) (fun c a w h => hP c a _ _ w h) (Or.inl ⟨by rfl, ?_⟩) (by assumption) ?_
    · intro w hSw; have cc := (h1.2.2.f4 _ _ _ _ (hSw.l1 _ rfl)).1; go_simp
    (try simp only [Act.put, List.setIfInBounds_toArray, List.set_cons_zero, List.set_cons_succ])
    exact st110 hP hQ h1 w.heap.size _ hS2
  refine AllReadyH.cons (o := { dst := some 9, op := Go.Op.call { callee := Go.Callee.value (Go.Operand.func 17), args := #[Go.Operand.tmp 8, Go.Operand.const (Go.Value.int Go.IntKind.i64 3)], argTypes := #[41, 3] }, type := 3, pos := "l25_archive.go:350", after := #[{ on := 5, ground := Go.Ground.data }, { on := 2, ground := Go.Ground.chain }], guard := none }) rfl (fun K hK => ?_) ?_
  · have rdw := hS.rd
    go_simp
    go_at_call 17
    refine (below_all r _ rdw 3 (by omega) (by omega)).mono ?_
    rintro e w1 ⟨⟨z2, hz, rfl⟩, k1, t1⟩
    have h2 : H2 z2 := hz
    clear hz
    have hS2 := hS.turn t1 k1
    clear k1 t1 hS rdw
    go_wp2_with fail
    refine hK.out _ _ (by first | exact hS2 | exact hS2.less1 | exact hS2.less2) (fun _ => ?_)
    clear hK K
    (try simp only [List.setIfInBounds_toArray, List.set_cons_zero, List.set_cons_succ])
    refine wpAnyH_take (i := 7) (oi := { dst := some 10, op := Go.Op.binOp Go.BinOp.mul 3 (Go.Operand.tmp 9) (Go.Operand.const (Go.Value.int Go.IntKind.i64 720)) 3, type := 3, pos := "l25_archive.go:350", after := #[{ on := 6, ground := Go.Ground.data }], guard := none }) (v := (.int .i64 (z2 * 720))) rfl (by kernel_rfl) (by kernel_rfl) (by kernel_rfl) (fun c a w h => hP c a _ _ w h) (Or.inl ⟨by rfl, ?_⟩) (by assumption) ?_
    · intro w hSw; have J : IntKind.i64.wrap (z2 * 720) = z2 * 720 := IntWalk.i64_in _ (by have := h2.1; have := h2.2; omega); go_simp
    (try simp only [Act.put, List.setIfInBounds_toArray, List.set_cons_zero, List.set_cons_succ])
    refine wpAnyH_take (i := 8) (oi := { dst := some 11, op := Go.Op.binOp Go.BinOp.add 2 (Go.Operand.const (Go.Value.int Go.IntKind.i64 14130000)) (Go.Operand.tmp 10) 2, type := 2, pos := "l25_archive.go:350", after := #[{ on := 7, ground := Go.Ground.data }], guard := none }) (v := (.int .i64 (14130000 + z2 * 720))) rfl (by kernel_rfl) (by kernel_rfl) (by kernel_rfl) (fun c a w h => hP c a _ _ w h) (Or.inl ⟨by rfl, ?_⟩) (by assumption) ?_
    · intro w hSw; have J : IntKind.i64.wrap (14130000 + z2 * 720) = 14130000 + z2 * 720 := IntWalk.i64_in _ (by have := h2.1; have := h2.2; omega); go_simp
    (try simp only [Act.put, List.setIfInBounds_toArray, List.set_cons_zero, List.set_cons_succ])
    exact st200 hP hQ h1 h2 _ hS2
  refine AllReadyH.cons (o := { dst := some 15, op := Go.Op.buildSlice 33 3 #[(0, Go.Operand.const (Go.Value.int Go.IntKind.i64 0)), (1, Go.Operand.const (Go.Value.int Go.IntKind.i64 500)), (2, Go.Operand.const (Go.Value.int Go.IntKind.i64 850))], type := 33, pos := "l25_archive.go:350", after := #[], guard := none }) rfl (fun K hK => ?_) ?_
  · have hS2 := hS
    go_simp
    have hS2 : Sn r W (none) (some w.heap.size) (w.alloc levels) := hS.lit2
    refine hK.out _ _ (by first | exact hS2 | exact hS2.less1 | exact hS2.less2) (fun _ => ?_)
    clear hK K
    (try simp only [List.setIfInBounds_toArray, List.set_cons_zero, List.set_cons_succ])
    refine wpAnyH_weak (S1 := Sn r W (none) (some w.heap.size)) (fun _ h => h.less2) _ _ _ _ ?_
    exact st101 hP hQ h1 w.heap.size _ hS2
  exact AllReadyH.nil
set_option maxHeartbeats 2000000 in
theorem st011 {r : Nat} {W : World} {Q : Exit → Act → World → Prop} (hP : ∀ c (a : Act) d (v : Value) w, Q (.panic c) (a.put d v) w → Q (.panic c) a w) (hQ : ∀ (u3 u4 u5 u6 u7 u8 u9 u10 u11 u12 u13 u14 u15 u16 u17 u18 u19 u20 u21 u22 : Value) (w : World), Fin r W w → Q .normal ⟨#[.pointer (some ⟨r, 0, none⟩), undef, .pointer (some ⟨W.heap.size, 0, none⟩), u3, u4, u5, u6, u7, u8, u9, u10, u11, u12, u13, u14, u15, u16, u17, u18, u19, u20, u21, u22], []⟩ w) (b1 : Nat) (b2 : Nat) (w : World) (hS : Sn r W (some b1) (some b2) w) : wpAnyH Try.prog .any OPS Q (Sn r W (some b1) (some b2)) 14 #[true, true, false, false, false, true, false, false, false, true, false, false, true, true, false, false, false, true, false, false, false] ⟨#[.pointer (some ⟨r, 0, none⟩), undef, .pointer (some ⟨W.heap.size, 0, none⟩), .slice (some ⟨b1, 0, none⟩) 5 5, .pointer (some ⟨r, 0, none⟩), undef, undef, undef, .pointer (some ⟨r, 0, none⟩), undef, undef, undef, .pointer (some ⟨r, 0, none⟩), undef, undef, .slice (some ⟨b2, 0, none⟩) 3 3, .pointer (some ⟨r, 0, none⟩), undef, undef, undef, .pointer (some ⟨r, 0, none⟩), undef, undef], []⟩ w := by
  refine wpAnyH_ready (rs := [2]) (by kernel_rfl) (by simp) ?_
  refine AllReadyH.cons (o := { dst := some 5, op := Go.Op.call { callee := Go.Callee.value (Go.Operand.func 17), args := #[Go.Operand.tmp 4, Go.Operand.const (Go.Value.int Go.IntKind.i64 5)], argTypes := #[41, 3] }, type := 3, pos := "l25_archive.go:350", after := #[{ on := 1, ground := Go.Ground.data }], guard := none }) rfl (fun K hK => ?_) ?_
  · have rdw := hS.rd
    go_simp
    go_at_call 17
    refine (below_all r _ rdw 5 (by omega) (by omega)).mono ?_
    rintro e w1 ⟨⟨z1, hz, rfl⟩, k1, t1⟩
    obtain ⟨q1, hq1, hc1⟩ := word_of z1 hz.1 hz.2
    have h1 : H1 z1 q1 := ⟨hz, hq1, at_of 9 hc1⟩
    clear hq1 hc1 hz
    have hS2 := hS.turn t1 k1
    clear k1 t1 hS rdw
    go_wp2_with fail
    refine hK.out _ _ (by first | exact hS2 | exact hS2.less1 | exact hS2.less2) (fun _ => ?_)
    clear hK K
    (try simp only [List.setIfInBounds_toArray, List.set_cons_zero, List.set_cons_succ])
    refine wpAnyH_take (i := 3) (oi := { dst := some 6, op := Go.Op.indexAddr 32 (Go.Operand.tmp 3) (Go.Operand.tmp 5), type := 0, pos := "l25_archive.go:350", after := #[{ on := 0, ground := Go.Ground.data }, { on := 2, ground := Go.Ground.data }], guard := none }) (v := (.pointer (some ⟨b1, z1.toNat, none⟩))) rfl (by kernel_rfl) (by kernel_rfl) (by kernel_rfl) (fun c a w h => hP c a _ _ w h) (Or.inl ⟨by rfl, ?_⟩) (by assumption) ?_
    · intro w hSw; have g1 := h1.1.1; have g2 := h1.1.2; go_simp
    (try simp only [Act.put, List.setIfInBounds_toArray, List.set_cons_zero, List.set_cons_succ])
    refine wpAnyH_take (i := 4) (oi := { dst := some 7, op := Go.Op.load 9 (Go.Operand.tmp 6), type := 9, pos := "l25_archive.go:350", after := #[{ on := 3, ground := Go.Ground.data }], guard := none }) (v := (.string q1)) rfl (by kernel_rfl) (by kernel_rfl) (by kernel_rfl) (fun c a w h => hP c a _ _ w h) (Or.inl ⟨by rfl, ?_⟩) (by assumption) ?_
    · intro w hSw; have cc := (h1.2.2.f4 _ _ _ _ (hSw.l1 _ rfl)).1; go_simp
    (try simp only [Act.put, List.setIfInBounds_toArray, List.set_cons_zero, List.set_cons_succ])
    exact st111 hP hQ h1 b1 b2 _ hS2
  exact AllReadyH.nil
set_option maxHeartbeats 2000000 in
theorem st001 {r : Nat} {W : World} {Q : Exit → Act → World → Prop} (hP : ∀ c (a : Act) d (v : Value) w, Q (.panic c) (a.put d v) w → Q (.panic c) a w) (hQ : ∀ (u3 u4 u5 u6 u7 u8 u9 u10 u11 u12 u13 u14 u15 u16 u17 u18 u19 u20 u21 u22 : Value) (w : World), Fin r W w → Q .normal ⟨#[.pointer (some ⟨r, 0, none⟩), undef, .pointer (some ⟨W.heap.size, 0, none⟩), u3, u4, u5, u6, u7, u8, u9, u10, u11, u12, u13, u14, u15, u16, u17, u18, u19, u20, u21, u22], []⟩ w) (b2 : Nat) (w : World) (hS : Sn r W (none) (some b2) w) : wpAnyH Try.prog .any OPS Q (Sn r W (none) (some b2)) 15 #[false, true, false, false, false, true, false, false, false, true, false, false, true, true, false, false, false, true, false, false, false] ⟨#[.pointer (some ⟨r, 0, none⟩), undef, .pointer (some ⟨W.heap.size, 0, none⟩), undef, .pointer (some ⟨r, 0, none⟩), undef, undef, undef, .pointer (some ⟨r, 0, none⟩), undef, undef, undef, .pointer (some ⟨r, 0, none⟩), undef, undef, .slice (some ⟨b2, 0, none⟩) 3 3, .pointer (some ⟨r, 0, none⟩), undef, undef, undef, .pointer (some ⟨r, 0, none⟩), undef, undef], []⟩ w := by
  refine wpAnyH_ready (rs := [0, 2]) (by kernel_rfl) (by simp) ?_
  refine AllReadyH.cons (o := { dst := some 3, op := Go.Op.buildSlice 32 5 #[(0, Go.Operand.const (Go.Value.string { data := #[116] })), (1, Go.Operand.const (Go.Value.string { data := #[117] })), (2, Go.Operand.const (Go.Value.string { data := #[118] })), (3, Go.Operand.const (Go.Value.string { data := #[109, 115, 108] })), (4, Go.Operand.const (Go.Value.string { data := #[116, 112] }))], type := 32, pos := "l25_archive.go:350", after := #[], guard := none }) rfl (fun K hK => ?_) ?_
  · have hS2 := hS
    go_simp
    have hS2 : Sn r W (some w.heap.size) (some b2) (w.alloc words) := hS.lit1
    refine hK.out _ _ (by first | exact hS2 | exact hS2.less1 | exact hS2.less2) (fun _ => ?_)
    clear hK K
    (try simp only [List.setIfInBounds_toArray, List.set_cons_zero])
    refine wpAnyH_weak (S1 := Sn r W (some w.heap.size) (some b2)) (fun _ h => h.less1) _ _ _ _ ?_
    exact st011 hP hQ  w.heap.size b2 _ hS2
  refine AllReadyH.cons (o := { dst := some 5, op := Go.Op.call { callee := Go.Callee.value (Go.Operand.func 17), args := #[Go.Operand.tmp 4, Go.Operand.const (Go.Value.int Go.IntKind.i64 5)], argTypes := #[41, 3] }, type := 3, pos := "l25_archive.go:350", after := #[{ on := 1, ground := Go.Ground.data }], guard := none }) rfl (fun K hK => ?_) ?_
  · have rdw := hS.rd
    go_simp
    go_at_call 17
    refine (below_all r _ rdw 5 (by omega) (by omega)).mono ?_
    rintro e w1 ⟨⟨z1, hz, rfl⟩, k1, t1⟩
    obtain ⟨q1, hq1, hc1⟩ := word_of z1 hz.1 hz.2
    have h1 : H1 z1 q1 := ⟨hz, hq1, at_of 9 hc1⟩
    clear hq1 hc1 hz
    have hS2 := hS.turn t1 k1
    clear k1 t1 hS rdw
    go_wp2_with fail
    refine hK.out _ _ (by first | exact hS2 | exact hS2.less1 | exact hS2.less2) (fun _ => ?_)
    clear hK K
    (try simp only [List.setIfInBounds_toArray, List.set_cons_zero, List.set_cons_succ])
    exact st101 hP hQ h1 b2 _ hS2
  exact AllReadyH.nil
set_option maxHeartbeats 2000000 in
theorem st010 {r : Nat} {W : World} {Q : Exit → Act → World → Prop} (hP : ∀ c (a : Act) d (v : Value) w, Q (.panic c) (a.put d v) w → Q (.panic c) a w) (hQ : ∀ (u3 u4 u5 u6 u7 u8 u9 u10 u11 u12 u13 u14 u15 u16 u17 u18 u19 u20 u21 u22 : Value) (w : World), Fin r W w → Q .normal ⟨#[.pointer (some ⟨r, 0, none⟩), undef, .pointer (some ⟨W.heap.size, 0, none⟩), u3, u4, u5, u6, u7, u8, u9, u10, u11, u12, u13, u14, u15, u16, u17, u18, u19, u20, u21, u22], []⟩ w) (b1 : Nat) (w : World) (hS : Sn r W (some b1) (none) w) : wpAnyH Try.prog .any OPS Q (Sn r W (some b1) (none)) 15 #[true, true, false, false, false, true, false, false, false, true, false, false, false, true, false, false, false, true, false, false, false] ⟨#[.pointer (some ⟨r, 0, none⟩), undef, .pointer (some ⟨W.heap.size, 0, none⟩), .slice (some ⟨b1, 0, none⟩) 5 5, .pointer (some ⟨r, 0, none⟩), undef, undef, undef, .pointer (some ⟨r, 0, none⟩), undef, undef, undef, .pointer (some ⟨r, 0, none⟩), undef, undef, undef, .pointer (some ⟨r, 0, none⟩), undef, undef, undef, .pointer (some ⟨r, 0, none⟩), undef, undef], []⟩ w := by
  refine wpAnyH_ready (rs := [2, 12]) (by kernel_rfl) (by simp) ?_
  refine AllReadyH.cons (o := { dst := some 5, op := Go.Op.call { callee := Go.Callee.value (Go.Operand.func 17), args := #[Go.Operand.tmp 4, Go.Operand.const (Go.Value.int Go.IntKind.i64 5)], argTypes := #[41, 3] }, type := 3, pos := "l25_archive.go:350", after := #[{ on := 1, ground := Go.Ground.data }], guard := none }) rfl (fun K hK => ?_) ?_
  · have rdw := hS.rd
    go_simp
    go_at_call 17
    refine (below_all r _ rdw 5 (by omega) (by omega)).mono ?_
    rintro e w1 ⟨⟨z1, hz, rfl⟩, k1, t1⟩
    obtain ⟨q1, hq1, hc1⟩ := word_of z1 hz.1 hz.2
    have h1 : H1 z1 q1 := ⟨hz, hq1, at_of 9 hc1⟩
    clear hq1 hc1 hz
    have hS2 := hS.turn t1 k1
    clear k1 t1 hS rdw
    go_wp2_with fail
    refine hK.out _ _ (by first | exact hS2 | exact hS2.less1 | exact hS2.less2) (fun _ => ?_)
    clear hK K
    (try simp only [List.setIfInBounds_toArray, List.set_cons_zero, List.set_cons_succ])
    refine wpAnyH_take (i := 3) (oi := { dst := some 6, op := Go.Op.indexAddr 32 (Go.Operand.tmp 3) (Go.Operand.tmp 5), type := 0, pos := "l25_archive.go:350", after := #[{ on := 0, ground := Go.Ground.data }, { on := 2, ground := Go.Ground.data }], guard := none }) (v := (.pointer (some ⟨b1, z1.toNat, none⟩))) rfl (by kernel_rfl) (by kernel_rfl) (by kernel_rfl) (fun c a w h => hP c a _ _ w h) (Or.inl ⟨by rfl, ?_⟩) (by assumption) ?_
    · intro w hSw; have g1 := h1.1.1; have g2 := h1.1.2; go_simp
    (try simp only [Act.put, List.setIfInBounds_toArray, List.set_cons_zero, List.set_cons_succ])
    refine wpAnyH_take (i := 4) (oi := { dst := some 7, op := Go.Op.load 9 (Go.Operand.tmp 6), type := 9, pos := "l25_archive.go:350", after := #[{ on := 3, ground := Go.Ground.data }], guard := none }) (v := (.string q1)) rfl (by kernel_rfl) (by kernel_rfl) (by kernel_rfl) (fun c a w h => hP c a _ _ w h) (Or.inl ⟨by rfl, ?_⟩) (by assumption) ?_
    · intro w hSw; have cc := (h1.2.2.f4 _ _ _ _ (hSw.l1 _ rfl)).1; go_simp
    (try simp only [Act.put, List.setIfInBounds_toArray, List.set_cons_zero, List.set_cons_succ])
    exact st110 hP hQ h1 b1 _ hS2
  refine AllReadyH.cons (o := { dst := some 15, op := Go.Op.buildSlice 33 3 #[(0, Go.Operand.const (Go.Value.int Go.IntKind.i64 0)), (1, Go.Operand.const (Go.Value.int Go.IntKind.i64 500)), (2, Go.Operand.const (Go.Value.int Go.IntKind.i64 850))], type := 33, pos := "l25_archive.go:350", after := #[], guard := none }) rfl (fun K hK => ?_) ?_
  · have hS2 := hS
    go_simp
    have hS2 : Sn r W (some b1) (some w.heap.size) (w.alloc levels) := hS.lit2
    refine hK.out _ _ (by first | exact hS2 | exact hS2.less1 | exact hS2.less2) (fun _ => ?_)
    clear hK K
    (try simp only [List.setIfInBounds_toArray, List.set_cons_zero, List.set_cons_succ])
    refine wpAnyH_weak (S1 := Sn r W (some b1) (some w.heap.size)) (fun _ h => h.less2) _ _ _ _ ?_
    exact st011 hP hQ  b1 w.heap.size _ hS2
  exact AllReadyH.nil
set_option maxHeartbeats 2000000 in
theorem st000 {r : Nat} {W : World} {Q : Exit → Act → World → Prop} (hP : ∀ c (a : Act) d (v : Value) w, Q (.panic c) (a.put d v) w → Q (.panic c) a w) (hQ : ∀ (u3 u4 u5 u6 u7 u8 u9 u10 u11 u12 u13 u14 u15 u16 u17 u18 u19 u20 u21 u22 : Value) (w : World), Fin r W w → Q .normal ⟨#[.pointer (some ⟨r, 0, none⟩), undef, .pointer (some ⟨W.heap.size, 0, none⟩), u3, u4, u5, u6, u7, u8, u9, u10, u11, u12, u13, u14, u15, u16, u17, u18, u19, u20, u21, u22], []⟩ w) (w : World) (hS : Sn r W (none) (none) w) : wpAnyH Try.prog .any OPS Q (Sn r W (none) (none)) 16 #[false, true, false, false, false, true, false, false, false, true, false, false, false, true, false, false, false, true, false, false, false] ⟨#[.pointer (some ⟨r, 0, none⟩), undef, .pointer (some ⟨W.heap.size, 0, none⟩), undef, .pointer (some ⟨r, 0, none⟩), undef, undef, undef, .pointer (some ⟨r, 0, none⟩), undef, undef, undef, .pointer (some ⟨r, 0, none⟩), undef, undef, undef, .pointer (some ⟨r, 0, none⟩), undef, undef, undef, .pointer (some ⟨r, 0, none⟩), undef, undef], []⟩ w := by
  refine wpAnyH_ready (rs := [0, 2, 12]) (by kernel_rfl) (by simp) ?_
  refine AllReadyH.cons (o := { dst := some 3, op := Go.Op.buildSlice 32 5 #[(0, Go.Operand.const (Go.Value.string { data := #[116] })), (1, Go.Operand.const (Go.Value.string { data := #[117] })), (2, Go.Operand.const (Go.Value.string { data := #[118] })), (3, Go.Operand.const (Go.Value.string { data := #[109, 115, 108] })), (4, Go.Operand.const (Go.Value.string { data := #[116, 112] }))], type := 32, pos := "l25_archive.go:350", after := #[], guard := none }) rfl (fun K hK => ?_) ?_
  · have hS2 := hS
    go_simp
    have hS2 : Sn r W (some w.heap.size) (none) (w.alloc words) := hS.lit1
    refine hK.out _ _ (by first | exact hS2 | exact hS2.less1 | exact hS2.less2) (fun _ => ?_)
    clear hK K
    (try simp only [List.setIfInBounds_toArray, List.set_cons_zero])
    refine wpAnyH_weak (S1 := Sn r W (some w.heap.size) (none)) (fun _ h => h.less1) _ _ _ _ ?_
    exact st010 hP hQ  w.heap.size _ hS2
  refine AllReadyH.cons (o := { dst := some 5, op := Go.Op.call { callee := Go.Callee.value (Go.Operand.func 17), args := #[Go.Operand.tmp 4, Go.Operand.const (Go.Value.int Go.IntKind.i64 5)], argTypes := #[41, 3] }, type := 3, pos := "l25_archive.go:350", after := #[{ on := 1, ground := Go.Ground.data }], guard := none }) rfl (fun K hK => ?_) ?_
  · have rdw := hS.rd
    go_simp
    go_at_call 17
    refine (below_all r _ rdw 5 (by omega) (by omega)).mono ?_
    rintro e w1 ⟨⟨z1, hz, rfl⟩, k1, t1⟩
    obtain ⟨q1, hq1, hc1⟩ := word_of z1 hz.1 hz.2
    have h1 : H1 z1 q1 := ⟨hz, hq1, at_of 9 hc1⟩
    clear hq1 hc1 hz
    have hS2 := hS.turn t1 k1
    clear k1 t1 hS rdw
    go_wp2_with fail
    refine hK.out _ _ (by first | exact hS2 | exact hS2.less1 | exact hS2.less2) (fun _ => ?_)
    clear hK K
    (try simp only [List.setIfInBounds_toArray, List.set_cons_zero, List.set_cons_succ])
    exact st100 hP hQ h1 _ hS2
  refine AllReadyH.cons (o := { dst := some 15, op := Go.Op.buildSlice 33 3 #[(0, Go.Operand.const (Go.Value.int Go.IntKind.i64 0)), (1, Go.Operand.const (Go.Value.int Go.IntKind.i64 500)), (2, Go.Operand.const (Go.Value.int Go.IntKind.i64 850))], type := 33, pos := "l25_archive.go:350", after := #[], guard := none }) rfl (fun K hK => ?_) ?_
  · have hS2 := hS
    go_simp
    have hS2 : Sn r W (none) (some w.heap.size) (w.alloc levels) := hS.lit2
    refine hK.out _ _ (by first | exact hS2 | exact hS2.less1 | exact hS2.less2) (fun _ => ?_)
    clear hK K
    (try simp only [List.setIfInBounds_toArray, List.set_cons_zero, List.set_cons_succ])
    refine wpAnyH_weak (S1 := Sn r W (none) (some w.heap.size)) (fun _ h => h.less2) _ _ _ _ ?_
    exact st001 hP hQ  w.heap.size _ hS2
  exact AllReadyH.nil
set_option maxRecDepth 20000 in
set_option maxHeartbeats 4000000 in
theorem entry_any (r : Nat) (W : World) (h : Rd r W) : Calls Try.prog 16 #[.pointer (some ⟨r, 0, none⟩)] W fun e w' => (∃ p, ∃ t s l z : Int, e = .returned (.agg #[.string p, .int .i64 t, .int .i64 s, .int .i64 l, .int .i64 z]) ∧ pok p = true ∧ (0 ≤ t ∧ t ≤ 52596000) ∧ (0 ≤ s ∧ s ≤ 360) ∧ (0 ≤ l ∧ l ≤ 1100) ∧ (0 ≤ z ∧ z ≤ 89)) ∧ Rd r w' ∧ Turn r W w' := by
  have Z0 : Hid (SE r W (W.alloc (.cells #[.string E, .int .i64 0, .int .i64 0, .int .i64 0, .int .i64 0] 26))) := SE.new h
  have hr := h.lt
  clear h
  go_enter Try.func16, Try.ntmps16
  go_upto_region 1 with fail
  obtain ⟨W0, hW0⟩ : ∃ W0, W0 = W.alloc (.cells #[.string E, .int .i64 0, .int .i64 0, .int .i64 0, .int .i64 0] 26) := ⟨_, rfl⟩
  rw [← hW0] at Z0 ⊢
  clear hW0
  go_cut [] (fun wx => Hid (Fin r W wx))
  case first =>
    have S0 : Hid (SE r W W0.drew) := Z0.out.drewN 1
    clear Z0
    refine wp_region_held_drew (S := Sn r W none none) (by kernel_rfl) (Sn.start S0.out) (fun hS => ?_)
    have hP : True := trivial
    refine wpAnyH_take (i := 1) (oi := { dst := some 4, op := Go.Op.move (Go.Operand.tmp 0), type := 41, pos := "l25_archive.go:350", after := #[], guard := none }) (v := .pointer (some ⟨r, 0, none⟩)) rfl (by kernel_rfl) (by kernel_rfl) (by kernel_rfl) (fun _ _ _ h => h) (Or.inl ⟨by rfl, ?_⟩) (by assumption) ?_
    · intro w hSw; go_simp
    (try simp only [Act.put, List.setIfInBounds_toArray, List.set_cons_zero, List.set_cons_succ])
    refine wpAnyH_take (i := 5) (oi := { dst := some 8, op := Go.Op.move (Go.Operand.tmp 0), type := 41, pos := "l25_archive.go:350", after := #[], guard := none }) (v := .pointer (some ⟨r, 0, none⟩)) rfl (by kernel_rfl) (by kernel_rfl) (by kernel_rfl) (fun _ _ _ h => h) (Or.inl ⟨by rfl, ?_⟩) (by assumption) ?_
    · intro w hSw; go_simp
    (try simp only [Act.put, List.setIfInBounds_toArray, List.set_cons_zero, List.set_cons_succ])
    refine wpAnyH_take (i := 9) (oi := { dst := some 12, op := Go.Op.move (Go.Operand.tmp 0), type := 41, pos := "l25_archive.go:350", after := #[], guard := none }) (v := .pointer (some ⟨r, 0, none⟩)) rfl (by kernel_rfl) (by kernel_rfl) (by kernel_rfl) (fun _ _ _ h => h) (Or.inl ⟨by rfl, ?_⟩) (by assumption) ?_
    · intro w hSw; go_simp
    (try simp only [Act.put, List.setIfInBounds_toArray, List.set_cons_zero, List.set_cons_succ])
    refine wpAnyH_take (i := 13) (oi := { dst := some 16, op := Go.Op.move (Go.Operand.tmp 0), type := 41, pos := "l25_archive.go:350", after := #[], guard := none }) (v := .pointer (some ⟨r, 0, none⟩)) rfl (by kernel_rfl) (by kernel_rfl) (by kernel_rfl) (fun _ _ _ h => h) (Or.inl ⟨by rfl, ?_⟩) (by assumption) ?_
    · intro w hSw; go_simp
    (try simp only [Act.put, List.setIfInBounds_toArray, List.set_cons_zero, List.set_cons_succ])
    refine wpAnyH_take (i := 17) (oi := { dst := some 20, op := Go.Op.move (Go.Operand.tmp 0), type := 41, pos := "l25_archive.go:350", after := #[], guard := none }) (v := .pointer (some ⟨r, 0, none⟩)) rfl (by kernel_rfl) (by kernel_rfl) (by kernel_rfl) (fun _ _ _ h => h) (Or.inl ⟨by rfl, ?_⟩) (by assumption) ?_
    · intro w hSw; go_simp
    (try simp only [Act.put, List.setIfInBounds_toArray, List.set_cons_zero, List.set_cons_succ])
    refine st000 (fun _ _ d _ _ h => by cases d <;> exact h) ?_ _ hS
    intro u3 u4 u5 u6 u7 u8 u9 u10 u11 u12 u13 u14 u15 u16 u17 u18 u19 u20 u21 u22 w hF
    have HF : Hid (Fin r W w) := hF
    clear hF hP
    go_wp2_with fail
    go_meet
    exact HF
  case rest =>
    obtain ⟨p, t, s, l, z, hp, D⟩ := hcut.out
    obtain ⟨e0, e1, e2, e3, e4, _⟩ := D.an.cells
    have DD : Hid (Rd r wc ∧ Turn r W wc) := ⟨D.rd, D.tn⟩
    have HP : Hid (pok p = true ∧ (0 ≤ t ∧ t ≤ 52596000) ∧ (0 ≤ s ∧ s ≤ 360) ∧ (0 ≤ l ∧ l ≤ 1100) ∧ (0 ≤ z ∧ z ≤ 89)) := hp
    clear hp hcut D
    go_wp2_with fail
    exact bodyPost_ret (v := .agg #[.string p, .int .i64 t, .int .i64 s, .int .i64 l, .int .i64 z]) (by simp [results, Try.results16, go_sem, e0, e1, e2, e3, e4]) rfl ⟨⟨p, t, s, l, z, rfl, HP.out⟩, DD.out.1, DD.out.2⟩
end Go.Proofs.Ytfnkcoppdelmjaa.Ed
