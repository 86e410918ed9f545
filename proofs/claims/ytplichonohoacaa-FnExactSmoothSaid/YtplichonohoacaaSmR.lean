/- Smooth, the program: the two regions that draw their order, by their states. -/
import Derived.Test.YtplichonohoacaaSmP
import Derived.Test.YtplichonohoacaaSms
import Derived.Test.YtplichonohoacaaGoA
import Derived.Test.YtplichonohoacaaRfL
import Derived.Deep.AppendLies
namespace Go.Proofs.Ytplichonohoacaa.Gd
open Go.ChangeShapes Go.WideShapes Go.ChangeAt Go.RowKit
open Go.Proofs.Ytplichonohoacaa.Flt Go.Proofs.Ytplichonohoacaa.Fls
set_option linter.unusedVariables false
abbrev OPS9 : Array Oper := #[{ dst := some 23, op := Op.load 24 (Operand.tmp 5), type := 24, pos := "l11_fields.go:68", after := #[], guard := none }, { dst := some 24, op := Op.move (Operand.tmp 7), type := 37, pos := "l11_fields.go:68", after := #[], guard := none }, { dst := some 25, op := Op.buildSlice 24 1 #[(0, Operand.tmp 24)], type := 24, pos := "l11_fields.go:68", after := #[{ on := 1, ground := Ground.data }], guard := none }, { dst := some 26, op := Op.load 26 (Operand.tmp 2), type := 26, pos := "l11_fields.go:68", after := #[], guard := none }, { dst := some 27, op := Op.load 24 (Operand.tmp 3), type := 24, pos := "l11_fields.go:68", after := #[], guard := none }, { dst := some 28, op := Op.load 45 (Operand.tmp 6), type := 45, pos := "l11_fields.go:68", after := #[], guard := none }, { dst := some 29, op := Op.call { callee := Callee.value (Operand.func 25), args := #[Operand.tmp 26, Operand.tmp 27, Operand.tmp 28], argTypes := #[26, 24, 45] }, type := 24, pos := "l11_fields.go:68", after := #[{ on := 3, ground := Ground.data }, { on := 4, ground := Ground.data }, { on := 5, ground := Ground.data }], guard := none }, { dst := some 30, op := Op.call { callee := Callee.builtin Builtin.append, args := #[Operand.tmp 25, Operand.tmp 29], argTypes := #[24, 24] }, type := 24, pos := "l11_fields.go:68", after := #[{ on := 2, ground := Ground.data }, { on := 6, ground := Ground.data }, { on := 6, ground := Ground.chain }], guard := none }, { dst := some 31, op := Op.call { callee := Callee.value (Operand.func 24), args := #[Operand.tmp 30], argTypes := #[24] }, type := 37, pos := "l11_fields.go:68", after := #[{ on := 7, ground := Ground.data }, { on := 7, ground := Ground.chain }], guard := none }, { dst := some 32, op := Op.buildSlice 24 1 #[(0, Operand.tmp 31)], type := 24, pos := "l11_fields.go:68", after := #[{ on := 8, ground := Ground.data }], guard := none }, { dst := some 33, op := Op.call { callee := Callee.builtin Builtin.append, args := #[Operand.tmp 23, Operand.tmp 32], argTypes := #[24, 24] }, type := 24, pos := "l11_fields.go:68", after := #[{ on := 0, ground := Ground.data }, { on := 9, ground := Ground.data }, { on := 8, ground := Ground.chain }], guard := none }, { dst := none, op := Op.store 24 (Operand.tmp 5) (Operand.tmp 33), type := 0, pos := "l11_fields.go:68", after := #[{ on := 10, ground := Ground.data }, { on := 10, ground := Ground.chain }, { on := 0, ground := Ground.phase }, { on := 1, ground := Ground.phase }, { on := 2, ground := Ground.phase }, { on := 3, ground := Ground.phase }, { on := 4, ground := Ground.phase }, { on := 5, ground := Ground.phase }, { on := 6, ground := Ground.phase }, { on := 7, ground := Ground.phase }, { on := 8, ground := Ground.phase }, { on := 9, ground := Ground.phase }, { on := 10, ground := Ground.phase }], guard := none }]
abbrev OPS8 : Array Oper := #[{ dst := some 19, op := Op.load 24 (Operand.tmp 5), type := 24, pos := "l11_fields.go:65", after := #[], guard := none }, { dst := some 20, op := Op.call { callee := Callee.value (Operand.func 23), args := #[], argTypes := #[] }, type := 37, pos := "l11_fields.go:65", after := #[], guard := none }, { dst := some 21, op := Op.buildSlice 24 1 #[(0, Operand.tmp 20)], type := 24, pos := "l11_fields.go:65", after := #[{ on := 1, ground := Ground.data }], guard := none }, { dst := some 22, op := Op.call { callee := Callee.builtin Builtin.append, args := #[Operand.tmp 19, Operand.tmp 21], argTypes := #[24, 24] }, type := 24, pos := "l11_fields.go:65", after := #[{ on := 0, ground := Ground.data }, { on := 2, ground := Ground.data }, { on := 1, ground := Ground.chain }], guard := none }, { dst := none, op := Op.store 24 (Operand.tmp 5) (Operand.tmp 22), type := 0, pos := "l11_fields.go:65", after := #[{ on := 3, ground := Ground.data }, { on := 3, ground := Ground.chain }, { on := 0, ground := Ground.phase }, { on := 1, ground := Ground.phase }, { on := 2, ground := Ground.phase }, { on := 3, ground := Ground.phase }], guard := none }]
/-- What the region reads and no operation of it writes. -/
def Sx (g b : Nat) (VS : Value) (r c s ws st x1 x2 : Int) (w' : World) : Prop :=
  w'.cell? ⟨g, 0, none⟩ = some (.int .i64 r) ∧ w'.cell? ⟨g, 1, none⟩ = some (.int .i64 c) ∧ w'.cell? ⟨g, 2, none⟩ = some (.int .i64 s) ∧ w'.cell? ⟨g, 3, none⟩ = some (.int .i64 ws) ∧ w'.cell? ⟨g, 4, none⟩ = some (.int .i64 st) ∧ w'.cell? ⟨g + 1, 0, none⟩ = some VS ∧ w'.cell? ⟨b, 0, none⟩ = some (.int .i64 x1) ∧ w'.cell? ⟨b, 1, none⟩ = some (.int .i64 x2)
structure Cx (W : World) (g b q B : Nat) (VS lv : Value) (r c s ws st x1 x2 : Int) (n : Nat) (xs : List Value) : Prop where
  sx : Sx g b VS r c s ws st x1 x2 W
  lb : b < W.heap.size
  lq : q < W.heap.size
  gB : g + 1 < B
  qB : q < B
  lB : B ≤ W.heap.size
  qg : q ≠ g ∧ q ≠ g + 1 ∧ q ≠ b
  cq : W.cell? ⟨q, 0, none⟩ = some lv
  fq : W.frozen? ⟨q, 0, none⟩ = false
  own : W.ownsRow B 37 1 lv n xs
  nb : ∀ k, lv.ownBlock = some k → k ≠ b
  nle : n ≤ 4096
theorem Sx.blocks {W u : World} {g b : Nat} {VS : Value} {r c s ws st x1 x2 : Int} (h : Sx g b VS r c s ws st x1 x2 W) (e0 : u.heap[g]? = W.heap[g]?) (e1 : u.heap[g + 1]? = W.heap[g + 1]?) (eb : u.heap[b]? = W.heap[b]?) : Sx g b VS r c s ws st x1 x2 u :=
  ⟨(World.cell?_of_block e0).trans h.1, (World.cell?_of_block e0).trans h.2.1, (World.cell?_of_block e0).trans h.2.2.1, (World.cell?_of_block e0).trans h.2.2.2.1, (World.cell?_of_block e0).trans h.2.2.2.2.1, (World.cell?_of_block e1).trans h.2.2.2.2.2.1, (World.cell?_of_block eb).trans h.2.2.2.2.2.2.1, (World.cell?_of_block eb).trans h.2.2.2.2.2.2.2⟩
section
variable {W : World} {g b q B : Nat} {VS lv : Value} {r c s ws st x1 x2 : Int} {n : Nat} {xs : List Value}
theorem Cx.on (X : Cx W g b q B VS lv r c s ws st x1 x2 n xs) {u : World} (bu : Below W.heap.size W u) : Sx g b VS r c s ws st x1 x2 u :=
  X.sx.blocks (bu.block _ (by have := X.gB; have := X.lB; omega)) (bu.block _ (by have := X.gB; have := X.lB; omega)) (bu.block _ X.lb)
theorem Cx.list (X : Cx W g b q B VS lv r c s ws st x1 x2 n xs) {u : World} (bu : Below W.heap.size W u) : u.cell? ⟨q, 0, none⟩ = some lv := (bu.cell (p := ⟨q, 0, none⟩) X.lq).trans X.cq
theorem Cx.row (X : Cx W g b q B VS lv r c s ws st x1 x2 n xs) {u : World} (bu : Below W.heap.size W u) : u.ownsRow B 37 1 lv n xs := Pr.row_below X.own bu
theorem Cx.far (X : Cx W g b q B VS lv r c s ws st x1 x2 n xs) {u w5 : World} (bu : Below W.heap.size W u) (hg : u.grownBy w5 lv.ownBlock) (kk : Nat) (hk : kk < W.heap.size) (hn : lv.ownBlock ≠ some kk) : w5.heap[kk]? = W.heap[kk]? :=
  (hg.block kk (by have := bu.size; omega) (fun e => hn e.symm)).trans (bu.block kk hk)
theorem Cx.nown (X : Cx W g b q B VS lv r c s ws st x1 x2 n xs) : lv.ownBlock ≠ some g ∧ lv.ownBlock ≠ some (g + 1) ∧ lv.ownBlock ≠ some b ∧ lv.ownBlock ≠ some q :=
  ⟨fun e => by have := (X.own.lt _ e).1; have := X.gB; omega, fun e => by have := (X.own.lt _ e).1; have := X.gB; omega, fun e => X.nb _ e rfl, fun e => by have := (X.own.lt _ e).1; have := X.qB; omega⟩
theorem Cx.app (X : Cx W g b q B VS lv r c s ws st x1 x2 n xs) {u w5 : World} (bu : Below W.heap.size W u) (hg : u.grownBy w5 lv.ownBlock) : Sx g b VS r c s ws st x1 x2 w5 ∧ w5.cell? ⟨q, 0, none⟩ = some lv ∧ w5.frozen? ⟨q, 0, none⟩ = false := by
  obtain ⟨n0, n1, n2, n3⟩ := X.nown
  have z0 := X.gB
  have z1 := X.lB
  have fq := X.far bu hg q X.lq n3
  exact ⟨X.sx.blocks (X.far bu hg g (by omega) n0) (X.far bu hg (g + 1) (by omega) n1) (X.far bu hg b X.lb n2), (World.cell?_of_block fq).trans X.cq, (World.frozen?_of_block fq).trans X.fq⟩
theorem Cx.put (X : Cx W g b q B VS lv r c s ws st x1 x2 n xs) {w5 : World} (h : Sx g b VS r c s ws st x1 x2 w5) (v : Value) : Sx g b VS r c s ws st x1 x2 (w5.setCell ⟨q, 0, none⟩ v) := by
  have far2 : ∀ kk, kk ≠ q → (w5.setCell ⟨q, 0, none⟩ v).heap[kk]? = w5.heap[kk]? := fun kk hkk => Below.heap_setCell w5 ⟨q, 0, none⟩ _ kk (by simpa using hkk)
  obtain ⟨q0, q1, q2⟩ := X.qg
  exact h.blocks (far2 _ (Ne.symm q0)) (far2 _ (Ne.symm q1)) (far2 _ (Ne.symm q2))
end
/-- What lies behind the region. -/
def Fin (pm : Nat → Prop) (W : World) (q B : Nat) (lv : Value) (n : Nat) (xs : List Value) (u : World) : Prop :=
  ∃ m g2 cap3 u3 w5, pm m ∧ Below W.heap.size W u3 ∧ u3.grownBy w5 lv.ownBlock ∧ w5.ownsRow B 37 1 (.slice (some ⟨g2, 0, none⟩) (n + 1) cap3) (n + 1) (xs ++ [.float .f64 m]) ∧ u = w5.setCell ⟨q, 0, none⟩ (.slice (some ⟨g2, 0, none⟩) (n + 1) cap3)
theorem one_cell {u : World} {b2 m : Nat} (h : u.cell? ⟨b2, 0, none⟩ = some (.float .f64 m)) : ∀ j v, [Value.float .f64 m][j]? = some v → u.cell? ((⟨b2, 0, none⟩ : Addr).add j) = some v := by
  intro j v hj
  match j, hj with
  | 0, hj => simp at hj; subst hj; simpa [Addr.add] using h
theorem lit_row {B : Nat} (u : World) (x : Nat) (hB : B ≤ u.heap.size) : (u.alloc (Obj.cells #[.float .f64 x] 37)).ownsRow B 37 1 (.slice (some ⟨u.heap.size, 0, none⟩) 1 1) 1 [.float .f64 x] := by
  have := World.ownsRow_lit (e := 37) u #[.float .f64 x] 1 (size := 1) (base := B) hB (by unfold maxLen; omega) rfl
  simpa using this
theorem reads_news {u : World} {bb oo : Nat} {L : List Nat} (h : ∀ i, i < L.length → u.cell? ⟨bb, oo + i, none⟩ = some (.float .f64 (L.getD i 0))) : ∀ j v, (flts L)[j]? = some v → u.cell? ((⟨bb, oo, none⟩ : Addr).add j) = some v := by
  intro j v hj
  have hl : j < L.length := by
    have := (List.getElem?_eq_some_iff.1 hj).1
    simpa [flts] using this
  have e := h j hl
  simp [flts, List.getElem?_map, List.getElem?_eq_getElem hl] at hj
  subst hj
  have e2 : (⟨bb, oo, none⟩ : Addr).add j = ⟨bb, oo + j, none⟩ := by
    unfold Addr.add
    split
    · rename_i hz; subst hz; rfl
    · rfl
  rw [e2]
  simpa [List.getD_eq_getElem?_getD, List.getElem?_eq_getElem hl] using e
theorem flts_one (L : List Nat) : ∀ u ∈ flts L, u.oneCell' = true := by
  intro u hu
  simp [flts] at hu
  obtain ⟨x, _, rfl⟩ := hu
  rfl

set_option maxHeartbeats 1000000 in
theorem n1N {W : World} {g b q B : Nat} {VS lv : Value} {r c s ws st x1 x2 : Int} {n : Nat} {xs : List Value} {pm : Nat → Prop} {Q : Exit → Act → World → Prop} (X : Cx W g b q B VS lv r c s ws st x1 x2 n xs) (hQ : ∀ (a' : Act) (u : World), Fin pm W q B lv n xs u → Q .normal a' u) {x : Nat} {NL : List Nat} (AR : Hid (∀ u : World, Below W.heap.size W u → Calls Try.prog 25 #[gv r c s ws st, VS, nd x1 x2] u fun e w' => ∃ v', e = .returned v' ∧ Fls.Reads w' v' NL ∧ Below u.heap.size u w')) (hw : Hid (∀ z ∈ x :: NL, z < 18446744073709551616)) (hpos : 0 < NL.length) (hle : NL.length ≤ 4) (hpm : Hid (∀ m, Smm.Mn (x :: NL) m → pm m)) (t0 t1 t4 t8 t9 t10 t11 t12 t13 t14 t15 t16 t17 t18 t19 t20 t21 t22 : Value) (u : World) (bu : Below W.heap.size W u) (b1 : Nat) (v1 : Value) (va : Value) (m : Nat) (hm : Hid (pm m)) (b2 : Nat) (hn : Hid (u.cell? ⟨b2, 0, none⟩ = some (.float .f64 m))) : wpAnyH Try.prog .any OPS9 Q (Sx g b VS r c s ws st x1 x2) 2 #[true, true, true, true, true, true, true, true, true, true, false, false] ⟨#[t0, t1, .pointer (some ⟨g, 0, none⟩), .pointer (some ⟨g + 1, 0, none⟩), t4, .pointer (some ⟨q, 0, none⟩), .pointer (some ⟨b, 0, none⟩), .float .f64 x, t8, t9, t10, t11, t12, t13, t14, t15, t16, t17, t18, t19, t20, t21, t22, lv, .float .f64 x, .slice (some ⟨b1, 0, none⟩) 1 1, gv r c s ws st, VS, nd x1 x2, v1, va, .float .f64 m, .slice (some ⟨b2, 0, none⟩) 1 1, undef, undef], []⟩ u := by
  refine wpAnyH_ready (rs := [10]) (by kernel_rfl) (by simp) ?_
  refine AllReadyH.cons (o := { dst := some 33, op := Op.call { callee := Callee.builtin Builtin.append, args := #[Operand.tmp 23, Operand.tmp 32], argTypes := #[24, 24] }, type := 24, pos := "l11_fields.go:68", after := #[{ on := 0, ground := Ground.data }, { on := 9, ground := Ground.data }, { on := 8, ground := Ground.chain }], guard := none }) rfl (fun K hK => ?_) ?_
  · obtain ⟨i0, hi0, hz0, hz1, hz2⟩ := info_parts Fls.Try.info37
    have zu := bu.size
    have zB := X.lB
    have zn := X.nle
    refine step_append_lies _ (by rfl) _ _ 24 (by rfl) B 37 i0 (.float .f64 0) 1 8 Try.underlying24 hi0 hz0 hz1 hz2 rfl (by decide) _ _ _ (by rfl) (X.row bu) ⟨b2, 0, none⟩ 1 1 [.float .f64 m] (by rfl) rfl (one_cell hn.out) (by intro u hu; simp at hu; subst hu; rfl) (by decide) (by unfold maxLen; omega) (by omega) (by omega) u.heap.size rfl ?_
    intro g2 cap3 w5 hown hgrow hat hlt5
    have HO : Hid (w5.ownsRow B 37 1 (.slice (some ⟨g2, 0, none⟩) (n + 1) cap3) (n + 1) (xs ++ [.float .f64 m])) := hown
    have HG : Hid (u.grownBy w5 lv.ownBlock) := hgrow
    obtain ⟨hsx, c5, r5⟩ := X.app bu hgrow
    have HS : Hid (Sx g b VS r c s ws st x1 x2 w5) := hsx
    clear hown hgrow hat hlt5 hsx
    refine hK.out _ _ HS.out (fun _ => ?_)
    clear hK K
    refine wpAnyH_ready (rs := [11]) (by kernel_rfl) (by simp) ?_
    refine AllReadyH.cons (o := { dst := none, op := Op.store 24 (Operand.tmp 5) (Operand.tmp 33), type := 0, pos := "l11_fields.go:68", after := #[{ on := 10, ground := Ground.data }, { on := 10, ground := Ground.chain }, { on := 0, ground := Ground.phase }, { on := 1, ground := Ground.phase }, { on := 2, ground := Ground.phase }, { on := 3, ground := Ground.phase }, { on := 4, ground := Ground.phase }, { on := 5, ground := Ground.phase }, { on := 6, ground := Ground.phase }, { on := 7, ground := Ground.phase }, { on := 8, ground := Ground.phase }, { on := 9, ground := Ground.phase }, { on := 10, ground := Ground.phase }], guard := none }) rfl (fun K hK => ?_) AllReadyH.nil
    go_simp
    refine hK.out _ _ (X.put HS.out _) (fun _ => ?_)
    clear hK K
    refine wpAnyH_done (by kernel_rfl) ?_ _
    exact hQ _ _ ⟨m, g2, cap3, u, w5, hm.out, bu, HG.out, HO.out, rfl⟩
  exact AllReadyH.nil

set_option maxHeartbeats 1000000 in
theorem n0N {W : World} {g b q B : Nat} {VS lv : Value} {r c s ws st x1 x2 : Int} {n : Nat} {xs : List Value} {pm : Nat → Prop} {Q : Exit → Act → World → Prop} (X : Cx W g b q B VS lv r c s ws st x1 x2 n xs) (hQ : ∀ (a' : Act) (u : World), Fin pm W q B lv n xs u → Q .normal a' u) {x : Nat} {NL : List Nat} (AR : Hid (∀ u : World, Below W.heap.size W u → Calls Try.prog 25 #[gv r c s ws st, VS, nd x1 x2] u fun e w' => ∃ v', e = .returned v' ∧ Fls.Reads w' v' NL ∧ Below u.heap.size u w')) (hw : Hid (∀ z ∈ x :: NL, z < 18446744073709551616)) (hpos : 0 < NL.length) (hle : NL.length ≤ 4) (hpm : Hid (∀ m, Smm.Mn (x :: NL) m → pm m)) (t0 t1 t4 t8 t9 t10 t11 t12 t13 t14 t15 t16 t17 t18 t19 t20 t21 t22 : Value) (u : World) (bu : Below W.heap.size W u) (b1 : Nat) (v1 : Value) (va : Value) (m : Nat) (hm : Hid (pm m)) (b2 : Nat) (hn : Hid (u.cell? ⟨b2, 0, none⟩ = some (.float .f64 m))) : wpAnyH Try.prog .any OPS9 Q (Sx g b VS r c s ws st x1 x2) 3 #[false, true, true, true, true, true, true, true, true, true, false, false] ⟨#[t0, t1, .pointer (some ⟨g, 0, none⟩), .pointer (some ⟨g + 1, 0, none⟩), t4, .pointer (some ⟨q, 0, none⟩), .pointer (some ⟨b, 0, none⟩), .float .f64 x, t8, t9, t10, t11, t12, t13, t14, t15, t16, t17, t18, t19, t20, t21, t22, undef, .float .f64 x, .slice (some ⟨b1, 0, none⟩) 1 1, gv r c s ws st, VS, nd x1 x2, v1, va, .float .f64 m, .slice (some ⟨b2, 0, none⟩) 1 1, undef, undef], []⟩ u := by
  refine wpAnyH_ready (rs := [0]) (by kernel_rfl) (by simp) ?_
  refine AllReadyH.cons (o := { dst := some 23, op := Op.load 24 (Operand.tmp 5), type := 24, pos := "l11_fields.go:68", after := #[], guard := none }) rfl (fun K hK => ?_) ?_
  · have lq := X.list bu
    go_simp
    refine hK.out _ _ (X.on bu) (fun _ => ?_)
    exact n1N X hQ AR hw hpos hle hpm t0 t1 t4 t8 t9 t10 t11 t12 t13 t14 t15 t16 t17 t18 t19 t20 t21 t22 u bu b1 v1 va m hm b2 hn
  exact AllReadyH.nil

set_option maxHeartbeats 1000000 in
theorem n1M {W : World} {g b q B : Nat} {VS lv : Value} {r c s ws st x1 x2 : Int} {n : Nat} {xs : List Value} {pm : Nat → Prop} {Q : Exit → Act → World → Prop} (X : Cx W g b q B VS lv r c s ws st x1 x2 n xs) (hQ : ∀ (a' : Act) (u : World), Fin pm W q B lv n xs u → Q .normal a' u) {x : Nat} {NL : List Nat} (AR : Hid (∀ u : World, Below W.heap.size W u → Calls Try.prog 25 #[gv r c s ws st, VS, nd x1 x2] u fun e w' => ∃ v', e = .returned v' ∧ Fls.Reads w' v' NL ∧ Below u.heap.size u w')) (hw : Hid (∀ z ∈ x :: NL, z < 18446744073709551616)) (hpos : 0 < NL.length) (hle : NL.length ≤ 4) (hpm : Hid (∀ m, Smm.Mn (x :: NL) m → pm m)) (t0 t1 t4 t8 t9 t10 t11 t12 t13 t14 t15 t16 t17 t18 t19 t20 t21 t22 : Value) (u : World) (bu : Below W.heap.size W u) (b1 : Nat) (v1 : Value) (va : Value) (m : Nat) (hm : Hid (pm m)) : wpAnyH Try.prog .any OPS9 Q (Sx g b VS r c s ws st x1 x2) 3 #[true, true, true, true, true, true, true, true, true, false, false, false] ⟨#[t0, t1, .pointer (some ⟨g, 0, none⟩), .pointer (some ⟨g + 1, 0, none⟩), t4, .pointer (some ⟨q, 0, none⟩), .pointer (some ⟨b, 0, none⟩), .float .f64 x, t8, t9, t10, t11, t12, t13, t14, t15, t16, t17, t18, t19, t20, t21, t22, lv, .float .f64 x, .slice (some ⟨b1, 0, none⟩) 1 1, gv r c s ws st, VS, nd x1 x2, v1, va, .float .f64 m, undef, undef, undef], []⟩ u := by
  refine wpAnyH_ready (rs := [9]) (by kernel_rfl) (by simp) ?_
  refine AllReadyH.cons (o := { dst := some 32, op := Op.buildSlice 24 1 #[(0, Operand.tmp 31)], type := 24, pos := "l11_fields.go:68", after := #[{ on := 8, ground := Ground.data }], guard := none }) rfl (fun K hK => ?_) ?_
  · have zu := bu.size
    have bu2 : Below W.heap.size W (u.alloc (Obj.cells #[.float .f64 m] 37)) := bu.alloc bu.size _
    go_simp
    refine hK.out _ _ (X.on bu2) (fun _ => ?_)
    exact n1N X hQ AR hw hpos hle hpm t0 t1 t4 t8 t9 t10 t11 t12 t13 t14 t15 t16 t17 t18 t19 t20 t21 t22 _ bu2 b1 v1 va m hm _ (by show World.cell? _ _ = _; simp [go_sem])
  exact AllReadyH.nil

set_option maxHeartbeats 1000000 in
theorem n0M {W : World} {g b q B : Nat} {VS lv : Value} {r c s ws st x1 x2 : Int} {n : Nat} {xs : List Value} {pm : Nat → Prop} {Q : Exit → Act → World → Prop} (X : Cx W g b q B VS lv r c s ws st x1 x2 n xs) (hQ : ∀ (a' : Act) (u : World), Fin pm W q B lv n xs u → Q .normal a' u) {x : Nat} {NL : List Nat} (AR : Hid (∀ u : World, Below W.heap.size W u → Calls Try.prog 25 #[gv r c s ws st, VS, nd x1 x2] u fun e w' => ∃ v', e = .returned v' ∧ Fls.Reads w' v' NL ∧ Below u.heap.size u w')) (hw : Hid (∀ z ∈ x :: NL, z < 18446744073709551616)) (hpos : 0 < NL.length) (hle : NL.length ≤ 4) (hpm : Hid (∀ m, Smm.Mn (x :: NL) m → pm m)) (t0 t1 t4 t8 t9 t10 t11 t12 t13 t14 t15 t16 t17 t18 t19 t20 t21 t22 : Value) (u : World) (bu : Below W.heap.size W u) (b1 : Nat) (v1 : Value) (va : Value) (m : Nat) (hm : Hid (pm m)) : wpAnyH Try.prog .any OPS9 Q (Sx g b VS r c s ws st x1 x2) 4 #[false, true, true, true, true, true, true, true, true, false, false, false] ⟨#[t0, t1, .pointer (some ⟨g, 0, none⟩), .pointer (some ⟨g + 1, 0, none⟩), t4, .pointer (some ⟨q, 0, none⟩), .pointer (some ⟨b, 0, none⟩), .float .f64 x, t8, t9, t10, t11, t12, t13, t14, t15, t16, t17, t18, t19, t20, t21, t22, undef, .float .f64 x, .slice (some ⟨b1, 0, none⟩) 1 1, gv r c s ws st, VS, nd x1 x2, v1, va, .float .f64 m, undef, undef, undef], []⟩ u := by
  refine wpAnyH_ready (rs := [0, 9]) (by kernel_rfl) (by simp) ?_
  refine AllReadyH.cons (o := { dst := some 23, op := Op.load 24 (Operand.tmp 5), type := 24, pos := "l11_fields.go:68", after := #[], guard := none }) rfl (fun K hK => ?_) ?_
  · have lq := X.list bu
    go_simp
    refine hK.out _ _ (X.on bu) (fun _ => ?_)
    exact n1M X hQ AR hw hpos hle hpm t0 t1 t4 t8 t9 t10 t11 t12 t13 t14 t15 t16 t17 t18 t19 t20 t21 t22 u bu b1 v1 va m hm
  refine AllReadyH.cons (o := { dst := some 32, op := Op.buildSlice 24 1 #[(0, Operand.tmp 31)], type := 24, pos := "l11_fields.go:68", after := #[{ on := 8, ground := Ground.data }], guard := none }) rfl (fun K hK => ?_) ?_
  · have zu := bu.size
    have bu2 : Below W.heap.size W (u.alloc (Obj.cells #[.float .f64 m] 37)) := bu.alloc bu.size _
    go_simp
    refine hK.out _ _ (X.on bu2) (fun _ => ?_)
    exact n0N X hQ AR hw hpos hle hpm t0 t1 t4 t8 t9 t10 t11 t12 t13 t14 t15 t16 t17 t18 t19 t20 t21 t22 _ bu2 b1 v1 va m hm _ (by show World.cell? _ _ = _; simp [go_sem])
  exact AllReadyH.nil

set_option maxHeartbeats 1000000 in
theorem n1A {W : World} {g b q B : Nat} {VS lv : Value} {r c s ws st x1 x2 : Int} {n : Nat} {xs : List Value} {pm : Nat → Prop} {Q : Exit → Act → World → Prop} (X : Cx W g b q B VS lv r c s ws st x1 x2 n xs) (hQ : ∀ (a' : Act) (u : World), Fin pm W q B lv n xs u → Q .normal a' u) {x : Nat} {NL : List Nat} (AR : Hid (∀ u : World, Below W.heap.size W u → Calls Try.prog 25 #[gv r c s ws st, VS, nd x1 x2] u fun e w' => ∃ v', e = .returned v' ∧ Fls.Reads w' v' NL ∧ Below u.heap.size u w')) (hw : Hid (∀ z ∈ x :: NL, z < 18446744073709551616)) (hpos : 0 < NL.length) (hle : NL.length ≤ 4) (hpm : Hid (∀ m, Smm.Mn (x :: NL) m → pm m)) (t0 t1 t4 t8 t9 t10 t11 t12 t13 t14 t15 t16 t17 t18 t19 t20 t21 t22 : Value) (u : World) (bu : Below W.heap.size W u) (b1 : Nat) (v1 : Value) (va : Value) (ha : Hid (Fls.Reads u va (x :: NL))) : wpAnyH Try.prog .any OPS9 Q (Sx g b VS r c s ws st x1 x2) 4 #[true, true, true, true, true, true, true, true, false, false, false, false] ⟨#[t0, t1, .pointer (some ⟨g, 0, none⟩), .pointer (some ⟨g + 1, 0, none⟩), t4, .pointer (some ⟨q, 0, none⟩), .pointer (some ⟨b, 0, none⟩), .float .f64 x, t8, t9, t10, t11, t12, t13, t14, t15, t16, t17, t18, t19, t20, t21, t22, lv, .float .f64 x, .slice (some ⟨b1, 0, none⟩) 1 1, gv r c s ws st, VS, nd x1 x2, v1, va, undef, undef, undef, undef], []⟩ u := by
  refine wpAnyH_ready (rs := [8]) (by kernel_rfl) (by simp) ?_
  refine AllReadyH.cons (o := { dst := some 31, op := Op.call { callee := Callee.value (Operand.func 24), args := #[Operand.tmp 30], argTypes := #[24] }, type := 37, pos := "l11_fields.go:68", after := #[{ on := 7, ground := Ground.data }, { on := 7, ground := Ground.chain }], guard := none }) rfl (fun K hK => ?_) ?_
  · go_simp
    refine (Smm.imean u va (x :: NL) ha.out hw.out).mono ?_
    rintro e u2 ⟨m, rfl, hm0, hu2⟩
    subst hu2
    have hm : Hid (pm m) := hpm.out m hm0
    clear hm0
    refine hK.out _ _ (X.on bu) (fun _ => ?_)
    exact n1M X hQ AR hw hpos hle hpm t0 t1 t4 t8 t9 t10 t11 t12 t13 t14 t15 t16 t17 t18 t19 t20 t21 t22 _ bu b1 v1 va m hm
  exact AllReadyH.nil

set_option maxHeartbeats 1000000 in
theorem n0A {W : World} {g b q B : Nat} {VS lv : Value} {r c s ws st x1 x2 : Int} {n : Nat} {xs : List Value} {pm : Nat → Prop} {Q : Exit → Act → World → Prop} (X : Cx W g b q B VS lv r c s ws st x1 x2 n xs) (hQ : ∀ (a' : Act) (u : World), Fin pm W q B lv n xs u → Q .normal a' u) {x : Nat} {NL : List Nat} (AR : Hid (∀ u : World, Below W.heap.size W u → Calls Try.prog 25 #[gv r c s ws st, VS, nd x1 x2] u fun e w' => ∃ v', e = .returned v' ∧ Fls.Reads w' v' NL ∧ Below u.heap.size u w')) (hw : Hid (∀ z ∈ x :: NL, z < 18446744073709551616)) (hpos : 0 < NL.length) (hle : NL.length ≤ 4) (hpm : Hid (∀ m, Smm.Mn (x :: NL) m → pm m)) (t0 t1 t4 t8 t9 t10 t11 t12 t13 t14 t15 t16 t17 t18 t19 t20 t21 t22 : Value) (u : World) (bu : Below W.heap.size W u) (b1 : Nat) (v1 : Value) (va : Value) (ha : Hid (Fls.Reads u va (x :: NL))) : wpAnyH Try.prog .any OPS9 Q (Sx g b VS r c s ws st x1 x2) 5 #[false, true, true, true, true, true, true, true, false, false, false, false] ⟨#[t0, t1, .pointer (some ⟨g, 0, none⟩), .pointer (some ⟨g + 1, 0, none⟩), t4, .pointer (some ⟨q, 0, none⟩), .pointer (some ⟨b, 0, none⟩), .float .f64 x, t8, t9, t10, t11, t12, t13, t14, t15, t16, t17, t18, t19, t20, t21, t22, undef, .float .f64 x, .slice (some ⟨b1, 0, none⟩) 1 1, gv r c s ws st, VS, nd x1 x2, v1, va, undef, undef, undef, undef], []⟩ u := by
  refine wpAnyH_ready (rs := [0, 8]) (by kernel_rfl) (by simp) ?_
  refine AllReadyH.cons (o := { dst := some 23, op := Op.load 24 (Operand.tmp 5), type := 24, pos := "l11_fields.go:68", after := #[], guard := none }) rfl (fun K hK => ?_) ?_
  · have lq := X.list bu
    go_simp
    refine hK.out _ _ (X.on bu) (fun _ => ?_)
    exact n1A X hQ AR hw hpos hle hpm t0 t1 t4 t8 t9 t10 t11 t12 t13 t14 t15 t16 t17 t18 t19 t20 t21 t22 u bu b1 v1 va ha
  refine AllReadyH.cons (o := { dst := some 31, op := Op.call { callee := Callee.value (Operand.func 24), args := #[Operand.tmp 30], argTypes := #[24] }, type := 37, pos := "l11_fields.go:68", after := #[{ on := 7, ground := Ground.data }, { on := 7, ground := Ground.chain }], guard := none }) rfl (fun K hK => ?_) ?_
  · go_simp
    refine (Smm.imean u va (x :: NL) ha.out hw.out).mono ?_
    rintro e u2 ⟨m, rfl, hm0, hu2⟩
    subst hu2
    have hm : Hid (pm m) := hpm.out m hm0
    clear hm0
    refine hK.out _ _ (X.on bu) (fun _ => ?_)
    exact n0M X hQ AR hw hpos hle hpm t0 t1 t4 t8 t9 t10 t11 t12 t13 t14 t15 t16 t17 t18 t19 t20 t21 t22 _ bu b1 v1 va m hm
  exact AllReadyH.nil

set_option maxHeartbeats 1000000 in
theorem n1D {W : World} {g b q B : Nat} {VS lv : Value} {r c s ws st x1 x2 : Int} {n : Nat} {xs : List Value} {pm : Nat → Prop} {Q : Exit → Act → World → Prop} (X : Cx W g b q B VS lv r c s ws st x1 x2 n xs) (hQ : ∀ (a' : Act) (u : World), Fin pm W q B lv n xs u → Q .normal a' u) {x : Nat} {NL : List Nat} (AR : Hid (∀ u : World, Below W.heap.size W u → Calls Try.prog 25 #[gv r c s ws st, VS, nd x1 x2] u fun e w' => ∃ v', e = .returned v' ∧ Fls.Reads w' v' NL ∧ Below u.heap.size u w')) (hw : Hid (∀ z ∈ x :: NL, z < 18446744073709551616)) (hpos : 0 < NL.length) (hle : NL.length ≤ 4) (hpm : Hid (∀ m, Smm.Mn (x :: NL) m → pm m)) (t0 t1 t4 t8 t9 t10 t11 t12 t13 t14 t15 t16 t17 t18 t19 t20 t21 t22 : Value) (u : World) (bu : Below W.heap.size W u) (b1 : Nat) (hb1 : Hid (u.ownsRow W.heap.size 37 1 (.slice (some ⟨b1, 0, none⟩) 1 1) 1 [.float .f64 x])) (v1 : Value) (h1 : Hid (Fls.Reads u v1 NL)) : wpAnyH Try.prog .any OPS9 Q (Sx g b VS r c s ws st x1 x2) 5 #[true, true, true, true, true, true, true, false, false, false, false, false] ⟨#[t0, t1, .pointer (some ⟨g, 0, none⟩), .pointer (some ⟨g + 1, 0, none⟩), t4, .pointer (some ⟨q, 0, none⟩), .pointer (some ⟨b, 0, none⟩), .float .f64 x, t8, t9, t10, t11, t12, t13, t14, t15, t16, t17, t18, t19, t20, t21, t22, lv, .float .f64 x, .slice (some ⟨b1, 0, none⟩) 1 1, gv r c s ws st, VS, nd x1 x2, v1, undef, undef, undef, undef, undef], []⟩ u := by
  refine wpAnyH_ready (rs := [7]) (by kernel_rfl) (by simp) ?_
  refine AllReadyH.cons (o := { dst := some 30, op := Op.call { callee := Callee.builtin Builtin.append, args := #[Operand.tmp 25, Operand.tmp 29], argTypes := #[24, 24] }, type := 24, pos := "l11_fields.go:68", after := #[{ on := 2, ground := Ground.data }, { on := 6, ground := Ground.data }, { on := 6, ground := Ground.chain }], guard := none }) rfl (fun K hK => ?_) ?_
  · obtain ⟨i0, hi0, hz0, hz1, hz2⟩ := info_parts Fls.Try.info37
    have zu := bu.size
    rcases h1.out with ⟨rfl, _⟩ | ⟨bb, oo, cap, rfl, k2, k3, k4, k5⟩
    · simp at hpos
    refine step_append_lies _ (by rfl) _ _ 24 (by rfl) W.heap.size 37 i0 (.float .f64 0) 1 8 Try.underlying24 hi0 hz0 hz1 hz2 rfl (by decide) _ _ _ (by rfl) hb1.out ⟨bb, oo, none⟩ NL.length cap (flts NL) (by rfl) (by simp [flts]) (reads_news k5) (flts_one NL) hpos (by unfold maxLen; omega) (by omega) zu u.heap.size rfl ?_
    intro g3 cap3 w5 hown hgrow hat hlt5
    have bu2 : Below W.heap.size W w5 := bu.grown hgrow bu.size (fun k hk => (hb1.out.lt k hk).1)
    have ha : Hid (Fls.Reads w5 (.slice (some ⟨g3, 0, none⟩) (1 + NL.length) cap3) (x :: NL)) := (by
      show Fls.Reads _ _ _
      have e : 1 + NL.length = (x :: NL).length := by simp; omega
      rw [e] at hown ⊢
      exact Fls.reads_row (by simpa [flts] using hown))
    clear hown hgrow hat hlt5
    refine hK.out _ _ (X.on bu2) (fun _ => ?_)
    exact n1A X hQ AR hw hpos hle hpm t0 t1 t4 t8 t9 t10 t11 t12 t13 t14 t15 t16 t17 t18 t19 t20 t21 t22 w5 bu2 b1 _ _ ha
  exact AllReadyH.nil

set_option maxHeartbeats 1000000 in
theorem n0D {W : World} {g b q B : Nat} {VS lv : Value} {r c s ws st x1 x2 : Int} {n : Nat} {xs : List Value} {pm : Nat → Prop} {Q : Exit → Act → World → Prop} (X : Cx W g b q B VS lv r c s ws st x1 x2 n xs) (hQ : ∀ (a' : Act) (u : World), Fin pm W q B lv n xs u → Q .normal a' u) {x : Nat} {NL : List Nat} (AR : Hid (∀ u : World, Below W.heap.size W u → Calls Try.prog 25 #[gv r c s ws st, VS, nd x1 x2] u fun e w' => ∃ v', e = .returned v' ∧ Fls.Reads w' v' NL ∧ Below u.heap.size u w')) (hw : Hid (∀ z ∈ x :: NL, z < 18446744073709551616)) (hpos : 0 < NL.length) (hle : NL.length ≤ 4) (hpm : Hid (∀ m, Smm.Mn (x :: NL) m → pm m)) (t0 t1 t4 t8 t9 t10 t11 t12 t13 t14 t15 t16 t17 t18 t19 t20 t21 t22 : Value) (u : World) (bu : Below W.heap.size W u) (b1 : Nat) (hb1 : Hid (u.ownsRow W.heap.size 37 1 (.slice (some ⟨b1, 0, none⟩) 1 1) 1 [.float .f64 x])) (v1 : Value) (h1 : Hid (Fls.Reads u v1 NL)) : wpAnyH Try.prog .any OPS9 Q (Sx g b VS r c s ws st x1 x2) 6 #[false, true, true, true, true, true, true, false, false, false, false, false] ⟨#[t0, t1, .pointer (some ⟨g, 0, none⟩), .pointer (some ⟨g + 1, 0, none⟩), t4, .pointer (some ⟨q, 0, none⟩), .pointer (some ⟨b, 0, none⟩), .float .f64 x, t8, t9, t10, t11, t12, t13, t14, t15, t16, t17, t18, t19, t20, t21, t22, undef, .float .f64 x, .slice (some ⟨b1, 0, none⟩) 1 1, gv r c s ws st, VS, nd x1 x2, v1, undef, undef, undef, undef, undef], []⟩ u := by
  refine wpAnyH_ready (rs := [0, 7]) (by kernel_rfl) (by simp) ?_
  refine AllReadyH.cons (o := { dst := some 23, op := Op.load 24 (Operand.tmp 5), type := 24, pos := "l11_fields.go:68", after := #[], guard := none }) rfl (fun K hK => ?_) ?_
  · have lq := X.list bu
    go_simp
    refine hK.out _ _ (X.on bu) (fun _ => ?_)
    exact n1D X hQ AR hw hpos hle hpm t0 t1 t4 t8 t9 t10 t11 t12 t13 t14 t15 t16 t17 t18 t19 t20 t21 t22 u bu b1 hb1 v1 h1
  refine AllReadyH.cons (o := { dst := some 30, op := Op.call { callee := Callee.builtin Builtin.append, args := #[Operand.tmp 25, Operand.tmp 29], argTypes := #[24, 24] }, type := 24, pos := "l11_fields.go:68", after := #[{ on := 2, ground := Ground.data }, { on := 6, ground := Ground.data }, { on := 6, ground := Ground.chain }], guard := none }) rfl (fun K hK => ?_) ?_
  · obtain ⟨i0, hi0, hz0, hz1, hz2⟩ := info_parts Fls.Try.info37
    have zu := bu.size
    rcases h1.out with ⟨rfl, _⟩ | ⟨bb, oo, cap, rfl, k2, k3, k4, k5⟩
    · simp at hpos
    refine step_append_lies _ (by rfl) _ _ 24 (by rfl) W.heap.size 37 i0 (.float .f64 0) 1 8 Try.underlying24 hi0 hz0 hz1 hz2 rfl (by decide) _ _ _ (by rfl) hb1.out ⟨bb, oo, none⟩ NL.length cap (flts NL) (by rfl) (by simp [flts]) (reads_news k5) (flts_one NL) hpos (by unfold maxLen; omega) (by omega) zu u.heap.size rfl ?_
    intro g3 cap3 w5 hown hgrow hat hlt5
    have bu2 : Below W.heap.size W w5 := bu.grown hgrow bu.size (fun k hk => (hb1.out.lt k hk).1)
    have ha : Hid (Fls.Reads w5 (.slice (some ⟨g3, 0, none⟩) (1 + NL.length) cap3) (x :: NL)) := (by
      show Fls.Reads _ _ _
      have e : 1 + NL.length = (x :: NL).length := by simp; omega
      rw [e] at hown ⊢
      exact Fls.reads_row (by simpa [flts] using hown))
    clear hown hgrow hat hlt5
    refine hK.out _ _ (X.on bu2) (fun _ => ?_)
    exact n0A X hQ AR hw hpos hle hpm t0 t1 t4 t8 t9 t10 t11 t12 t13 t14 t15 t16 t17 t18 t19 t20 t21 t22 w5 bu2 b1 _ _ ha
  exact AllReadyH.nil

set_option maxHeartbeats 1000000 in
theorem n1C {W : World} {g b q B : Nat} {VS lv : Value} {r c s ws st x1 x2 : Int} {n : Nat} {xs : List Value} {pm : Nat → Prop} {Q : Exit → Act → World → Prop} (X : Cx W g b q B VS lv r c s ws st x1 x2 n xs) (hQ : ∀ (a' : Act) (u : World), Fin pm W q B lv n xs u → Q .normal a' u) {x : Nat} {NL : List Nat} (AR : Hid (∀ u : World, Below W.heap.size W u → Calls Try.prog 25 #[gv r c s ws st, VS, nd x1 x2] u fun e w' => ∃ v', e = .returned v' ∧ Fls.Reads w' v' NL ∧ Below u.heap.size u w')) (hw : Hid (∀ z ∈ x :: NL, z < 18446744073709551616)) (hpos : 0 < NL.length) (hle : NL.length ≤ 4) (hpm : Hid (∀ m, Smm.Mn (x :: NL) m → pm m)) (t0 t1 t4 t8 t9 t10 t11 t12 t13 t14 t15 t16 t17 t18 t19 t20 t21 t22 : Value) (u : World) (bu : Below W.heap.size W u) (v1 : Value) (h1 : Hid (Fls.Reads u v1 NL)) : wpAnyH Try.prog .any OPS9 Q (Sx g b VS r c s ws st x1 x2) 6 #[true, true, false, true, true, true, true, false, false, false, false, false] ⟨#[t0, t1, .pointer (some ⟨g, 0, none⟩), .pointer (some ⟨g + 1, 0, none⟩), t4, .pointer (some ⟨q, 0, none⟩), .pointer (some ⟨b, 0, none⟩), .float .f64 x, t8, t9, t10, t11, t12, t13, t14, t15, t16, t17, t18, t19, t20, t21, t22, lv, .float .f64 x, undef, gv r c s ws st, VS, nd x1 x2, v1, undef, undef, undef, undef, undef], []⟩ u := by
  refine wpAnyH_ready (rs := [2]) (by kernel_rfl) (by simp) ?_
  refine AllReadyH.cons (o := { dst := some 25, op := Op.buildSlice 24 1 #[(0, Operand.tmp 24)], type := 24, pos := "l11_fields.go:68", after := #[{ on := 1, ground := Ground.data }], guard := none }) rfl (fun K hK => ?_) ?_
  · have zu := bu.size
    have bu2 : Below W.heap.size W (u.alloc (Obj.cells #[.float .f64 x] 37)) := bu.alloc bu.size _
    go_simp
    refine hK.out _ _ (X.on bu2) (fun _ => ?_)
    exact n1D X hQ AR hw hpos hle hpm t0 t1 t4 t8 t9 t10 t11 t12 t13 t14 t15 t16 t17 t18 t19 t20 t21 t22 _ bu2 _ (lit_row u x zu) v1 (h1.out.on ((Below.refl _ _).alloc (Nat.le_refl _) _))
  exact AllReadyH.nil

set_option maxHeartbeats 1000000 in
theorem n0C {W : World} {g b q B : Nat} {VS lv : Value} {r c s ws st x1 x2 : Int} {n : Nat} {xs : List Value} {pm : Nat → Prop} {Q : Exit → Act → World → Prop} (X : Cx W g b q B VS lv r c s ws st x1 x2 n xs) (hQ : ∀ (a' : Act) (u : World), Fin pm W q B lv n xs u → Q .normal a' u) {x : Nat} {NL : List Nat} (AR : Hid (∀ u : World, Below W.heap.size W u → Calls Try.prog 25 #[gv r c s ws st, VS, nd x1 x2] u fun e w' => ∃ v', e = .returned v' ∧ Fls.Reads w' v' NL ∧ Below u.heap.size u w')) (hw : Hid (∀ z ∈ x :: NL, z < 18446744073709551616)) (hpos : 0 < NL.length) (hle : NL.length ≤ 4) (hpm : Hid (∀ m, Smm.Mn (x :: NL) m → pm m)) (t0 t1 t4 t8 t9 t10 t11 t12 t13 t14 t15 t16 t17 t18 t19 t20 t21 t22 : Value) (u : World) (bu : Below W.heap.size W u) (v1 : Value) (h1 : Hid (Fls.Reads u v1 NL)) : wpAnyH Try.prog .any OPS9 Q (Sx g b VS r c s ws st x1 x2) 7 #[false, true, false, true, true, true, true, false, false, false, false, false] ⟨#[t0, t1, .pointer (some ⟨g, 0, none⟩), .pointer (some ⟨g + 1, 0, none⟩), t4, .pointer (some ⟨q, 0, none⟩), .pointer (some ⟨b, 0, none⟩), .float .f64 x, t8, t9, t10, t11, t12, t13, t14, t15, t16, t17, t18, t19, t20, t21, t22, undef, .float .f64 x, undef, gv r c s ws st, VS, nd x1 x2, v1, undef, undef, undef, undef, undef], []⟩ u := by
  refine wpAnyH_ready (rs := [0, 2]) (by kernel_rfl) (by simp) ?_
  refine AllReadyH.cons (o := { dst := some 23, op := Op.load 24 (Operand.tmp 5), type := 24, pos := "l11_fields.go:68", after := #[], guard := none }) rfl (fun K hK => ?_) ?_
  · have lq := X.list bu
    go_simp
    refine hK.out _ _ (X.on bu) (fun _ => ?_)
    exact n1C X hQ AR hw hpos hle hpm t0 t1 t4 t8 t9 t10 t11 t12 t13 t14 t15 t16 t17 t18 t19 t20 t21 t22 u bu v1 h1
  refine AllReadyH.cons (o := { dst := some 25, op := Op.buildSlice 24 1 #[(0, Operand.tmp 24)], type := 24, pos := "l11_fields.go:68", after := #[{ on := 1, ground := Ground.data }], guard := none }) rfl (fun K hK => ?_) ?_
  · have zu := bu.size
    have bu2 : Below W.heap.size W (u.alloc (Obj.cells #[.float .f64 x] 37)) := bu.alloc bu.size _
    go_simp
    refine hK.out _ _ (X.on bu2) (fun _ => ?_)
    exact n0D X hQ AR hw hpos hle hpm t0 t1 t4 t8 t9 t10 t11 t12 t13 t14 t15 t16 t17 t18 t19 t20 t21 t22 _ bu2 _ (lit_row u x zu) v1 (h1.out.on ((Below.refl _ _).alloc (Nat.le_refl _) _))
  exact AllReadyH.nil

set_option maxHeartbeats 1000000 in
theorem n1B {W : World} {g b q B : Nat} {VS lv : Value} {r c s ws st x1 x2 : Int} {n : Nat} {xs : List Value} {pm : Nat → Prop} {Q : Exit → Act → World → Prop} (X : Cx W g b q B VS lv r c s ws st x1 x2 n xs) (hQ : ∀ (a' : Act) (u : World), Fin pm W q B lv n xs u → Q .normal a' u) {x : Nat} {NL : List Nat} (AR : Hid (∀ u : World, Below W.heap.size W u → Calls Try.prog 25 #[gv r c s ws st, VS, nd x1 x2] u fun e w' => ∃ v', e = .returned v' ∧ Fls.Reads w' v' NL ∧ Below u.heap.size u w')) (hw : Hid (∀ z ∈ x :: NL, z < 18446744073709551616)) (hpos : 0 < NL.length) (hle : NL.length ≤ 4) (hpm : Hid (∀ m, Smm.Mn (x :: NL) m → pm m)) (t0 t1 t4 t8 t9 t10 t11 t12 t13 t14 t15 t16 t17 t18 t19 t20 t21 t22 : Value) (u : World) (bu : Below W.heap.size W u) (b1 : Nat) (hb1 : Hid (u.ownsRow W.heap.size 37 1 (.slice (some ⟨b1, 0, none⟩) 1 1) 1 [.float .f64 x])) : wpAnyH Try.prog .any OPS9 Q (Sx g b VS r c s ws st x1 x2) 6 #[true, true, true, true, true, true, false, false, false, false, false, false] ⟨#[t0, t1, .pointer (some ⟨g, 0, none⟩), .pointer (some ⟨g + 1, 0, none⟩), t4, .pointer (some ⟨q, 0, none⟩), .pointer (some ⟨b, 0, none⟩), .float .f64 x, t8, t9, t10, t11, t12, t13, t14, t15, t16, t17, t18, t19, t20, t21, t22, lv, .float .f64 x, .slice (some ⟨b1, 0, none⟩) 1 1, gv r c s ws st, VS, nd x1 x2, undef, undef, undef, undef, undef, undef], []⟩ u := by
  refine wpAnyH_ready (rs := [6]) (by kernel_rfl) (by simp) ?_
  refine AllReadyH.cons (o := { dst := some 29, op := Op.call { callee := Callee.value (Operand.func 25), args := #[Operand.tmp 26, Operand.tmp 27, Operand.tmp 28], argTypes := #[26, 24, 45] }, type := 24, pos := "l11_fields.go:68", after := #[{ on := 3, ground := Ground.data }, { on := 4, ground := Ground.data }, { on := 5, ground := Ground.data }], guard := none }) rfl (fun K hK => ?_) ?_
  · go_simp
    refine (AR.out u bu).mono ?_
    rintro e u2 ⟨v1, rfl, rd, b2⟩
    have RD : Hid (Fls.Reads u2 v1 NL) := rd
    have bu2 : Below W.heap.size W u2 := bu.trans (b2.mono bu.size)
    have hb2 : Hid (u2.ownsRow W.heap.size 37 1 (.slice (some ⟨b1, 0, none⟩) 1 1) 1 [.float .f64 x]) := Pr.row_below hb1.out b2
    clear rd b2
    refine hK.out _ _ (X.on bu2) (fun _ => ?_)
    exact n1D X hQ AR hw hpos hle hpm t0 t1 t4 t8 t9 t10 t11 t12 t13 t14 t15 t16 t17 t18 t19 t20 t21 t22 u2 bu2 b1 hb2 v1 RD
  exact AllReadyH.nil

set_option maxHeartbeats 1000000 in
theorem n0B {W : World} {g b q B : Nat} {VS lv : Value} {r c s ws st x1 x2 : Int} {n : Nat} {xs : List Value} {pm : Nat → Prop} {Q : Exit → Act → World → Prop} (X : Cx W g b q B VS lv r c s ws st x1 x2 n xs) (hQ : ∀ (a' : Act) (u : World), Fin pm W q B lv n xs u → Q .normal a' u) {x : Nat} {NL : List Nat} (AR : Hid (∀ u : World, Below W.heap.size W u → Calls Try.prog 25 #[gv r c s ws st, VS, nd x1 x2] u fun e w' => ∃ v', e = .returned v' ∧ Fls.Reads w' v' NL ∧ Below u.heap.size u w')) (hw : Hid (∀ z ∈ x :: NL, z < 18446744073709551616)) (hpos : 0 < NL.length) (hle : NL.length ≤ 4) (hpm : Hid (∀ m, Smm.Mn (x :: NL) m → pm m)) (t0 t1 t4 t8 t9 t10 t11 t12 t13 t14 t15 t16 t17 t18 t19 t20 t21 t22 : Value) (u : World) (bu : Below W.heap.size W u) (b1 : Nat) (hb1 : Hid (u.ownsRow W.heap.size 37 1 (.slice (some ⟨b1, 0, none⟩) 1 1) 1 [.float .f64 x])) : wpAnyH Try.prog .any OPS9 Q (Sx g b VS r c s ws st x1 x2) 7 #[false, true, true, true, true, true, false, false, false, false, false, false] ⟨#[t0, t1, .pointer (some ⟨g, 0, none⟩), .pointer (some ⟨g + 1, 0, none⟩), t4, .pointer (some ⟨q, 0, none⟩), .pointer (some ⟨b, 0, none⟩), .float .f64 x, t8, t9, t10, t11, t12, t13, t14, t15, t16, t17, t18, t19, t20, t21, t22, undef, .float .f64 x, .slice (some ⟨b1, 0, none⟩) 1 1, gv r c s ws st, VS, nd x1 x2, undef, undef, undef, undef, undef, undef], []⟩ u := by
  refine wpAnyH_ready (rs := [0, 6]) (by kernel_rfl) (by simp) ?_
  refine AllReadyH.cons (o := { dst := some 23, op := Op.load 24 (Operand.tmp 5), type := 24, pos := "l11_fields.go:68", after := #[], guard := none }) rfl (fun K hK => ?_) ?_
  · have lq := X.list bu
    go_simp
    refine hK.out _ _ (X.on bu) (fun _ => ?_)
    exact n1B X hQ AR hw hpos hle hpm t0 t1 t4 t8 t9 t10 t11 t12 t13 t14 t15 t16 t17 t18 t19 t20 t21 t22 u bu b1 hb1
  refine AllReadyH.cons (o := { dst := some 29, op := Op.call { callee := Callee.value (Operand.func 25), args := #[Operand.tmp 26, Operand.tmp 27, Operand.tmp 28], argTypes := #[26, 24, 45] }, type := 24, pos := "l11_fields.go:68", after := #[{ on := 3, ground := Ground.data }, { on := 4, ground := Ground.data }, { on := 5, ground := Ground.data }], guard := none }) rfl (fun K hK => ?_) ?_
  · go_simp
    refine (AR.out u bu).mono ?_
    rintro e u2 ⟨v1, rfl, rd, b2⟩
    have RD : Hid (Fls.Reads u2 v1 NL) := rd
    have bu2 : Below W.heap.size W u2 := bu.trans (b2.mono bu.size)
    have hb2 : Hid (u2.ownsRow W.heap.size 37 1 (.slice (some ⟨b1, 0, none⟩) 1 1) 1 [.float .f64 x]) := Pr.row_below hb1.out b2
    clear rd b2
    refine hK.out _ _ (X.on bu2) (fun _ => ?_)
    exact n0D X hQ AR hw hpos hle hpm t0 t1 t4 t8 t9 t10 t11 t12 t13 t14 t15 t16 t17 t18 t19 t20 t21 t22 u2 bu2 b1 hb2 v1 RD
  exact AllReadyH.nil

set_option maxHeartbeats 1000000 in
theorem n1E {W : World} {g b q B : Nat} {VS lv : Value} {r c s ws st x1 x2 : Int} {n : Nat} {xs : List Value} {pm : Nat → Prop} {Q : Exit → Act → World → Prop} (X : Cx W g b q B VS lv r c s ws st x1 x2 n xs) (hQ : ∀ (a' : Act) (u : World), Fin pm W q B lv n xs u → Q .normal a' u) {x : Nat} {NL : List Nat} (AR : Hid (∀ u : World, Below W.heap.size W u → Calls Try.prog 25 #[gv r c s ws st, VS, nd x1 x2] u fun e w' => ∃ v', e = .returned v' ∧ Fls.Reads w' v' NL ∧ Below u.heap.size u w')) (hw : Hid (∀ z ∈ x :: NL, z < 18446744073709551616)) (hpos : 0 < NL.length) (hle : NL.length ≤ 4) (hpm : Hid (∀ m, Smm.Mn (x :: NL) m → pm m)) (t0 t1 t4 t8 t9 t10 t11 t12 t13 t14 t15 t16 t17 t18 t19 t20 t21 t22 : Value) (u : World) (bu : Below W.heap.size W u) : wpAnyH Try.prog .any OPS9 Q (Sx g b VS r c s ws st x1 x2) 7 #[true, true, false, true, true, true, false, false, false, false, false, false] ⟨#[t0, t1, .pointer (some ⟨g, 0, none⟩), .pointer (some ⟨g + 1, 0, none⟩), t4, .pointer (some ⟨q, 0, none⟩), .pointer (some ⟨b, 0, none⟩), .float .f64 x, t8, t9, t10, t11, t12, t13, t14, t15, t16, t17, t18, t19, t20, t21, t22, lv, .float .f64 x, undef, gv r c s ws st, VS, nd x1 x2, undef, undef, undef, undef, undef, undef], []⟩ u := by
  refine wpAnyH_ready (rs := [2, 6]) (by kernel_rfl) (by simp) ?_
  refine AllReadyH.cons (o := { dst := some 25, op := Op.buildSlice 24 1 #[(0, Operand.tmp 24)], type := 24, pos := "l11_fields.go:68", after := #[{ on := 1, ground := Ground.data }], guard := none }) rfl (fun K hK => ?_) ?_
  · have zu := bu.size
    have bu2 : Below W.heap.size W (u.alloc (Obj.cells #[.float .f64 x] 37)) := bu.alloc bu.size _
    go_simp
    refine hK.out _ _ (X.on bu2) (fun _ => ?_)
    exact n1B X hQ AR hw hpos hle hpm t0 t1 t4 t8 t9 t10 t11 t12 t13 t14 t15 t16 t17 t18 t19 t20 t21 t22 _ bu2 _ (lit_row u x zu)
  refine AllReadyH.cons (o := { dst := some 29, op := Op.call { callee := Callee.value (Operand.func 25), args := #[Operand.tmp 26, Operand.tmp 27, Operand.tmp 28], argTypes := #[26, 24, 45] }, type := 24, pos := "l11_fields.go:68", after := #[{ on := 3, ground := Ground.data }, { on := 4, ground := Ground.data }, { on := 5, ground := Ground.data }], guard := none }) rfl (fun K hK => ?_) ?_
  · go_simp
    refine (AR.out u bu).mono ?_
    rintro e u2 ⟨v1, rfl, rd, b2⟩
    have RD : Hid (Fls.Reads u2 v1 NL) := rd
    have bu2 : Below W.heap.size W u2 := bu.trans (b2.mono bu.size)
    clear rd b2
    refine hK.out _ _ (X.on bu2) (fun _ => ?_)
    exact n1C X hQ AR hw hpos hle hpm t0 t1 t4 t8 t9 t10 t11 t12 t13 t14 t15 t16 t17 t18 t19 t20 t21 t22 u2 bu2 v1 RD
  exact AllReadyH.nil

set_option maxHeartbeats 1000000 in
theorem n0E {W : World} {g b q B : Nat} {VS lv : Value} {r c s ws st x1 x2 : Int} {n : Nat} {xs : List Value} {pm : Nat → Prop} {Q : Exit → Act → World → Prop} (X : Cx W g b q B VS lv r c s ws st x1 x2 n xs) (hQ : ∀ (a' : Act) (u : World), Fin pm W q B lv n xs u → Q .normal a' u) {x : Nat} {NL : List Nat} (AR : Hid (∀ u : World, Below W.heap.size W u → Calls Try.prog 25 #[gv r c s ws st, VS, nd x1 x2] u fun e w' => ∃ v', e = .returned v' ∧ Fls.Reads w' v' NL ∧ Below u.heap.size u w')) (hw : Hid (∀ z ∈ x :: NL, z < 18446744073709551616)) (hpos : 0 < NL.length) (hle : NL.length ≤ 4) (hpm : Hid (∀ m, Smm.Mn (x :: NL) m → pm m)) (t0 t1 t4 t8 t9 t10 t11 t12 t13 t14 t15 t16 t17 t18 t19 t20 t21 t22 : Value) (u : World) (bu : Below W.heap.size W u) : wpAnyH Try.prog .any OPS9 Q (Sx g b VS r c s ws st x1 x2) 8 #[false, true, false, true, true, true, false, false, false, false, false, false] ⟨#[t0, t1, .pointer (some ⟨g, 0, none⟩), .pointer (some ⟨g + 1, 0, none⟩), t4, .pointer (some ⟨q, 0, none⟩), .pointer (some ⟨b, 0, none⟩), .float .f64 x, t8, t9, t10, t11, t12, t13, t14, t15, t16, t17, t18, t19, t20, t21, t22, undef, .float .f64 x, undef, gv r c s ws st, VS, nd x1 x2, undef, undef, undef, undef, undef, undef], []⟩ u := by
  refine wpAnyH_ready (rs := [0, 2, 6]) (by kernel_rfl) (by simp) ?_
  refine AllReadyH.cons (o := { dst := some 23, op := Op.load 24 (Operand.tmp 5), type := 24, pos := "l11_fields.go:68", after := #[], guard := none }) rfl (fun K hK => ?_) ?_
  · have lq := X.list bu
    go_simp
    refine hK.out _ _ (X.on bu) (fun _ => ?_)
    exact n1E X hQ AR hw hpos hle hpm t0 t1 t4 t8 t9 t10 t11 t12 t13 t14 t15 t16 t17 t18 t19 t20 t21 t22 u bu 
  refine AllReadyH.cons (o := { dst := some 25, op := Op.buildSlice 24 1 #[(0, Operand.tmp 24)], type := 24, pos := "l11_fields.go:68", after := #[{ on := 1, ground := Ground.data }], guard := none }) rfl (fun K hK => ?_) ?_
  · have zu := bu.size
    have bu2 : Below W.heap.size W (u.alloc (Obj.cells #[.float .f64 x] 37)) := bu.alloc bu.size _
    go_simp
    refine hK.out _ _ (X.on bu2) (fun _ => ?_)
    exact n0B X hQ AR hw hpos hle hpm t0 t1 t4 t8 t9 t10 t11 t12 t13 t14 t15 t16 t17 t18 t19 t20 t21 t22 _ bu2 _ (lit_row u x zu)
  refine AllReadyH.cons (o := { dst := some 29, op := Op.call { callee := Callee.value (Operand.func 25), args := #[Operand.tmp 26, Operand.tmp 27, Operand.tmp 28], argTypes := #[26, 24, 45] }, type := 24, pos := "l11_fields.go:68", after := #[{ on := 3, ground := Ground.data }, { on := 4, ground := Ground.data }, { on := 5, ground := Ground.data }], guard := none }) rfl (fun K hK => ?_) ?_
  · go_simp
    refine (AR.out u bu).mono ?_
    rintro e u2 ⟨v1, rfl, rd, b2⟩
    have RD : Hid (Fls.Reads u2 v1 NL) := rd
    have bu2 : Below W.heap.size W u2 := bu.trans (b2.mono bu.size)
    clear rd b2
    refine hK.out _ _ (X.on bu2) (fun _ => ?_)
    exact n0C X hQ AR hw hpos hle hpm t0 t1 t4 t8 t9 t10 t11 t12 t13 t14 t15 t16 t17 t18 t19 t20 t21 t22 u2 bu2 v1 RD
  exact AllReadyH.nil

set_option maxHeartbeats 1000000 in
theorem m1N {W : World} {g b q B : Nat} {VS lv : Value} {r c s ws st x1 x2 : Int} {n : Nat} {xs : List Value} {pm : Nat → Prop} {Q : Exit → Act → World → Prop} (X : Cx W g b q B VS lv r c s ws st x1 x2 n xs) (hQ : ∀ (a' : Act) (u : World), Fin pm W q B lv n xs u → Q .normal a' u) (hpm : Hid (pm qn)) (t0 t1 t2 t3 t4 t6 t7 t8 t9 t10 t11 t12 t13 t14 t15 t16 t17 t18 t23 t24 t25 t26 t27 t28 t29 t30 t31 t32 t33 t34 : Value) (u : World) (bu : Below W.heap.size W u) (m : Nat) (hm : Hid (pm m)) (b2 : Nat) (hn : Hid (u.cell? ⟨b2, 0, none⟩ = some (.float .f64 m))) : wpAnyH Try.prog .any OPS8 Q (fun _ => True) 2 #[true, true, true, false, false] ⟨#[t0, t1, t2, t3, t4, .pointer (some ⟨q, 0, none⟩), t6, t7, t8, t9, t10, t11, t12, t13, t14, t15, t16, t17, t18, lv, .float .f64 m, .slice (some ⟨b2, 0, none⟩) 1 1, undef, t23, t24, t25, t26, t27, t28, t29, t30, t31, t32, t33, t34], []⟩ u := by
  refine wpAnyH_ready (rs := [3]) (by kernel_rfl) (by simp) ?_
  refine AllReadyH.cons (o := { dst := some 22, op := Op.call { callee := Callee.builtin Builtin.append, args := #[Operand.tmp 19, Operand.tmp 21], argTypes := #[24, 24] }, type := 24, pos := "l11_fields.go:65", after := #[{ on := 0, ground := Ground.data }, { on := 2, ground := Ground.data }, { on := 1, ground := Ground.chain }], guard := none }) rfl (fun K hK => ?_) ?_
  · obtain ⟨i0, hi0, hz0, hz1, hz2⟩ := info_parts Fls.Try.info37
    have zu := bu.size
    have zB := X.lB
    have zn := X.nle
    refine step_append_lies _ (by rfl) _ _ 24 (by rfl) B 37 i0 (.float .f64 0) 1 8 Try.underlying24 hi0 hz0 hz1 hz2 rfl (by decide) _ _ _ (by rfl) (X.row bu) ⟨b2, 0, none⟩ 1 1 [.float .f64 m] (by rfl) rfl (one_cell hn.out) (by intro u hu; simp at hu; subst hu; rfl) (by decide) (by unfold maxLen; omega) (by omega) (by omega) u.heap.size rfl ?_
    intro g2 cap3 w5 hown hgrow hat hlt5
    have HO : Hid (w5.ownsRow B 37 1 (.slice (some ⟨g2, 0, none⟩) (n + 1) cap3) (n + 1) (xs ++ [.float .f64 m])) := hown
    have HG : Hid (u.grownBy w5 lv.ownBlock) := hgrow
    obtain ⟨hsx, c5, r5⟩ := X.app bu hgrow
    have HS : Hid (Sx g b VS r c s ws st x1 x2 w5) := hsx
    clear hown hgrow hat hlt5 hsx
    refine hK.out _ _ trivial (fun _ => ?_)
    clear hK K
    refine wpAnyH_ready (rs := [4]) (by kernel_rfl) (by simp) ?_
    refine AllReadyH.cons (o := { dst := none, op := Op.store 24 (Operand.tmp 5) (Operand.tmp 22), type := 0, pos := "l11_fields.go:65", after := #[{ on := 3, ground := Ground.data }, { on := 3, ground := Ground.chain }, { on := 0, ground := Ground.phase }, { on := 1, ground := Ground.phase }, { on := 2, ground := Ground.phase }, { on := 3, ground := Ground.phase }], guard := none }) rfl (fun K hK => ?_) AllReadyH.nil
    go_simp
    refine hK.out _ _ trivial (fun _ => ?_)
    clear hK K
    refine wpAnyH_done (by kernel_rfl) ?_ _
    exact hQ _ _ ⟨m, g2, cap3, u, w5, hm.out, bu, HG.out, HO.out, rfl⟩
  exact AllReadyH.nil

set_option maxHeartbeats 1000000 in
theorem m0N {W : World} {g b q B : Nat} {VS lv : Value} {r c s ws st x1 x2 : Int} {n : Nat} {xs : List Value} {pm : Nat → Prop} {Q : Exit → Act → World → Prop} (X : Cx W g b q B VS lv r c s ws st x1 x2 n xs) (hQ : ∀ (a' : Act) (u : World), Fin pm W q B lv n xs u → Q .normal a' u) (hpm : Hid (pm qn)) (t0 t1 t2 t3 t4 t6 t7 t8 t9 t10 t11 t12 t13 t14 t15 t16 t17 t18 t23 t24 t25 t26 t27 t28 t29 t30 t31 t32 t33 t34 : Value) (u : World) (bu : Below W.heap.size W u) (m : Nat) (hm : Hid (pm m)) (b2 : Nat) (hn : Hid (u.cell? ⟨b2, 0, none⟩ = some (.float .f64 m))) : wpAnyH Try.prog .any OPS8 Q (fun _ => True) 3 #[false, true, true, false, false] ⟨#[t0, t1, t2, t3, t4, .pointer (some ⟨q, 0, none⟩), t6, t7, t8, t9, t10, t11, t12, t13, t14, t15, t16, t17, t18, undef, .float .f64 m, .slice (some ⟨b2, 0, none⟩) 1 1, undef, t23, t24, t25, t26, t27, t28, t29, t30, t31, t32, t33, t34], []⟩ u := by
  refine wpAnyH_ready (rs := [0]) (by kernel_rfl) (by simp) ?_
  refine AllReadyH.cons (o := { dst := some 19, op := Op.load 24 (Operand.tmp 5), type := 24, pos := "l11_fields.go:65", after := #[], guard := none }) rfl (fun K hK => ?_) ?_
  · have lq := X.list bu
    go_simp
    refine hK.out _ _ trivial (fun _ => ?_)
    exact m1N X hQ hpm t0 t1 t2 t3 t4 t6 t7 t8 t9 t10 t11 t12 t13 t14 t15 t16 t17 t18 t23 t24 t25 t26 t27 t28 t29 t30 t31 t32 t33 t34 u bu m hm b2 hn
  exact AllReadyH.nil

set_option maxHeartbeats 1000000 in
theorem m1C {W : World} {g b q B : Nat} {VS lv : Value} {r c s ws st x1 x2 : Int} {n : Nat} {xs : List Value} {pm : Nat → Prop} {Q : Exit → Act → World → Prop} (X : Cx W g b q B VS lv r c s ws st x1 x2 n xs) (hQ : ∀ (a' : Act) (u : World), Fin pm W q B lv n xs u → Q .normal a' u) (hpm : Hid (pm qn)) (t0 t1 t2 t3 t4 t6 t7 t8 t9 t10 t11 t12 t13 t14 t15 t16 t17 t18 t23 t24 t25 t26 t27 t28 t29 t30 t31 t32 t33 t34 : Value) (u : World) (bu : Below W.heap.size W u) (m : Nat) (hm : Hid (pm m)) : wpAnyH Try.prog .any OPS8 Q (fun _ => True) 3 #[true, true, false, false, false] ⟨#[t0, t1, t2, t3, t4, .pointer (some ⟨q, 0, none⟩), t6, t7, t8, t9, t10, t11, t12, t13, t14, t15, t16, t17, t18, lv, .float .f64 m, undef, undef, t23, t24, t25, t26, t27, t28, t29, t30, t31, t32, t33, t34], []⟩ u := by
  refine wpAnyH_ready (rs := [2]) (by kernel_rfl) (by simp) ?_
  refine AllReadyH.cons (o := { dst := some 21, op := Op.buildSlice 24 1 #[(0, Operand.tmp 20)], type := 24, pos := "l11_fields.go:65", after := #[{ on := 1, ground := Ground.data }], guard := none }) rfl (fun K hK => ?_) ?_
  · have bu2 : Below W.heap.size W (u.alloc (Obj.cells #[.float .f64 m] 37)) := bu.alloc bu.size _
    go_simp
    refine hK.out _ _ trivial (fun _ => ?_)
    exact m1N X hQ hpm t0 t1 t2 t3 t4 t6 t7 t8 t9 t10 t11 t12 t13 t14 t15 t16 t17 t18 t23 t24 t25 t26 t27 t28 t29 t30 t31 t32 t33 t34 _ bu2 m hm _ (by show World.cell? _ _ = _; simp [go_sem])
  exact AllReadyH.nil

set_option maxHeartbeats 1000000 in
theorem m0C {W : World} {g b q B : Nat} {VS lv : Value} {r c s ws st x1 x2 : Int} {n : Nat} {xs : List Value} {pm : Nat → Prop} {Q : Exit → Act → World → Prop} (X : Cx W g b q B VS lv r c s ws st x1 x2 n xs) (hQ : ∀ (a' : Act) (u : World), Fin pm W q B lv n xs u → Q .normal a' u) (hpm : Hid (pm qn)) (t0 t1 t2 t3 t4 t6 t7 t8 t9 t10 t11 t12 t13 t14 t15 t16 t17 t18 t23 t24 t25 t26 t27 t28 t29 t30 t31 t32 t33 t34 : Value) (u : World) (bu : Below W.heap.size W u) (m : Nat) (hm : Hid (pm m)) : wpAnyH Try.prog .any OPS8 Q (fun _ => True) 4 #[false, true, false, false, false] ⟨#[t0, t1, t2, t3, t4, .pointer (some ⟨q, 0, none⟩), t6, t7, t8, t9, t10, t11, t12, t13, t14, t15, t16, t17, t18, undef, .float .f64 m, undef, undef, t23, t24, t25, t26, t27, t28, t29, t30, t31, t32, t33, t34], []⟩ u := by
  refine wpAnyH_ready (rs := [0, 2]) (by kernel_rfl) (by simp) ?_
  refine AllReadyH.cons (o := { dst := some 19, op := Op.load 24 (Operand.tmp 5), type := 24, pos := "l11_fields.go:65", after := #[], guard := none }) rfl (fun K hK => ?_) ?_
  · have lq := X.list bu
    go_simp
    refine hK.out _ _ trivial (fun _ => ?_)
    exact m1C X hQ hpm t0 t1 t2 t3 t4 t6 t7 t8 t9 t10 t11 t12 t13 t14 t15 t16 t17 t18 t23 t24 t25 t26 t27 t28 t29 t30 t31 t32 t33 t34 u bu m hm
  refine AllReadyH.cons (o := { dst := some 21, op := Op.buildSlice 24 1 #[(0, Operand.tmp 20)], type := 24, pos := "l11_fields.go:65", after := #[{ on := 1, ground := Ground.data }], guard := none }) rfl (fun K hK => ?_) ?_
  · have bu2 : Below W.heap.size W (u.alloc (Obj.cells #[.float .f64 m] 37)) := bu.alloc bu.size _
    go_simp
    refine hK.out _ _ trivial (fun _ => ?_)
    exact m0N X hQ hpm t0 t1 t2 t3 t4 t6 t7 t8 t9 t10 t11 t12 t13 t14 t15 t16 t17 t18 t23 t24 t25 t26 t27 t28 t29 t30 t31 t32 t33 t34 _ bu2 m hm _ (by show World.cell? _ _ = _; simp [go_sem])
  exact AllReadyH.nil

set_option maxHeartbeats 1000000 in
theorem m1E {W : World} {g b q B : Nat} {VS lv : Value} {r c s ws st x1 x2 : Int} {n : Nat} {xs : List Value} {pm : Nat → Prop} {Q : Exit → Act → World → Prop} (X : Cx W g b q B VS lv r c s ws st x1 x2 n xs) (hQ : ∀ (a' : Act) (u : World), Fin pm W q B lv n xs u → Q .normal a' u) (hpm : Hid (pm qn)) (t0 t1 t2 t3 t4 t6 t7 t8 t9 t10 t11 t12 t13 t14 t15 t16 t17 t18 t23 t24 t25 t26 t27 t28 t29 t30 t31 t32 t33 t34 : Value) (u : World) (bu : Below W.heap.size W u) : wpAnyH Try.prog .any OPS8 Q (fun _ => True) 4 #[true, false, false, false, false] ⟨#[t0, t1, t2, t3, t4, .pointer (some ⟨q, 0, none⟩), t6, t7, t8, t9, t10, t11, t12, t13, t14, t15, t16, t17, t18, lv, undef, undef, undef, t23, t24, t25, t26, t27, t28, t29, t30, t31, t32, t33, t34], []⟩ u := by
  refine wpAnyH_ready (rs := [1]) (by kernel_rfl) (by simp) ?_
  refine AllReadyH.cons (o := { dst := some 20, op := Op.call { callee := Callee.value (Operand.func 23), args := #[], argTypes := #[] }, type := 37, pos := "l11_fields.go:65", after := #[], guard := none }) rfl (fun K hK => ?_) ?_
  · go_simp
    refine (Flt.nan_any u).mono ?_
    rintro e u2 ⟨rfl, hu2⟩
    subst hu2
    refine hK.out _ _ trivial (fun _ => ?_)
    exact m1C X hQ hpm t0 t1 t2 t3 t4 t6 t7 t8 t9 t10 t11 t12 t13 t14 t15 t16 t17 t18 t23 t24 t25 t26 t27 t28 t29 t30 t31 t32 t33 t34 _ bu qn hpm
  exact AllReadyH.nil

set_option maxHeartbeats 1000000 in
theorem m0E {W : World} {g b q B : Nat} {VS lv : Value} {r c s ws st x1 x2 : Int} {n : Nat} {xs : List Value} {pm : Nat → Prop} {Q : Exit → Act → World → Prop} (X : Cx W g b q B VS lv r c s ws st x1 x2 n xs) (hQ : ∀ (a' : Act) (u : World), Fin pm W q B lv n xs u → Q .normal a' u) (hpm : Hid (pm qn)) (t0 t1 t2 t3 t4 t6 t7 t8 t9 t10 t11 t12 t13 t14 t15 t16 t17 t18 t23 t24 t25 t26 t27 t28 t29 t30 t31 t32 t33 t34 : Value) (u : World) (bu : Below W.heap.size W u) : wpAnyH Try.prog .any OPS8 Q (fun _ => True) 5 #[false, false, false, false, false] ⟨#[t0, t1, t2, t3, t4, .pointer (some ⟨q, 0, none⟩), t6, t7, t8, t9, t10, t11, t12, t13, t14, t15, t16, t17, t18, undef, undef, undef, undef, t23, t24, t25, t26, t27, t28, t29, t30, t31, t32, t33, t34], []⟩ u := by
  refine wpAnyH_ready (rs := [0, 1]) (by kernel_rfl) (by simp) ?_
  refine AllReadyH.cons (o := { dst := some 19, op := Op.load 24 (Operand.tmp 5), type := 24, pos := "l11_fields.go:65", after := #[], guard := none }) rfl (fun K hK => ?_) ?_
  · have lq := X.list bu
    go_simp
    refine hK.out _ _ trivial (fun _ => ?_)
    exact m1E X hQ hpm t0 t1 t2 t3 t4 t6 t7 t8 t9 t10 t11 t12 t13 t14 t15 t16 t17 t18 t23 t24 t25 t26 t27 t28 t29 t30 t31 t32 t33 t34 u bu 
  refine AllReadyH.cons (o := { dst := some 20, op := Op.call { callee := Callee.value (Operand.func 23), args := #[], argTypes := #[] }, type := 37, pos := "l11_fields.go:65", after := #[], guard := none }) rfl (fun K hK => ?_) ?_
  · go_simp
    refine (Flt.nan_any u).mono ?_
    rintro e u2 ⟨rfl, hu2⟩
    subst hu2
    refine hK.out _ _ trivial (fun _ => ?_)
    exact m0C X hQ hpm t0 t1 t2 t3 t4 t6 t7 t8 t9 t10 t11 t12 t13 t14 t15 t16 t17 t18 t23 t24 t25 t26 t27 t28 t29 t30 t31 t32 t33 t34 _ bu qn hpm
  exact AllReadyH.nil

end Go.Proofs.Ytplichonohoacaa.Gd
