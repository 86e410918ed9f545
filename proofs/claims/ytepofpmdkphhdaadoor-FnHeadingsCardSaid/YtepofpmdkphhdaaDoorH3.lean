/- A heading drawn of a code: the region by its states (3 draws done). -/
import Derived.Test.YtepofpmdkphhdaaDoorH4
namespace Go.Proofs.YtepofpmdkphhdaaDoor.Hd
open Go.ChangeShapes Go.WideShapes Go.ChangeAt Go.RowKit
open Go.Proofs.YtepofpmdkphhdaaDoor.Rd Mk Fig Head
set_option maxHeartbeats 2000000 in
theorem st31111 {r : Nat} {W : World} {Q : Exit → Act → World → Prop} (hP : ∀ c (a : Act) d (v : Value) w, Q (.panic c) (a.put d v) w → Q (.panic c) a w) (hQ : ∀ (bx : Nat) (u6 u7 u8 u9 u10 u11 u12 u13 u14 u15 u16 u17 u18 u19 u20 u21 u22 u23 u24 u25 u26 u27 u28 u29 u30 u31 u32 : Value) (w : World), Fin r W bx w → Q .normal ⟨#[.pointer (some ⟨r, 0, none⟩), undef, .pointer (some ⟨W.heap.size, 0, none⟩), .pointer (some ⟨bx, 0, none⟩), undef, undef, u6, u7, u8, u9, u10, u11, u12, u13, u14, u15, u16, u17, u18, u19, u20, u21, u22, u23, u24, u25, u26, u27, u28, u29, u30, u31, u32, undef, undef, undef, undef, undef, undef, undef, undef, undef, undef], []⟩ w) {z1 : Int} {q1 : ByteArray} (h1 : H1 z1 q1) {z2 : Int} {q2 : ByteArray} (h2 : H2 z2 q2) {z3 : Int} (h3 : 0 ≤ z3 ∧ z3 < 100) (b1 : Nat) (b2 : Nat) (b3 : Nat) (b4 : Nat) (w : World) (hS : Sn r W (some (b1)) (some (b2)) (some (b3)) (some (b4)) w) : wpAnyH Tryd.prog .any OPS Q (Sn r W (some (b1)) (some (b2)) (some (b3)) (some (b4))) 10 #[true, true, true, true, true, true, true, true, true, true, true, true, true, true, false, false, false, true, false, false, true, false, true, false, true, false, false, true, false] ⟨#[.pointer (some ⟨r, 0, none⟩), undef, .pointer (some ⟨W.heap.size, 0, none⟩), .pointer (some ⟨b4, 0, none⟩), undef, undef, .slice (some ⟨b1, 0, none⟩) 5 5, .pointer (some ⟨r, 0, none⟩), .int .i64 z1, .pointer (some ⟨b1, z1.toNat, none⟩), .string q1, .slice (some ⟨b2, 0, none⟩) 3 3, .pointer (some ⟨r, 0, none⟩), .int .i64 z2, .pointer (some ⟨b2, z2.toNat, none⟩), .string q2, .pointer (some ⟨r, 0, none⟩), .int .i64 z3, .slice (some ⟨b3, 0, none⟩) 3 3, .pointer (some ⟨r, 0, none⟩), undef, undef, undef, .pointer (some ⟨r, 0, none⟩), undef, undef, .pointer (some ⟨r, 0, none⟩), undef, .pointer (some ⟨r, 0, none⟩), undef, .pointer (some ⟨r, 0, none⟩), undef, undef, undef, undef, undef, undef, undef, undef, undef, undef, undef, undef], []⟩ w := by
  refine wpAnyH_ready (rs := [14]) (by kernel_rfl) (by simp) ?_
  refine AllReadyH.cons (o := { dst := some 20, op := Go.Op.call { callee := Go.Callee.value (Go.Operand.func 13), args := #[Go.Operand.tmp 19, Go.Operand.const (Go.Value.int Go.IntKind.i64 3)], argTypes := #[33, 3] }, type := 3, pos := "l04_bulletins.go:338", after := #[{ on := 13, ground := Go.Ground.data }, { on := 11, ground := Go.Ground.chain }], guard := none }) rfl (fun K hK => ?_) ?_
  · have rdw := hS.rd
    go_simp
    go_at_call 13
    refine (below_all r _ rdw 3 (by omega) (by omega)).mono ?_
    rintro e w1 ⟨⟨z4, hz, rfl⟩, k1, t1⟩
    obtain ⟨q4, hq, hcq⟩ := centre_of z4 hz.1 hz.2
    have h4 : H4 z4 q4 := ⟨hz, hq, hcq⟩
    clear hq hcq hz
    have hS2 := hS.turn t1 k1
    clear k1 t1 hS rdw
    go_wp2_with fail
    refine hK.out _ _ (by first | exact hS2 | exact hS2.less1 | exact hS2.less2 | exact hS2.less3 | exact hS2.less4) (fun _ => ?_)
    clear hK K
    refine wpAnyH_take (i := 15) (oi := { dst := some 21, op := Go.Op.indexAddr 37 (Go.Operand.tmp 18) (Go.Operand.tmp 20), type := 0, pos := "l04_bulletins.go:338", after := #[{ on := 12, ground := Go.Ground.data }, { on := 14, ground := Go.Ground.data }], guard := none }) (v := (.pointer (some ⟨b3, z4.toNat, none⟩))) rfl (by kernel_rfl) (by kernel_rfl) (by kernel_rfl) (fun c a w h => hP c a _ _ w h) (Or.inl ⟨by rfl, ?_⟩) (by assumption) ?_
    · intro w hSw; have g1 := h4.1.1; have g2 := h4.1.2; go_simp
    (try simp only [Act.put, List.setIfInBounds_toArray, List.set_cons_zero, List.set_cons_succ])
    refine wpAnyH_take (i := 16) (oi := { dst := some 22, op := Go.Op.load 9 (Go.Operand.tmp 21), type := 9, pos := "l04_bulletins.go:338", after := #[{ on := 15, ground := Go.Ground.data }], guard := none }) (v := (.string q4)) rfl (by kernel_rfl) (by kernel_rfl) (by kernel_rfl) (fun c a w h => hP c a _ _ w h) (Or.inl ⟨by rfl, ?_⟩) (by assumption) ?_
    · intro w hSw; have cc := blk_cell (hSw.l3 _ rfl).on h4.2.2; go_simp
    (try simp only [Act.put, List.setIfInBounds_toArray, List.set_cons_zero, List.set_cons_succ])
    exact st41111 hP hQ h1 h2 h3 h4 (b1) (b2) (b3) (b4) _ hS2
  exact AllReadyH.nil
set_option maxHeartbeats 2000000 in
theorem st30111 {r : Nat} {W : World} {Q : Exit → Act → World → Prop} (hP : ∀ c (a : Act) d (v : Value) w, Q (.panic c) (a.put d v) w → Q (.panic c) a w) (hQ : ∀ (bx : Nat) (u6 u7 u8 u9 u10 u11 u12 u13 u14 u15 u16 u17 u18 u19 u20 u21 u22 u23 u24 u25 u26 u27 u28 u29 u30 u31 u32 : Value) (w : World), Fin r W bx w → Q .normal ⟨#[.pointer (some ⟨r, 0, none⟩), undef, .pointer (some ⟨W.heap.size, 0, none⟩), .pointer (some ⟨bx, 0, none⟩), undef, undef, u6, u7, u8, u9, u10, u11, u12, u13, u14, u15, u16, u17, u18, u19, u20, u21, u22, u23, u24, u25, u26, u27, u28, u29, u30, u31, u32, undef, undef, undef, undef, undef, undef, undef, undef, undef, undef], []⟩ w) {z1 : Int} {q1 : ByteArray} (h1 : H1 z1 q1) {z2 : Int} {q2 : ByteArray} (h2 : H2 z2 q2) {z3 : Int} (h3 : 0 ≤ z3 ∧ z3 < 100) (b2 : Nat) (b3 : Nat) (b4 : Nat) (w : World) (hS : Sn r W none (some (b2)) (some (b3)) (some (b4)) w) : wpAnyH Tryd.prog .any OPS Q (Sn r W none (some (b2)) (some (b3)) (some (b4))) 13 #[false, true, true, false, false, true, true, true, true, true, true, true, true, true, false, false, false, true, false, false, true, false, true, false, true, false, false, true, false] ⟨#[.pointer (some ⟨r, 0, none⟩), undef, .pointer (some ⟨W.heap.size, 0, none⟩), .pointer (some ⟨b4, 0, none⟩), undef, undef, undef, .pointer (some ⟨r, 0, none⟩), .int .i64 z1, undef, undef, .slice (some ⟨b2, 0, none⟩) 3 3, .pointer (some ⟨r, 0, none⟩), .int .i64 z2, .pointer (some ⟨b2, z2.toNat, none⟩), .string q2, .pointer (some ⟨r, 0, none⟩), .int .i64 z3, .slice (some ⟨b3, 0, none⟩) 3 3, .pointer (some ⟨r, 0, none⟩), undef, undef, undef, .pointer (some ⟨r, 0, none⟩), undef, undef, .pointer (some ⟨r, 0, none⟩), undef, .pointer (some ⟨r, 0, none⟩), undef, .pointer (some ⟨r, 0, none⟩), undef, undef, undef, undef, undef, undef, undef, undef, undef, undef, undef, undef], []⟩ w := by
  refine wpAnyH_ready (rs := [0, 14]) (by kernel_rfl) (by simp) ?_
  refine AllReadyH.cons (o := { dst := some 6, op := Go.Op.buildSlice 37 5 #[(0, Go.Operand.const (Go.Value.string { data := #[83, 77] })), (1, Go.Operand.const (Go.Value.string { data := #[83, 73] })), (2, Go.Operand.const (Go.Value.string { data := #[85, 83] })), (3, Go.Operand.const (Go.Value.string { data := #[70, 84] })), (4, Go.Operand.const (Go.Value.string { data := #[87, 87] }))], type := 37, pos := "l04_bulletins.go:338", after := #[], guard := none }) rfl (fun K hK => ?_) ?_
  · go_simp
    have hS2 : Sn r W (some (w.heap.size)) (some (b2)) (some (b3)) (some (b4)) (w.alloc oK) := hS.lit1
    refine hK.out _ _ (by first | exact hS2 | exact hS2.less1 | exact hS2.less2 | exact hS2.less3 | exact hS2.less4) (fun _ => ?_)
    clear hK K
    refine wpAnyH_weak (S1 := Sn r W (some (w.heap.size)) (some (b2)) (some (b3)) (some (b4))) (fun _ h => h.less1) _ _ _ _ ?_
    refine wpAnyH_take (i := 3) (oi := { dst := some 9, op := Go.Op.indexAddr 37 (Go.Operand.tmp 6) (Go.Operand.tmp 8), type := 0, pos := "l04_bulletins.go:338", after := #[{ on := 0, ground := Go.Ground.data }, { on := 2, ground := Go.Ground.data }], guard := none }) (v := (.pointer (some ⟨w.heap.size, z1.toNat, none⟩))) rfl (by kernel_rfl) (by kernel_rfl) (by kernel_rfl) (fun c a w h => hP c a _ _ w h) (Or.inl ⟨by rfl, ?_⟩) (by assumption) ?_
    · intro w hSw; have g1 := h1.1.1; have g2 := h1.1.2; go_simp
    (try simp only [Act.put, List.setIfInBounds_toArray, List.set_cons_zero, List.set_cons_succ])
    refine wpAnyH_take (i := 4) (oi := { dst := some 10, op := Go.Op.load 9 (Go.Operand.tmp 9), type := 9, pos := "l04_bulletins.go:338", after := #[{ on := 3, ground := Go.Ground.data }], guard := none }) (v := (.string q1)) rfl (by kernel_rfl) (by kernel_rfl) (by kernel_rfl) (fun c a w h => hP c a _ _ w h) (Or.inl ⟨by rfl, ?_⟩) (by assumption) ?_
    · intro w hSw; have cc := blk_cell (hSw.l1 _ rfl).on h1.2.2; go_simp
    (try simp only [Act.put, List.setIfInBounds_toArray, List.set_cons_zero, List.set_cons_succ])
    exact st31111 hP hQ h1 h2 h3 (w.heap.size) (b2) (b3) (b4) _ hS2
  refine AllReadyH.cons (o := { dst := some 20, op := Go.Op.call { callee := Go.Callee.value (Go.Operand.func 13), args := #[Go.Operand.tmp 19, Go.Operand.const (Go.Value.int Go.IntKind.i64 3)], argTypes := #[33, 3] }, type := 3, pos := "l04_bulletins.go:338", after := #[{ on := 13, ground := Go.Ground.data }, { on := 11, ground := Go.Ground.chain }], guard := none }) rfl (fun K hK => ?_) ?_
  · have rdw := hS.rd
    go_simp
    go_at_call 13
    refine (below_all r _ rdw 3 (by omega) (by omega)).mono ?_
    rintro e w1 ⟨⟨z4, hz, rfl⟩, k1, t1⟩
    obtain ⟨q4, hq, hcq⟩ := centre_of z4 hz.1 hz.2
    have h4 : H4 z4 q4 := ⟨hz, hq, hcq⟩
    clear hq hcq hz
    have hS2 := hS.turn t1 k1
    clear k1 t1 hS rdw
    go_wp2_with fail
    refine hK.out _ _ (by first | exact hS2 | exact hS2.less1 | exact hS2.less2 | exact hS2.less3 | exact hS2.less4) (fun _ => ?_)
    clear hK K
    refine wpAnyH_take (i := 15) (oi := { dst := some 21, op := Go.Op.indexAddr 37 (Go.Operand.tmp 18) (Go.Operand.tmp 20), type := 0, pos := "l04_bulletins.go:338", after := #[{ on := 12, ground := Go.Ground.data }, { on := 14, ground := Go.Ground.data }], guard := none }) (v := (.pointer (some ⟨b3, z4.toNat, none⟩))) rfl (by kernel_rfl) (by kernel_rfl) (by kernel_rfl) (fun c a w h => hP c a _ _ w h) (Or.inl ⟨by rfl, ?_⟩) (by assumption) ?_
    · intro w hSw; have g1 := h4.1.1; have g2 := h4.1.2; go_simp
    (try simp only [Act.put, List.setIfInBounds_toArray, List.set_cons_zero, List.set_cons_succ])
    refine wpAnyH_take (i := 16) (oi := { dst := some 22, op := Go.Op.load 9 (Go.Operand.tmp 21), type := 9, pos := "l04_bulletins.go:338", after := #[{ on := 15, ground := Go.Ground.data }], guard := none }) (v := (.string q4)) rfl (by kernel_rfl) (by kernel_rfl) (by kernel_rfl) (fun c a w h => hP c a _ _ w h) (Or.inl ⟨by rfl, ?_⟩) (by assumption) ?_
    · intro w hSw; have cc := blk_cell (hSw.l3 _ rfl).on h4.2.2; go_simp
    (try simp only [Act.put, List.setIfInBounds_toArray, List.set_cons_zero, List.set_cons_succ])
    exact st40111 hP hQ h1 h2 h3 h4 (b2) (b3) (b4) _ hS2
  exact AllReadyH.nil
set_option maxHeartbeats 2000000 in
theorem st31011 {r : Nat} {W : World} {Q : Exit → Act → World → Prop} (hP : ∀ c (a : Act) d (v : Value) w, Q (.panic c) (a.put d v) w → Q (.panic c) a w) (hQ : ∀ (bx : Nat) (u6 u7 u8 u9 u10 u11 u12 u13 u14 u15 u16 u17 u18 u19 u20 u21 u22 u23 u24 u25 u26 u27 u28 u29 u30 u31 u32 : Value) (w : World), Fin r W bx w → Q .normal ⟨#[.pointer (some ⟨r, 0, none⟩), undef, .pointer (some ⟨W.heap.size, 0, none⟩), .pointer (some ⟨bx, 0, none⟩), undef, undef, u6, u7, u8, u9, u10, u11, u12, u13, u14, u15, u16, u17, u18, u19, u20, u21, u22, u23, u24, u25, u26, u27, u28, u29, u30, u31, u32, undef, undef, undef, undef, undef, undef, undef, undef, undef, undef], []⟩ w) {z1 : Int} {q1 : ByteArray} (h1 : H1 z1 q1) {z2 : Int} {q2 : ByteArray} (h2 : H2 z2 q2) {z3 : Int} (h3 : 0 ≤ z3 ∧ z3 < 100) (b1 : Nat) (b3 : Nat) (b4 : Nat) (w : World) (hS : Sn r W (some (b1)) none (some (b3)) (some (b4)) w) : wpAnyH Tryd.prog .any OPS Q (Sn r W (some (b1)) none (some (b3)) (some (b4))) 13 #[true, true, true, true, true, false, true, true, false, false, true, true, true, true, false, false, false, true, false, false, true, false, true, false, true, false, false, true, false] ⟨#[.pointer (some ⟨r, 0, none⟩), undef, .pointer (some ⟨W.heap.size, 0, none⟩), .pointer (some ⟨b4, 0, none⟩), undef, undef, .slice (some ⟨b1, 0, none⟩) 5 5, .pointer (some ⟨r, 0, none⟩), .int .i64 z1, .pointer (some ⟨b1, z1.toNat, none⟩), .string q1, undef, .pointer (some ⟨r, 0, none⟩), .int .i64 z2, undef, undef, .pointer (some ⟨r, 0, none⟩), .int .i64 z3, .slice (some ⟨b3, 0, none⟩) 3 3, .pointer (some ⟨r, 0, none⟩), undef, undef, undef, .pointer (some ⟨r, 0, none⟩), undef, undef, .pointer (some ⟨r, 0, none⟩), undef, .pointer (some ⟨r, 0, none⟩), undef, .pointer (some ⟨r, 0, none⟩), undef, undef, undef, undef, undef, undef, undef, undef, undef, undef, undef, undef], []⟩ w := by
  refine wpAnyH_ready (rs := [5, 14]) (by kernel_rfl) (by simp) ?_
  refine AllReadyH.cons (o := { dst := some 11, op := Go.Op.buildSlice 37 3 #[(0, Go.Operand.const (Go.Value.string { data := #[68, 76] })), (1, Go.Operand.const (Go.Value.string { data := #[78, 79] })), (2, Go.Operand.const (Go.Value.string { data := #[88, 88] }))], type := 37, pos := "l04_bulletins.go:338", after := #[], guard := none }) rfl (fun K hK => ?_) ?_
  · go_simp
    have hS2 : Sn r W (some (b1)) (some (w.heap.size)) (some (b3)) (some (b4)) (w.alloc oA) := hS.lit2
    refine hK.out _ _ (by first | exact hS2 | exact hS2.less1 | exact hS2.less2 | exact hS2.less3 | exact hS2.less4) (fun _ => ?_)
    clear hK K
    refine wpAnyH_weak (S1 := Sn r W (some (b1)) (some (w.heap.size)) (some (b3)) (some (b4))) (fun _ h => h.less2) _ _ _ _ ?_
    refine wpAnyH_take (i := 8) (oi := { dst := some 14, op := Go.Op.indexAddr 37 (Go.Operand.tmp 11) (Go.Operand.tmp 13), type := 0, pos := "l04_bulletins.go:338", after := #[{ on := 5, ground := Go.Ground.data }, { on := 7, ground := Go.Ground.data }], guard := none }) (v := (.pointer (some ⟨w.heap.size, z2.toNat, none⟩))) rfl (by kernel_rfl) (by kernel_rfl) (by kernel_rfl) (fun c a w h => hP c a _ _ w h) (Or.inl ⟨by rfl, ?_⟩) (by assumption) ?_
    · intro w hSw; have g1 := h2.1.1; have g2 := h2.1.2; go_simp
    (try simp only [Act.put, List.setIfInBounds_toArray, List.set_cons_zero, List.set_cons_succ])
    refine wpAnyH_take (i := 9) (oi := { dst := some 15, op := Go.Op.load 9 (Go.Operand.tmp 14), type := 9, pos := "l04_bulletins.go:338", after := #[{ on := 8, ground := Go.Ground.data }], guard := none }) (v := (.string q2)) rfl (by kernel_rfl) (by kernel_rfl) (by kernel_rfl) (fun c a w h => hP c a _ _ w h) (Or.inl ⟨by rfl, ?_⟩) (by assumption) ?_
    · intro w hSw; have cc := blk_cell (hSw.l2 _ rfl).on h2.2.2; go_simp
    (try simp only [Act.put, List.setIfInBounds_toArray, List.set_cons_zero, List.set_cons_succ])
    exact st31111 hP hQ h1 h2 h3 (b1) (w.heap.size) (b3) (b4) _ hS2
  refine AllReadyH.cons (o := { dst := some 20, op := Go.Op.call { callee := Go.Callee.value (Go.Operand.func 13), args := #[Go.Operand.tmp 19, Go.Operand.const (Go.Value.int Go.IntKind.i64 3)], argTypes := #[33, 3] }, type := 3, pos := "l04_bulletins.go:338", after := #[{ on := 13, ground := Go.Ground.data }, { on := 11, ground := Go.Ground.chain }], guard := none }) rfl (fun K hK => ?_) ?_
  · have rdw := hS.rd
    go_simp
    go_at_call 13
    refine (below_all r _ rdw 3 (by omega) (by omega)).mono ?_
    rintro e w1 ⟨⟨z4, hz, rfl⟩, k1, t1⟩
    obtain ⟨q4, hq, hcq⟩ := centre_of z4 hz.1 hz.2
    have h4 : H4 z4 q4 := ⟨hz, hq, hcq⟩
    clear hq hcq hz
    have hS2 := hS.turn t1 k1
    clear k1 t1 hS rdw
    go_wp2_with fail
    refine hK.out _ _ (by first | exact hS2 | exact hS2.less1 | exact hS2.less2 | exact hS2.less3 | exact hS2.less4) (fun _ => ?_)
    clear hK K
    refine wpAnyH_take (i := 15) (oi := { dst := some 21, op := Go.Op.indexAddr 37 (Go.Operand.tmp 18) (Go.Operand.tmp 20), type := 0, pos := "l04_bulletins.go:338", after := #[{ on := 12, ground := Go.Ground.data }, { on := 14, ground := Go.Ground.data }], guard := none }) (v := (.pointer (some ⟨b3, z4.toNat, none⟩))) rfl (by kernel_rfl) (by kernel_rfl) (by kernel_rfl) (fun c a w h => hP c a _ _ w h) (Or.inl ⟨by rfl, ?_⟩) (by assumption) ?_
    · intro w hSw; have g1 := h4.1.1; have g2 := h4.1.2; go_simp
    (try simp only [Act.put, List.setIfInBounds_toArray, List.set_cons_zero, List.set_cons_succ])
    refine wpAnyH_take (i := 16) (oi := { dst := some 22, op := Go.Op.load 9 (Go.Operand.tmp 21), type := 9, pos := "l04_bulletins.go:338", after := #[{ on := 15, ground := Go.Ground.data }], guard := none }) (v := (.string q4)) rfl (by kernel_rfl) (by kernel_rfl) (by kernel_rfl) (fun c a w h => hP c a _ _ w h) (Or.inl ⟨by rfl, ?_⟩) (by assumption) ?_
    · intro w hSw; have cc := blk_cell (hSw.l3 _ rfl).on h4.2.2; go_simp
    (try simp only [Act.put, List.setIfInBounds_toArray, List.set_cons_zero, List.set_cons_succ])
    exact st41011 hP hQ h1 h2 h3 h4 (b1) (b3) (b4) _ hS2
  exact AllReadyH.nil
set_option maxHeartbeats 2000000 in
theorem st31101 {r : Nat} {W : World} {Q : Exit → Act → World → Prop} (hP : ∀ c (a : Act) d (v : Value) w, Q (.panic c) (a.put d v) w → Q (.panic c) a w) (hQ : ∀ (bx : Nat) (u6 u7 u8 u9 u10 u11 u12 u13 u14 u15 u16 u17 u18 u19 u20 u21 u22 u23 u24 u25 u26 u27 u28 u29 u30 u31 u32 : Value) (w : World), Fin r W bx w → Q .normal ⟨#[.pointer (some ⟨r, 0, none⟩), undef, .pointer (some ⟨W.heap.size, 0, none⟩), .pointer (some ⟨bx, 0, none⟩), undef, undef, u6, u7, u8, u9, u10, u11, u12, u13, u14, u15, u16, u17, u18, u19, u20, u21, u22, u23, u24, u25, u26, u27, u28, u29, u30, u31, u32, undef, undef, undef, undef, undef, undef, undef, undef, undef, undef], []⟩ w) {z1 : Int} {q1 : ByteArray} (h1 : H1 z1 q1) {z2 : Int} {q2 : ByteArray} (h2 : H2 z2 q2) {z3 : Int} (h3 : 0 ≤ z3 ∧ z3 < 100) (b1 : Nat) (b2 : Nat) (b4 : Nat) (w : World) (hS : Sn r W (some (b1)) (some (b2)) none (some (b4)) w) : wpAnyH Tryd.prog .any OPS Q (Sn r W (some (b1)) (some (b2)) none (some (b4))) 11 #[true, true, true, true, true, true, true, true, true, true, true, true, false, true, false, false, false, true, false, false, true, false, true, false, true, false, false, true, false] ⟨#[.pointer (some ⟨r, 0, none⟩), undef, .pointer (some ⟨W.heap.size, 0, none⟩), .pointer (some ⟨b4, 0, none⟩), undef, undef, .slice (some ⟨b1, 0, none⟩) 5 5, .pointer (some ⟨r, 0, none⟩), .int .i64 z1, .pointer (some ⟨b1, z1.toNat, none⟩), .string q1, .slice (some ⟨b2, 0, none⟩) 3 3, .pointer (some ⟨r, 0, none⟩), .int .i64 z2, .pointer (some ⟨b2, z2.toNat, none⟩), .string q2, .pointer (some ⟨r, 0, none⟩), .int .i64 z3, undef, .pointer (some ⟨r, 0, none⟩), undef, undef, undef, .pointer (some ⟨r, 0, none⟩), undef, undef, .pointer (some ⟨r, 0, none⟩), undef, .pointer (some ⟨r, 0, none⟩), undef, .pointer (some ⟨r, 0, none⟩), undef, undef, undef, undef, undef, undef, undef, undef, undef, undef, undef, undef], []⟩ w := by
  refine wpAnyH_ready (rs := [12, 14]) (by kernel_rfl) (by simp) ?_
  refine AllReadyH.cons (o := { dst := some 18, op := Go.Op.buildSlice 37 3 #[(0, Go.Operand.const (Go.Value.string { data := #[65, 77, 77, 67] })), (1, Go.Operand.const (Go.Value.string { data := #[69, 78, 77, 73] })), (2, Go.Operand.const (Go.Value.string { data := #[75, 49, 65, 65] }))], type := 37, pos := "l04_bulletins.go:338", after := #[], guard := none }) rfl (fun K hK => ?_) ?_
  · go_simp
    have hS2 : Sn r W (some (b1)) (some (b2)) (some (w.heap.size)) (some (b4)) (w.alloc oC) := hS.lit3
    refine hK.out _ _ (by first | exact hS2 | exact hS2.less1 | exact hS2.less2 | exact hS2.less3 | exact hS2.less4) (fun _ => ?_)
    clear hK K
    refine wpAnyH_weak (S1 := Sn r W (some (b1)) (some (b2)) (some (w.heap.size)) (some (b4))) (fun _ h => h.less3) _ _ _ _ ?_
    exact st31111 hP hQ h1 h2 h3 (b1) (b2) (w.heap.size) (b4) _ hS2
  refine AllReadyH.cons (o := { dst := some 20, op := Go.Op.call { callee := Go.Callee.value (Go.Operand.func 13), args := #[Go.Operand.tmp 19, Go.Operand.const (Go.Value.int Go.IntKind.i64 3)], argTypes := #[33, 3] }, type := 3, pos := "l04_bulletins.go:338", after := #[{ on := 13, ground := Go.Ground.data }, { on := 11, ground := Go.Ground.chain }], guard := none }) rfl (fun K hK => ?_) ?_
  · have rdw := hS.rd
    go_simp
    go_at_call 13
    refine (below_all r _ rdw 3 (by omega) (by omega)).mono ?_
    rintro e w1 ⟨⟨z4, hz, rfl⟩, k1, t1⟩
    obtain ⟨q4, hq, hcq⟩ := centre_of z4 hz.1 hz.2
    have h4 : H4 z4 q4 := ⟨hz, hq, hcq⟩
    clear hq hcq hz
    have hS2 := hS.turn t1 k1
    clear k1 t1 hS rdw
    go_wp2_with fail
    refine hK.out _ _ (by first | exact hS2 | exact hS2.less1 | exact hS2.less2 | exact hS2.less3 | exact hS2.less4) (fun _ => ?_)
    clear hK K
    exact st41101 hP hQ h1 h2 h3 h4 (b1) (b2) (b4) _ hS2
  exact AllReadyH.nil
set_option maxHeartbeats 2000000 in
theorem st31110 {r : Nat} {W : World} {Q : Exit → Act → World → Prop} (hP : ∀ c (a : Act) d (v : Value) w, Q (.panic c) (a.put d v) w → Q (.panic c) a w) (hQ : ∀ (bx : Nat) (u6 u7 u8 u9 u10 u11 u12 u13 u14 u15 u16 u17 u18 u19 u20 u21 u22 u23 u24 u25 u26 u27 u28 u29 u30 u31 u32 : Value) (w : World), Fin r W bx w → Q .normal ⟨#[.pointer (some ⟨r, 0, none⟩), undef, .pointer (some ⟨W.heap.size, 0, none⟩), .pointer (some ⟨bx, 0, none⟩), undef, undef, u6, u7, u8, u9, u10, u11, u12, u13, u14, u15, u16, u17, u18, u19, u20, u21, u22, u23, u24, u25, u26, u27, u28, u29, u30, u31, u32, undef, undef, undef, undef, undef, undef, undef, undef, undef, undef], []⟩ w) {z1 : Int} {q1 : ByteArray} (h1 : H1 z1 q1) {z2 : Int} {q2 : ByteArray} (h2 : H2 z2 q2) {z3 : Int} (h3 : 0 ≤ z3 ∧ z3 < 100) (b1 : Nat) (b2 : Nat) (b3 : Nat) (w : World) (hS : Sn r W (some (b1)) (some (b2)) (some (b3)) none w) : wpAnyH Tryd.prog .any OPS Q (Sn r W (some (b1)) (some (b2)) (some (b3)) none) 11 #[true, true, true, true, true, true, true, true, true, true, true, true, true, true, false, false, false, true, false, false, true, false, true, false, true, false, false, false, false] ⟨#[.pointer (some ⟨r, 0, none⟩), undef, .pointer (some ⟨W.heap.size, 0, none⟩), undef, undef, undef, .slice (some ⟨b1, 0, none⟩) 5 5, .pointer (some ⟨r, 0, none⟩), .int .i64 z1, .pointer (some ⟨b1, z1.toNat, none⟩), .string q1, .slice (some ⟨b2, 0, none⟩) 3 3, .pointer (some ⟨r, 0, none⟩), .int .i64 z2, .pointer (some ⟨b2, z2.toNat, none⟩), .string q2, .pointer (some ⟨r, 0, none⟩), .int .i64 z3, .slice (some ⟨b3, 0, none⟩) 3 3, .pointer (some ⟨r, 0, none⟩), undef, undef, undef, .pointer (some ⟨r, 0, none⟩), undef, undef, .pointer (some ⟨r, 0, none⟩), undef, .pointer (some ⟨r, 0, none⟩), undef, .pointer (some ⟨r, 0, none⟩), undef, undef, undef, undef, undef, undef, undef, undef, undef, undef, undef, undef], []⟩ w := by
  refine wpAnyH_ready (rs := [14, 27]) (by kernel_rfl) (by simp) ?_
  refine AllReadyH.cons (o := { dst := some 20, op := Go.Op.call { callee := Go.Callee.value (Go.Operand.func 13), args := #[Go.Operand.tmp 19, Go.Operand.const (Go.Value.int Go.IntKind.i64 3)], argTypes := #[33, 3] }, type := 3, pos := "l04_bulletins.go:338", after := #[{ on := 13, ground := Go.Ground.data }, { on := 11, ground := Go.Ground.chain }], guard := none }) rfl (fun K hK => ?_) ?_
  · have rdw := hS.rd
    go_simp
    go_at_call 13
    refine (below_all r _ rdw 3 (by omega) (by omega)).mono ?_
    rintro e w1 ⟨⟨z4, hz, rfl⟩, k1, t1⟩
    obtain ⟨q4, hq, hcq⟩ := centre_of z4 hz.1 hz.2
    have h4 : H4 z4 q4 := ⟨hz, hq, hcq⟩
    clear hq hcq hz
    have hS2 := hS.turn t1 k1
    clear k1 t1 hS rdw
    go_wp2_with fail
    refine hK.out _ _ (by first | exact hS2 | exact hS2.less1 | exact hS2.less2 | exact hS2.less3 | exact hS2.less4) (fun _ => ?_)
    clear hK K
    refine wpAnyH_take (i := 15) (oi := { dst := some 21, op := Go.Op.indexAddr 37 (Go.Operand.tmp 18) (Go.Operand.tmp 20), type := 0, pos := "l04_bulletins.go:338", after := #[{ on := 12, ground := Go.Ground.data }, { on := 14, ground := Go.Ground.data }], guard := none }) (v := (.pointer (some ⟨b3, z4.toNat, none⟩))) rfl (by kernel_rfl) (by kernel_rfl) (by kernel_rfl) (fun c a w h => hP c a _ _ w h) (Or.inl ⟨by rfl, ?_⟩) (by assumption) ?_
    · intro w hSw; have g1 := h4.1.1; have g2 := h4.1.2; go_simp
    (try simp only [Act.put, List.setIfInBounds_toArray, List.set_cons_zero, List.set_cons_succ])
    refine wpAnyH_take (i := 16) (oi := { dst := some 22, op := Go.Op.load 9 (Go.Operand.tmp 21), type := 9, pos := "l04_bulletins.go:338", after := #[{ on := 15, ground := Go.Ground.data }], guard := none }) (v := (.string q4)) rfl (by kernel_rfl) (by kernel_rfl) (by kernel_rfl) (fun c a w h => hP c a _ _ w h) (Or.inl ⟨by rfl, ?_⟩) (by assumption) ?_
    · intro w hSw; have cc := blk_cell (hSw.l3 _ rfl).on h4.2.2; go_simp
    (try simp only [Act.put, List.setIfInBounds_toArray, List.set_cons_zero, List.set_cons_succ])
    exact st41110 hP hQ h1 h2 h3 h4 (b1) (b2) (b3) _ hS2
  refine AllReadyH.cons (o := { dst := some 3, op := Go.Op.alloc 25, type := 0, pos := "l04_bulletins.go:338", after := #[], guard := none }) rfl (fun K hK => ?_) ?_
  · go_simp
    have hS2 : Sn r W (some (b1)) (some (b2)) (some (b3)) (some (w.heap.size)) (w.alloc oH) := hS.lit4
    refine hK.out _ _ (by first | exact hS2 | exact hS2.less1 | exact hS2.less2 | exact hS2.less3 | exact hS2.less4) (fun _ => ?_)
    clear hK K
    refine wpAnyH_weak (S1 := Sn r W (some (b1)) (some (b2)) (some (b3)) (some (w.heap.size))) (fun _ h => h.less4) _ _ _ _ ?_
    exact st31111 hP hQ h1 h2 h3 (b1) (b2) (b3) (w.heap.size) _ hS2
  exact AllReadyH.nil
set_option maxHeartbeats 2000000 in
theorem st30011 {r : Nat} {W : World} {Q : Exit → Act → World → Prop} (hP : ∀ c (a : Act) d (v : Value) w, Q (.panic c) (a.put d v) w → Q (.panic c) a w) (hQ : ∀ (bx : Nat) (u6 u7 u8 u9 u10 u11 u12 u13 u14 u15 u16 u17 u18 u19 u20 u21 u22 u23 u24 u25 u26 u27 u28 u29 u30 u31 u32 : Value) (w : World), Fin r W bx w → Q .normal ⟨#[.pointer (some ⟨r, 0, none⟩), undef, .pointer (some ⟨W.heap.size, 0, none⟩), .pointer (some ⟨bx, 0, none⟩), undef, undef, u6, u7, u8, u9, u10, u11, u12, u13, u14, u15, u16, u17, u18, u19, u20, u21, u22, u23, u24, u25, u26, u27, u28, u29, u30, u31, u32, undef, undef, undef, undef, undef, undef, undef, undef, undef, undef], []⟩ w) {z1 : Int} {q1 : ByteArray} (h1 : H1 z1 q1) {z2 : Int} {q2 : ByteArray} (h2 : H2 z2 q2) {z3 : Int} (h3 : 0 ≤ z3 ∧ z3 < 100) (b3 : Nat) (b4 : Nat) (w : World) (hS : Sn r W none none (some (b3)) (some (b4)) w) : wpAnyH Tryd.prog .any OPS Q (Sn r W none none (some (b3)) (some (b4))) 16 #[false, true, true, false, false, false, true, true, false, false, true, true, true, true, false, false, false, true, false, false, true, false, true, false, true, false, false, true, false] ⟨#[.pointer (some ⟨r, 0, none⟩), undef, .pointer (some ⟨W.heap.size, 0, none⟩), .pointer (some ⟨b4, 0, none⟩), undef, undef, undef, .pointer (some ⟨r, 0, none⟩), .int .i64 z1, undef, undef, undef, .pointer (some ⟨r, 0, none⟩), .int .i64 z2, undef, undef, .pointer (some ⟨r, 0, none⟩), .int .i64 z3, .slice (some ⟨b3, 0, none⟩) 3 3, .pointer (some ⟨r, 0, none⟩), undef, undef, undef, .pointer (some ⟨r, 0, none⟩), undef, undef, .pointer (some ⟨r, 0, none⟩), undef, .pointer (some ⟨r, 0, none⟩), undef, .pointer (some ⟨r, 0, none⟩), undef, undef, undef, undef, undef, undef, undef, undef, undef, undef, undef, undef], []⟩ w := by
  refine wpAnyH_ready (rs := [0, 5, 14]) (by kernel_rfl) (by simp) ?_
  refine AllReadyH.cons (o := { dst := some 6, op := Go.Op.buildSlice 37 5 #[(0, Go.Operand.const (Go.Value.string { data := #[83, 77] })), (1, Go.Operand.const (Go.Value.string { data := #[83, 73] })), (2, Go.Operand.const (Go.Value.string { data := #[85, 83] })), (3, Go.Operand.const (Go.Value.string { data := #[70, 84] })), (4, Go.Operand.const (Go.Value.string { data := #[87, 87] }))], type := 37, pos := "l04_bulletins.go:338", after := #[], guard := none }) rfl (fun K hK => ?_) ?_
  · go_simp
    have hS2 : Sn r W (some (w.heap.size)) none (some (b3)) (some (b4)) (w.alloc oK) := hS.lit1
    refine hK.out _ _ (by first | exact hS2 | exact hS2.less1 | exact hS2.less2 | exact hS2.less3 | exact hS2.less4) (fun _ => ?_)
    clear hK K
    refine wpAnyH_weak (S1 := Sn r W (some (w.heap.size)) none (some (b3)) (some (b4))) (fun _ h => h.less1) _ _ _ _ ?_
    refine wpAnyH_take (i := 3) (oi := { dst := some 9, op := Go.Op.indexAddr 37 (Go.Operand.tmp 6) (Go.Operand.tmp 8), type := 0, pos := "l04_bulletins.go:338", after := #[{ on := 0, ground := Go.Ground.data }, { on := 2, ground := Go.Ground.data }], guard := none }) (v := (.pointer (some ⟨w.heap.size, z1.toNat, none⟩))) rfl (by kernel_rfl) (by kernel_rfl) (by kernel_rfl) (fun c a w h => hP c a _ _ w h) (Or.inl ⟨by rfl, ?_⟩) (by assumption) ?_
    · intro w hSw; have g1 := h1.1.1; have g2 := h1.1.2; go_simp
    (try simp only [Act.put, List.setIfInBounds_toArray, List.set_cons_zero, List.set_cons_succ])
    refine wpAnyH_take (i := 4) (oi := { dst := some 10, op := Go.Op.load 9 (Go.Operand.tmp 9), type := 9, pos := "l04_bulletins.go:338", after := #[{ on := 3, ground := Go.Ground.data }], guard := none }) (v := (.string q1)) rfl (by kernel_rfl) (by kernel_rfl) (by kernel_rfl) (fun c a w h => hP c a _ _ w h) (Or.inl ⟨by rfl, ?_⟩) (by assumption) ?_
    · intro w hSw; have cc := blk_cell (hSw.l1 _ rfl).on h1.2.2; go_simp
    (try simp only [Act.put, List.setIfInBounds_toArray, List.set_cons_zero, List.set_cons_succ])
    exact st31011 hP hQ h1 h2 h3 (w.heap.size) (b3) (b4) _ hS2
  refine AllReadyH.cons (o := { dst := some 11, op := Go.Op.buildSlice 37 3 #[(0, Go.Operand.const (Go.Value.string { data := #[68, 76] })), (1, Go.Operand.const (Go.Value.string { data := #[78, 79] })), (2, Go.Operand.const (Go.Value.string { data := #[88, 88] }))], type := 37, pos := "l04_bulletins.go:338", after := #[], guard := none }) rfl (fun K hK => ?_) ?_
  · go_simp
    have hS2 : Sn r W none (some (w.heap.size)) (some (b3)) (some (b4)) (w.alloc oA) := hS.lit2
    refine hK.out _ _ (by first | exact hS2 | exact hS2.less1 | exact hS2.less2 | exact hS2.less3 | exact hS2.less4) (fun _ => ?_)
    clear hK K
    refine wpAnyH_weak (S1 := Sn r W none (some (w.heap.size)) (some (b3)) (some (b4))) (fun _ h => h.less2) _ _ _ _ ?_
    refine wpAnyH_take (i := 8) (oi := { dst := some 14, op := Go.Op.indexAddr 37 (Go.Operand.tmp 11) (Go.Operand.tmp 13), type := 0, pos := "l04_bulletins.go:338", after := #[{ on := 5, ground := Go.Ground.data }, { on := 7, ground := Go.Ground.data }], guard := none }) (v := (.pointer (some ⟨w.heap.size, z2.toNat, none⟩))) rfl (by kernel_rfl) (by kernel_rfl) (by kernel_rfl) (fun c a w h => hP c a _ _ w h) (Or.inl ⟨by rfl, ?_⟩) (by assumption) ?_
    · intro w hSw; have g1 := h2.1.1; have g2 := h2.1.2; go_simp
    (try simp only [Act.put, List.setIfInBounds_toArray, List.set_cons_zero, List.set_cons_succ])
    refine wpAnyH_take (i := 9) (oi := { dst := some 15, op := Go.Op.load 9 (Go.Operand.tmp 14), type := 9, pos := "l04_bulletins.go:338", after := #[{ on := 8, ground := Go.Ground.data }], guard := none }) (v := (.string q2)) rfl (by kernel_rfl) (by kernel_rfl) (by kernel_rfl) (fun c a w h => hP c a _ _ w h) (Or.inl ⟨by rfl, ?_⟩) (by assumption) ?_
    · intro w hSw; have cc := blk_cell (hSw.l2 _ rfl).on h2.2.2; go_simp
    (try simp only [Act.put, List.setIfInBounds_toArray, List.set_cons_zero, List.set_cons_succ])
    exact st30111 hP hQ h1 h2 h3 (w.heap.size) (b3) (b4) _ hS2
  refine AllReadyH.cons (o := { dst := some 20, op := Go.Op.call { callee := Go.Callee.value (Go.Operand.func 13), args := #[Go.Operand.tmp 19, Go.Operand.const (Go.Value.int Go.IntKind.i64 3)], argTypes := #[33, 3] }, type := 3, pos := "l04_bulletins.go:338", after := #[{ on := 13, ground := Go.Ground.data }, { on := 11, ground := Go.Ground.chain }], guard := none }) rfl (fun K hK => ?_) ?_
  · have rdw := hS.rd
    go_simp
    go_at_call 13
    refine (below_all r _ rdw 3 (by omega) (by omega)).mono ?_
    rintro e w1 ⟨⟨z4, hz, rfl⟩, k1, t1⟩
    obtain ⟨q4, hq, hcq⟩ := centre_of z4 hz.1 hz.2
    have h4 : H4 z4 q4 := ⟨hz, hq, hcq⟩
    clear hq hcq hz
    have hS2 := hS.turn t1 k1
    clear k1 t1 hS rdw
    go_wp2_with fail
    refine hK.out _ _ (by first | exact hS2 | exact hS2.less1 | exact hS2.less2 | exact hS2.less3 | exact hS2.less4) (fun _ => ?_)
    clear hK K
    refine wpAnyH_take (i := 15) (oi := { dst := some 21, op := Go.Op.indexAddr 37 (Go.Operand.tmp 18) (Go.Operand.tmp 20), type := 0, pos := "l04_bulletins.go:338", after := #[{ on := 12, ground := Go.Ground.data }, { on := 14, ground := Go.Ground.data }], guard := none }) (v := (.pointer (some ⟨b3, z4.toNat, none⟩))) rfl (by kernel_rfl) (by kernel_rfl) (by kernel_rfl) (fun c a w h => hP c a _ _ w h) (Or.inl ⟨by rfl, ?_⟩) (by assumption) ?_
    · intro w hSw; have g1 := h4.1.1; have g2 := h4.1.2; go_simp
    (try simp only [Act.put, List.setIfInBounds_toArray, List.set_cons_zero, List.set_cons_succ])
    refine wpAnyH_take (i := 16) (oi := { dst := some 22, op := Go.Op.load 9 (Go.Operand.tmp 21), type := 9, pos := "l04_bulletins.go:338", after := #[{ on := 15, ground := Go.Ground.data }], guard := none }) (v := (.string q4)) rfl (by kernel_rfl) (by kernel_rfl) (by kernel_rfl) (fun c a w h => hP c a _ _ w h) (Or.inl ⟨by rfl, ?_⟩) (by assumption) ?_
    · intro w hSw; have cc := blk_cell (hSw.l3 _ rfl).on h4.2.2; go_simp
    (try simp only [Act.put, List.setIfInBounds_toArray, List.set_cons_zero, List.set_cons_succ])
    exact st40011 hP hQ h1 h2 h3 h4 (b3) (b4) _ hS2
  exact AllReadyH.nil
set_option maxHeartbeats 2000000 in
theorem st30101 {r : Nat} {W : World} {Q : Exit → Act → World → Prop} (hP : ∀ c (a : Act) d (v : Value) w, Q (.panic c) (a.put d v) w → Q (.panic c) a w) (hQ : ∀ (bx : Nat) (u6 u7 u8 u9 u10 u11 u12 u13 u14 u15 u16 u17 u18 u19 u20 u21 u22 u23 u24 u25 u26 u27 u28 u29 u30 u31 u32 : Value) (w : World), Fin r W bx w → Q .normal ⟨#[.pointer (some ⟨r, 0, none⟩), undef, .pointer (some ⟨W.heap.size, 0, none⟩), .pointer (some ⟨bx, 0, none⟩), undef, undef, u6, u7, u8, u9, u10, u11, u12, u13, u14, u15, u16, u17, u18, u19, u20, u21, u22, u23, u24, u25, u26, u27, u28, u29, u30, u31, u32, undef, undef, undef, undef, undef, undef, undef, undef, undef, undef], []⟩ w) {z1 : Int} {q1 : ByteArray} (h1 : H1 z1 q1) {z2 : Int} {q2 : ByteArray} (h2 : H2 z2 q2) {z3 : Int} (h3 : 0 ≤ z3 ∧ z3 < 100) (b2 : Nat) (b4 : Nat) (w : World) (hS : Sn r W none (some (b2)) none (some (b4)) w) : wpAnyH Tryd.prog .any OPS Q (Sn r W none (some (b2)) none (some (b4))) 14 #[false, true, true, false, false, true, true, true, true, true, true, true, false, true, false, false, false, true, false, false, true, false, true, false, true, false, false, true, false] ⟨#[.pointer (some ⟨r, 0, none⟩), undef, .pointer (some ⟨W.heap.size, 0, none⟩), .pointer (some ⟨b4, 0, none⟩), undef, undef, undef, .pointer (some ⟨r, 0, none⟩), .int .i64 z1, undef, undef, .slice (some ⟨b2, 0, none⟩) 3 3, .pointer (some ⟨r, 0, none⟩), .int .i64 z2, .pointer (some ⟨b2, z2.toNat, none⟩), .string q2, .pointer (some ⟨r, 0, none⟩), .int .i64 z3, undef, .pointer (some ⟨r, 0, none⟩), undef, undef, undef, .pointer (some ⟨r, 0, none⟩), undef, undef, .pointer (some ⟨r, 0, none⟩), undef, .pointer (some ⟨r, 0, none⟩), undef, .pointer (some ⟨r, 0, none⟩), undef, undef, undef, undef, undef, undef, undef, undef, undef, undef, undef, undef], []⟩ w := by
  refine wpAnyH_ready (rs := [0, 12, 14]) (by kernel_rfl) (by simp) ?_
  refine AllReadyH.cons (o := { dst := some 6, op := Go.Op.buildSlice 37 5 #[(0, Go.Operand.const (Go.Value.string { data := #[83, 77] })), (1, Go.Operand.const (Go.Value.string { data := #[83, 73] })), (2, Go.Operand.const (Go.Value.string { data := #[85, 83] })), (3, Go.Operand.const (Go.Value.string { data := #[70, 84] })), (4, Go.Operand.const (Go.Value.string { data := #[87, 87] }))], type := 37, pos := "l04_bulletins.go:338", after := #[], guard := none }) rfl (fun K hK => ?_) ?_
  · go_simp
    have hS2 : Sn r W (some (w.heap.size)) (some (b2)) none (some (b4)) (w.alloc oK) := hS.lit1
    refine hK.out _ _ (by first | exact hS2 | exact hS2.less1 | exact hS2.less2 | exact hS2.less3 | exact hS2.less4) (fun _ => ?_)
    clear hK K
    refine wpAnyH_weak (S1 := Sn r W (some (w.heap.size)) (some (b2)) none (some (b4))) (fun _ h => h.less1) _ _ _ _ ?_
    refine wpAnyH_take (i := 3) (oi := { dst := some 9, op := Go.Op.indexAddr 37 (Go.Operand.tmp 6) (Go.Operand.tmp 8), type := 0, pos := "l04_bulletins.go:338", after := #[{ on := 0, ground := Go.Ground.data }, { on := 2, ground := Go.Ground.data }], guard := none }) (v := (.pointer (some ⟨w.heap.size, z1.toNat, none⟩))) rfl (by kernel_rfl) (by kernel_rfl) (by kernel_rfl) (fun c a w h => hP c a _ _ w h) (Or.inl ⟨by rfl, ?_⟩) (by assumption) ?_
    · intro w hSw; have g1 := h1.1.1; have g2 := h1.1.2; go_simp
    (try simp only [Act.put, List.setIfInBounds_toArray, List.set_cons_zero, List.set_cons_succ])
    refine wpAnyH_take (i := 4) (oi := { dst := some 10, op := Go.Op.load 9 (Go.Operand.tmp 9), type := 9, pos := "l04_bulletins.go:338", after := #[{ on := 3, ground := Go.Ground.data }], guard := none }) (v := (.string q1)) rfl (by kernel_rfl) (by kernel_rfl) (by kernel_rfl) (fun c a w h => hP c a _ _ w h) (Or.inl ⟨by rfl, ?_⟩) (by assumption) ?_
    · intro w hSw; have cc := blk_cell (hSw.l1 _ rfl).on h1.2.2; go_simp
    (try simp only [Act.put, List.setIfInBounds_toArray, List.set_cons_zero, List.set_cons_succ])
    exact st31101 hP hQ h1 h2 h3 (w.heap.size) (b2) (b4) _ hS2
  refine AllReadyH.cons (o := { dst := some 18, op := Go.Op.buildSlice 37 3 #[(0, Go.Operand.const (Go.Value.string { data := #[65, 77, 77, 67] })), (1, Go.Operand.const (Go.Value.string { data := #[69, 78, 77, 73] })), (2, Go.Operand.const (Go.Value.string { data := #[75, 49, 65, 65] }))], type := 37, pos := "l04_bulletins.go:338", after := #[], guard := none }) rfl (fun K hK => ?_) ?_
  · go_simp
    have hS2 : Sn r W none (some (b2)) (some (w.heap.size)) (some (b4)) (w.alloc oC) := hS.lit3
    refine hK.out _ _ (by first | exact hS2 | exact hS2.less1 | exact hS2.less2 | exact hS2.less3 | exact hS2.less4) (fun _ => ?_)
    clear hK K
    refine wpAnyH_weak (S1 := Sn r W none (some (b2)) (some (w.heap.size)) (some (b4))) (fun _ h => h.less3) _ _ _ _ ?_
    exact st30111 hP hQ h1 h2 h3 (b2) (w.heap.size) (b4) _ hS2
  refine AllReadyH.cons (o := { dst := some 20, op := Go.Op.call { callee := Go.Callee.value (Go.Operand.func 13), args := #[Go.Operand.tmp 19, Go.Operand.const (Go.Value.int Go.IntKind.i64 3)], argTypes := #[33, 3] }, type := 3, pos := "l04_bulletins.go:338", after := #[{ on := 13, ground := Go.Ground.data }, { on := 11, ground := Go.Ground.chain }], guard := none }) rfl (fun K hK => ?_) ?_
  · have rdw := hS.rd
    go_simp
    go_at_call 13
    refine (below_all r _ rdw 3 (by omega) (by omega)).mono ?_
    rintro e w1 ⟨⟨z4, hz, rfl⟩, k1, t1⟩
    obtain ⟨q4, hq, hcq⟩ := centre_of z4 hz.1 hz.2
    have h4 : H4 z4 q4 := ⟨hz, hq, hcq⟩
    clear hq hcq hz
    have hS2 := hS.turn t1 k1
    clear k1 t1 hS rdw
    go_wp2_with fail
    refine hK.out _ _ (by first | exact hS2 | exact hS2.less1 | exact hS2.less2 | exact hS2.less3 | exact hS2.less4) (fun _ => ?_)
    clear hK K
    exact st40101 hP hQ h1 h2 h3 h4 (b2) (b4) _ hS2
  exact AllReadyH.nil
set_option maxHeartbeats 2000000 in
theorem st30110 {r : Nat} {W : World} {Q : Exit → Act → World → Prop} (hP : ∀ c (a : Act) d (v : Value) w, Q (.panic c) (a.put d v) w → Q (.panic c) a w) (hQ : ∀ (bx : Nat) (u6 u7 u8 u9 u10 u11 u12 u13 u14 u15 u16 u17 u18 u19 u20 u21 u22 u23 u24 u25 u26 u27 u28 u29 u30 u31 u32 : Value) (w : World), Fin r W bx w → Q .normal ⟨#[.pointer (some ⟨r, 0, none⟩), undef, .pointer (some ⟨W.heap.size, 0, none⟩), .pointer (some ⟨bx, 0, none⟩), undef, undef, u6, u7, u8, u9, u10, u11, u12, u13, u14, u15, u16, u17, u18, u19, u20, u21, u22, u23, u24, u25, u26, u27, u28, u29, u30, u31, u32, undef, undef, undef, undef, undef, undef, undef, undef, undef, undef], []⟩ w) {z1 : Int} {q1 : ByteArray} (h1 : H1 z1 q1) {z2 : Int} {q2 : ByteArray} (h2 : H2 z2 q2) {z3 : Int} (h3 : 0 ≤ z3 ∧ z3 < 100) (b2 : Nat) (b3 : Nat) (w : World) (hS : Sn r W none (some (b2)) (some (b3)) none w) : wpAnyH Tryd.prog .any OPS Q (Sn r W none (some (b2)) (some (b3)) none) 14 #[false, true, true, false, false, true, true, true, true, true, true, true, true, true, false, false, false, true, false, false, true, false, true, false, true, false, false, false, false] ⟨#[.pointer (some ⟨r, 0, none⟩), undef, .pointer (some ⟨W.heap.size, 0, none⟩), undef, undef, undef, undef, .pointer (some ⟨r, 0, none⟩), .int .i64 z1, undef, undef, .slice (some ⟨b2, 0, none⟩) 3 3, .pointer (some ⟨r, 0, none⟩), .int .i64 z2, .pointer (some ⟨b2, z2.toNat, none⟩), .string q2, .pointer (some ⟨r, 0, none⟩), .int .i64 z3, .slice (some ⟨b3, 0, none⟩) 3 3, .pointer (some ⟨r, 0, none⟩), undef, undef, undef, .pointer (some ⟨r, 0, none⟩), undef, undef, .pointer (some ⟨r, 0, none⟩), undef, .pointer (some ⟨r, 0, none⟩), undef, .pointer (some ⟨r, 0, none⟩), undef, undef, undef, undef, undef, undef, undef, undef, undef, undef, undef, undef], []⟩ w := by
  refine wpAnyH_ready (rs := [0, 14, 27]) (by kernel_rfl) (by simp) ?_
  refine AllReadyH.cons (o := { dst := some 6, op := Go.Op.buildSlice 37 5 #[(0, Go.Operand.const (Go.Value.string { data := #[83, 77] })), (1, Go.Operand.const (Go.Value.string { data := #[83, 73] })), (2, Go.Operand.const (Go.Value.string { data := #[85, 83] })), (3, Go.Operand.const (Go.Value.string { data := #[70, 84] })), (4, Go.Operand.const (Go.Value.string { data := #[87, 87] }))], type := 37, pos := "l04_bulletins.go:338", after := #[], guard := none }) rfl (fun K hK => ?_) ?_
  · go_simp
    have hS2 : Sn r W (some (w.heap.size)) (some (b2)) (some (b3)) none (w.alloc oK) := hS.lit1
    refine hK.out _ _ (by first | exact hS2 | exact hS2.less1 | exact hS2.less2 | exact hS2.less3 | exact hS2.less4) (fun _ => ?_)
    clear hK K
    refine wpAnyH_weak (S1 := Sn r W (some (w.heap.size)) (some (b2)) (some (b3)) none) (fun _ h => h.less1) _ _ _ _ ?_
    refine wpAnyH_take (i := 3) (oi := { dst := some 9, op := Go.Op.indexAddr 37 (Go.Operand.tmp 6) (Go.Operand.tmp 8), type := 0, pos := "l04_bulletins.go:338", after := #[{ on := 0, ground := Go.Ground.data }, { on := 2, ground := Go.Ground.data }], guard := none }) (v := (.pointer (some ⟨w.heap.size, z1.toNat, none⟩))) rfl (by kernel_rfl) (by kernel_rfl) (by kernel_rfl) (fun c a w h => hP c a _ _ w h) (Or.inl ⟨by rfl, ?_⟩) (by assumption) ?_
    · intro w hSw; have g1 := h1.1.1; have g2 := h1.1.2; go_simp
    (try simp only [Act.put, List.setIfInBounds_toArray, List.set_cons_zero, List.set_cons_succ])
    refine wpAnyH_take (i := 4) (oi := { dst := some 10, op := Go.Op.load 9 (Go.Operand.tmp 9), type := 9, pos := "l04_bulletins.go:338", after := #[{ on := 3, ground := Go.Ground.data }], guard := none }) (v := (.string q1)) rfl (by kernel_rfl) (by kernel_rfl) (by kernel_rfl) (fun c a w h => hP c a _ _ w h) (Or.inl ⟨by rfl, ?_⟩) (by assumption) ?_
    · intro w hSw; have cc := blk_cell (hSw.l1 _ rfl).on h1.2.2; go_simp
    (try simp only [Act.put, List.setIfInBounds_toArray, List.set_cons_zero, List.set_cons_succ])
    exact st31110 hP hQ h1 h2 h3 (w.heap.size) (b2) (b3) _ hS2
  refine AllReadyH.cons (o := { dst := some 20, op := Go.Op.call { callee := Go.Callee.value (Go.Operand.func 13), args := #[Go.Operand.tmp 19, Go.Operand.const (Go.Value.int Go.IntKind.i64 3)], argTypes := #[33, 3] }, type := 3, pos := "l04_bulletins.go:338", after := #[{ on := 13, ground := Go.Ground.data }, { on := 11, ground := Go.Ground.chain }], guard := none }) rfl (fun K hK => ?_) ?_
  · have rdw := hS.rd
    go_simp
    go_at_call 13
    refine (below_all r _ rdw 3 (by omega) (by omega)).mono ?_
    rintro e w1 ⟨⟨z4, hz, rfl⟩, k1, t1⟩
    obtain ⟨q4, hq, hcq⟩ := centre_of z4 hz.1 hz.2
    have h4 : H4 z4 q4 := ⟨hz, hq, hcq⟩
    clear hq hcq hz
    have hS2 := hS.turn t1 k1
    clear k1 t1 hS rdw
    go_wp2_with fail
    refine hK.out _ _ (by first | exact hS2 | exact hS2.less1 | exact hS2.less2 | exact hS2.less3 | exact hS2.less4) (fun _ => ?_)
    clear hK K
    refine wpAnyH_take (i := 15) (oi := { dst := some 21, op := Go.Op.indexAddr 37 (Go.Operand.tmp 18) (Go.Operand.tmp 20), type := 0, pos := "l04_bulletins.go:338", after := #[{ on := 12, ground := Go.Ground.data }, { on := 14, ground := Go.Ground.data }], guard := none }) (v := (.pointer (some ⟨b3, z4.toNat, none⟩))) rfl (by kernel_rfl) (by kernel_rfl) (by kernel_rfl) (fun c a w h => hP c a _ _ w h) (Or.inl ⟨by rfl, ?_⟩) (by assumption) ?_
    · intro w hSw; have g1 := h4.1.1; have g2 := h4.1.2; go_simp
    (try simp only [Act.put, List.setIfInBounds_toArray, List.set_cons_zero, List.set_cons_succ])
    refine wpAnyH_take (i := 16) (oi := { dst := some 22, op := Go.Op.load 9 (Go.Operand.tmp 21), type := 9, pos := "l04_bulletins.go:338", after := #[{ on := 15, ground := Go.Ground.data }], guard := none }) (v := (.string q4)) rfl (by kernel_rfl) (by kernel_rfl) (by kernel_rfl) (fun c a w h => hP c a _ _ w h) (Or.inl ⟨by rfl, ?_⟩) (by assumption) ?_
    · intro w hSw; have cc := blk_cell (hSw.l3 _ rfl).on h4.2.2; go_simp
    (try simp only [Act.put, List.setIfInBounds_toArray, List.set_cons_zero, List.set_cons_succ])
    exact st40110 hP hQ h1 h2 h3 h4 (b2) (b3) _ hS2
  refine AllReadyH.cons (o := { dst := some 3, op := Go.Op.alloc 25, type := 0, pos := "l04_bulletins.go:338", after := #[], guard := none }) rfl (fun K hK => ?_) ?_
  · go_simp
    have hS2 : Sn r W none (some (b2)) (some (b3)) (some (w.heap.size)) (w.alloc oH) := hS.lit4
    refine hK.out _ _ (by first | exact hS2 | exact hS2.less1 | exact hS2.less2 | exact hS2.less3 | exact hS2.less4) (fun _ => ?_)
    clear hK K
    refine wpAnyH_weak (S1 := Sn r W none (some (b2)) (some (b3)) (some (w.heap.size))) (fun _ h => h.less4) _ _ _ _ ?_
    exact st30111 hP hQ h1 h2 h3 (b2) (b3) (w.heap.size) _ hS2
  exact AllReadyH.nil
set_option maxHeartbeats 2000000 in
theorem st31001 {r : Nat} {W : World} {Q : Exit → Act → World → Prop} (hP : ∀ c (a : Act) d (v : Value) w, Q (.panic c) (a.put d v) w → Q (.panic c) a w) (hQ : ∀ (bx : Nat) (u6 u7 u8 u9 u10 u11 u12 u13 u14 u15 u16 u17 u18 u19 u20 u21 u22 u23 u24 u25 u26 u27 u28 u29 u30 u31 u32 : Value) (w : World), Fin r W bx w → Q .normal ⟨#[.pointer (some ⟨r, 0, none⟩), undef, .pointer (some ⟨W.heap.size, 0, none⟩), .pointer (some ⟨bx, 0, none⟩), undef, undef, u6, u7, u8, u9, u10, u11, u12, u13, u14, u15, u16, u17, u18, u19, u20, u21, u22, u23, u24, u25, u26, u27, u28, u29, u30, u31, u32, undef, undef, undef, undef, undef, undef, undef, undef, undef, undef], []⟩ w) {z1 : Int} {q1 : ByteArray} (h1 : H1 z1 q1) {z2 : Int} {q2 : ByteArray} (h2 : H2 z2 q2) {z3 : Int} (h3 : 0 ≤ z3 ∧ z3 < 100) (b1 : Nat) (b4 : Nat) (w : World) (hS : Sn r W (some (b1)) none none (some (b4)) w) : wpAnyH Tryd.prog .any OPS Q (Sn r W (some (b1)) none none (some (b4))) 14 #[true, true, true, true, true, false, true, true, false, false, true, true, false, true, false, false, false, true, false, false, true, false, true, false, true, false, false, true, false] ⟨#[.pointer (some ⟨r, 0, none⟩), undef, .pointer (some ⟨W.heap.size, 0, none⟩), .pointer (some ⟨b4, 0, none⟩), undef, undef, .slice (some ⟨b1, 0, none⟩) 5 5, .pointer (some ⟨r, 0, none⟩), .int .i64 z1, .pointer (some ⟨b1, z1.toNat, none⟩), .string q1, undef, .pointer (some ⟨r, 0, none⟩), .int .i64 z2, undef, undef, .pointer (some ⟨r, 0, none⟩), .int .i64 z3, undef, .pointer (some ⟨r, 0, none⟩), undef, undef, undef, .pointer (some ⟨r, 0, none⟩), undef, undef, .pointer (some ⟨r, 0, none⟩), undef, .pointer (some ⟨r, 0, none⟩), undef, .pointer (some ⟨r, 0, none⟩), undef, undef, undef, undef, undef, undef, undef, undef, undef, undef, undef, undef], []⟩ w := by
  refine wpAnyH_ready (rs := [5, 12, 14]) (by kernel_rfl) (by simp) ?_
  refine AllReadyH.cons (o := { dst := some 11, op := Go.Op.buildSlice 37 3 #[(0, Go.Operand.const (Go.Value.string { data := #[68, 76] })), (1, Go.Operand.const (Go.Value.string { data := #[78, 79] })), (2, Go.Operand.const (Go.Value.string { data := #[88, 88] }))], type := 37, pos := "l04_bulletins.go:338", after := #[], guard := none }) rfl (fun K hK => ?_) ?_
  · go_simp
    have hS2 : Sn r W (some (b1)) (some (w.heap.size)) none (some (b4)) (w.alloc oA) := hS.lit2
    refine hK.out _ _ (by first | exact hS2 | exact hS2.less1 | exact hS2.less2 | exact hS2.less3 | exact hS2.less4) (fun _ => ?_)
    clear hK K
    refine wpAnyH_weak (S1 := Sn r W (some (b1)) (some (w.heap.size)) none (some (b4))) (fun _ h => h.less2) _ _ _ _ ?_
    refine wpAnyH_take (i := 8) (oi := { dst := some 14, op := Go.Op.indexAddr 37 (Go.Operand.tmp 11) (Go.Operand.tmp 13), type := 0, pos := "l04_bulletins.go:338", after := #[{ on := 5, ground := Go.Ground.data }, { on := 7, ground := Go.Ground.data }], guard := none }) (v := (.pointer (some ⟨w.heap.size, z2.toNat, none⟩))) rfl (by kernel_rfl) (by kernel_rfl) (by kernel_rfl) (fun c a w h => hP c a _ _ w h) (Or.inl ⟨by rfl, ?_⟩) (by assumption) ?_
    · intro w hSw; have g1 := h2.1.1; have g2 := h2.1.2; go_simp
    (try simp only [Act.put, List.setIfInBounds_toArray, List.set_cons_zero, List.set_cons_succ])
    refine wpAnyH_take (i := 9) (oi := { dst := some 15, op := Go.Op.load 9 (Go.Operand.tmp 14), type := 9, pos := "l04_bulletins.go:338", after := #[{ on := 8, ground := Go.Ground.data }], guard := none }) (v := (.string q2)) rfl (by kernel_rfl) (by kernel_rfl) (by kernel_rfl) (fun c a w h => hP c a _ _ w h) (Or.inl ⟨by rfl, ?_⟩) (by assumption) ?_
    · intro w hSw; have cc := blk_cell (hSw.l2 _ rfl).on h2.2.2; go_simp
    (try simp only [Act.put, List.setIfInBounds_toArray, List.set_cons_zero, List.set_cons_succ])
    exact st31101 hP hQ h1 h2 h3 (b1) (w.heap.size) (b4) _ hS2
  refine AllReadyH.cons (o := { dst := some 18, op := Go.Op.buildSlice 37 3 #[(0, Go.Operand.const (Go.Value.string { data := #[65, 77, 77, 67] })), (1, Go.Operand.const (Go.Value.string { data := #[69, 78, 77, 73] })), (2, Go.Operand.const (Go.Value.string { data := #[75, 49, 65, 65] }))], type := 37, pos := "l04_bulletins.go:338", after := #[], guard := none }) rfl (fun K hK => ?_) ?_
  · go_simp
    have hS2 : Sn r W (some (b1)) none (some (w.heap.size)) (some (b4)) (w.alloc oC) := hS.lit3
    refine hK.out _ _ (by first | exact hS2 | exact hS2.less1 | exact hS2.less2 | exact hS2.less3 | exact hS2.less4) (fun _ => ?_)
    clear hK K
    refine wpAnyH_weak (S1 := Sn r W (some (b1)) none (some (w.heap.size)) (some (b4))) (fun _ h => h.less3) _ _ _ _ ?_
    exact st31011 hP hQ h1 h2 h3 (b1) (w.heap.size) (b4) _ hS2
  refine AllReadyH.cons (o := { dst := some 20, op := Go.Op.call { callee := Go.Callee.value (Go.Operand.func 13), args := #[Go.Operand.tmp 19, Go.Operand.const (Go.Value.int Go.IntKind.i64 3)], argTypes := #[33, 3] }, type := 3, pos := "l04_bulletins.go:338", after := #[{ on := 13, ground := Go.Ground.data }, { on := 11, ground := Go.Ground.chain }], guard := none }) rfl (fun K hK => ?_) ?_
  · have rdw := hS.rd
    go_simp
    go_at_call 13
    refine (below_all r _ rdw 3 (by omega) (by omega)).mono ?_
    rintro e w1 ⟨⟨z4, hz, rfl⟩, k1, t1⟩
    obtain ⟨q4, hq, hcq⟩ := centre_of z4 hz.1 hz.2
    have h4 : H4 z4 q4 := ⟨hz, hq, hcq⟩
    clear hq hcq hz
    have hS2 := hS.turn t1 k1
    clear k1 t1 hS rdw
    go_wp2_with fail
    refine hK.out _ _ (by first | exact hS2 | exact hS2.less1 | exact hS2.less2 | exact hS2.less3 | exact hS2.less4) (fun _ => ?_)
    clear hK K
    exact st41001 hP hQ h1 h2 h3 h4 (b1) (b4) _ hS2
  exact AllReadyH.nil
set_option maxHeartbeats 2000000 in
theorem st31010 {r : Nat} {W : World} {Q : Exit → Act → World → Prop} (hP : ∀ c (a : Act) d (v : Value) w, Q (.panic c) (a.put d v) w → Q (.panic c) a w) (hQ : ∀ (bx : Nat) (u6 u7 u8 u9 u10 u11 u12 u13 u14 u15 u16 u17 u18 u19 u20 u21 u22 u23 u24 u25 u26 u27 u28 u29 u30 u31 u32 : Value) (w : World), Fin r W bx w → Q .normal ⟨#[.pointer (some ⟨r, 0, none⟩), undef, .pointer (some ⟨W.heap.size, 0, none⟩), .pointer (some ⟨bx, 0, none⟩), undef, undef, u6, u7, u8, u9, u10, u11, u12, u13, u14, u15, u16, u17, u18, u19, u20, u21, u22, u23, u24, u25, u26, u27, u28, u29, u30, u31, u32, undef, undef, undef, undef, undef, undef, undef, undef, undef, undef], []⟩ w) {z1 : Int} {q1 : ByteArray} (h1 : H1 z1 q1) {z2 : Int} {q2 : ByteArray} (h2 : H2 z2 q2) {z3 : Int} (h3 : 0 ≤ z3 ∧ z3 < 100) (b1 : Nat) (b3 : Nat) (w : World) (hS : Sn r W (some (b1)) none (some (b3)) none w) : wpAnyH Tryd.prog .any OPS Q (Sn r W (some (b1)) none (some (b3)) none) 14 #[true, true, true, true, true, false, true, true, false, false, true, true, true, true, false, false, false, true, false, false, true, false, true, false, true, false, false, false, false] ⟨#[.pointer (some ⟨r, 0, none⟩), undef, .pointer (some ⟨W.heap.size, 0, none⟩), undef, undef, undef, .slice (some ⟨b1, 0, none⟩) 5 5, .pointer (some ⟨r, 0, none⟩), .int .i64 z1, .pointer (some ⟨b1, z1.toNat, none⟩), .string q1, undef, .pointer (some ⟨r, 0, none⟩), .int .i64 z2, undef, undef, .pointer (some ⟨r, 0, none⟩), .int .i64 z3, .slice (some ⟨b3, 0, none⟩) 3 3, .pointer (some ⟨r, 0, none⟩), undef, undef, undef, .pointer (some ⟨r, 0, none⟩), undef, undef, .pointer (some ⟨r, 0, none⟩), undef, .pointer (some ⟨r, 0, none⟩), undef, .pointer (some ⟨r, 0, none⟩), undef, undef, undef, undef, undef, undef, undef, undef, undef, undef, undef, undef], []⟩ w := by
  refine wpAnyH_ready (rs := [5, 14, 27]) (by kernel_rfl) (by simp) ?_
  refine AllReadyH.cons (o := { dst := some 11, op := Go.Op.buildSlice 37 3 #[(0, Go.Operand.const (Go.Value.string { data := #[68, 76] })), (1, Go.Operand.const (Go.Value.string { data := #[78, 79] })), (2, Go.Operand.const (Go.Value.string { data := #[88, 88] }))], type := 37, pos := "l04_bulletins.go:338", after := #[], guard := none }) rfl (fun K hK => ?_) ?_
  · go_simp
    have hS2 : Sn r W (some (b1)) (some (w.heap.size)) (some (b3)) none (w.alloc oA) := hS.lit2
    refine hK.out _ _ (by first | exact hS2 | exact hS2.less1 | exact hS2.less2 | exact hS2.less3 | exact hS2.less4) (fun _ => ?_)
    clear hK K
    refine wpAnyH_weak (S1 := Sn r W (some (b1)) (some (w.heap.size)) (some (b3)) none) (fun _ h => h.less2) _ _ _ _ ?_
    refine wpAnyH_take (i := 8) (oi := { dst := some 14, op := Go.Op.indexAddr 37 (Go.Operand.tmp 11) (Go.Operand.tmp 13), type := 0, pos := "l04_bulletins.go:338", after := #[{ on := 5, ground := Go.Ground.data }, { on := 7, ground := Go.Ground.data }], guard := none }) (v := (.pointer (some ⟨w.heap.size, z2.toNat, none⟩))) rfl (by kernel_rfl) (by kernel_rfl) (by kernel_rfl) (fun c a w h => hP c a _ _ w h) (Or.inl ⟨by rfl, ?_⟩) (by assumption) ?_
    · intro w hSw; have g1 := h2.1.1; have g2 := h2.1.2; go_simp
    (try simp only [Act.put, List.setIfInBounds_toArray, List.set_cons_zero, List.set_cons_succ])
    refine wpAnyH_take (i := 9) (oi := { dst := some 15, op := Go.Op.load 9 (Go.Operand.tmp 14), type := 9, pos := "l04_bulletins.go:338", after := #[{ on := 8, ground := Go.Ground.data }], guard := none }) (v := (.string q2)) rfl (by kernel_rfl) (by kernel_rfl) (by kernel_rfl) (fun c a w h => hP c a _ _ w h) (Or.inl ⟨by rfl, ?_⟩) (by assumption) ?_
    · intro w hSw; have cc := blk_cell (hSw.l2 _ rfl).on h2.2.2; go_simp
    (try simp only [Act.put, List.setIfInBounds_toArray, List.set_cons_zero, List.set_cons_succ])
    exact st31110 hP hQ h1 h2 h3 (b1) (w.heap.size) (b3) _ hS2
  refine AllReadyH.cons (o := { dst := some 20, op := Go.Op.call { callee := Go.Callee.value (Go.Operand.func 13), args := #[Go.Operand.tmp 19, Go.Operand.const (Go.Value.int Go.IntKind.i64 3)], argTypes := #[33, 3] }, type := 3, pos := "l04_bulletins.go:338", after := #[{ on := 13, ground := Go.Ground.data }, { on := 11, ground := Go.Ground.chain }], guard := none }) rfl (fun K hK => ?_) ?_
  · have rdw := hS.rd
    go_simp
    go_at_call 13
    refine (below_all r _ rdw 3 (by omega) (by omega)).mono ?_
    rintro e w1 ⟨⟨z4, hz, rfl⟩, k1, t1⟩
    obtain ⟨q4, hq, hcq⟩ := centre_of z4 hz.1 hz.2
    have h4 : H4 z4 q4 := ⟨hz, hq, hcq⟩
    clear hq hcq hz
    have hS2 := hS.turn t1 k1
    clear k1 t1 hS rdw
    go_wp2_with fail
    refine hK.out _ _ (by first | exact hS2 | exact hS2.less1 | exact hS2.less2 | exact hS2.less3 | exact hS2.less4) (fun _ => ?_)
    clear hK K
    refine wpAnyH_take (i := 15) (oi := { dst := some 21, op := Go.Op.indexAddr 37 (Go.Operand.tmp 18) (Go.Operand.tmp 20), type := 0, pos := "l04_bulletins.go:338", after := #[{ on := 12, ground := Go.Ground.data }, { on := 14, ground := Go.Ground.data }], guard := none }) (v := (.pointer (some ⟨b3, z4.toNat, none⟩))) rfl (by kernel_rfl) (by kernel_rfl) (by kernel_rfl) (fun c a w h => hP c a _ _ w h) (Or.inl ⟨by rfl, ?_⟩) (by assumption) ?_
    · intro w hSw; have g1 := h4.1.1; have g2 := h4.1.2; go_simp
    (try simp only [Act.put, List.setIfInBounds_toArray, List.set_cons_zero, List.set_cons_succ])
    refine wpAnyH_take (i := 16) (oi := { dst := some 22, op := Go.Op.load 9 (Go.Operand.tmp 21), type := 9, pos := "l04_bulletins.go:338", after := #[{ on := 15, ground := Go.Ground.data }], guard := none }) (v := (.string q4)) rfl (by kernel_rfl) (by kernel_rfl) (by kernel_rfl) (fun c a w h => hP c a _ _ w h) (Or.inl ⟨by rfl, ?_⟩) (by assumption) ?_
    · intro w hSw; have cc := blk_cell (hSw.l3 _ rfl).on h4.2.2; go_simp
    (try simp only [Act.put, List.setIfInBounds_toArray, List.set_cons_zero, List.set_cons_succ])
    exact st41010 hP hQ h1 h2 h3 h4 (b1) (b3) _ hS2
  refine AllReadyH.cons (o := { dst := some 3, op := Go.Op.alloc 25, type := 0, pos := "l04_bulletins.go:338", after := #[], guard := none }) rfl (fun K hK => ?_) ?_
  · go_simp
    have hS2 : Sn r W (some (b1)) none (some (b3)) (some (w.heap.size)) (w.alloc oH) := hS.lit4
    refine hK.out _ _ (by first | exact hS2 | exact hS2.less1 | exact hS2.less2 | exact hS2.less3 | exact hS2.less4) (fun _ => ?_)
    clear hK K
    refine wpAnyH_weak (S1 := Sn r W (some (b1)) none (some (b3)) (some (w.heap.size))) (fun _ h => h.less4) _ _ _ _ ?_
    exact st31011 hP hQ h1 h2 h3 (b1) (b3) (w.heap.size) _ hS2
  exact AllReadyH.nil
set_option maxHeartbeats 2000000 in
theorem st31100 {r : Nat} {W : World} {Q : Exit → Act → World → Prop} (hP : ∀ c (a : Act) d (v : Value) w, Q (.panic c) (a.put d v) w → Q (.panic c) a w) (hQ : ∀ (bx : Nat) (u6 u7 u8 u9 u10 u11 u12 u13 u14 u15 u16 u17 u18 u19 u20 u21 u22 u23 u24 u25 u26 u27 u28 u29 u30 u31 u32 : Value) (w : World), Fin r W bx w → Q .normal ⟨#[.pointer (some ⟨r, 0, none⟩), undef, .pointer (some ⟨W.heap.size, 0, none⟩), .pointer (some ⟨bx, 0, none⟩), undef, undef, u6, u7, u8, u9, u10, u11, u12, u13, u14, u15, u16, u17, u18, u19, u20, u21, u22, u23, u24, u25, u26, u27, u28, u29, u30, u31, u32, undef, undef, undef, undef, undef, undef, undef, undef, undef, undef], []⟩ w) {z1 : Int} {q1 : ByteArray} (h1 : H1 z1 q1) {z2 : Int} {q2 : ByteArray} (h2 : H2 z2 q2) {z3 : Int} (h3 : 0 ≤ z3 ∧ z3 < 100) (b1 : Nat) (b2 : Nat) (w : World) (hS : Sn r W (some (b1)) (some (b2)) none none w) : wpAnyH Tryd.prog .any OPS Q (Sn r W (some (b1)) (some (b2)) none none) 12 #[true, true, true, true, true, true, true, true, true, true, true, true, false, true, false, false, false, true, false, false, true, false, true, false, true, false, false, false, false] ⟨#[.pointer (some ⟨r, 0, none⟩), undef, .pointer (some ⟨W.heap.size, 0, none⟩), undef, undef, undef, .slice (some ⟨b1, 0, none⟩) 5 5, .pointer (some ⟨r, 0, none⟩), .int .i64 z1, .pointer (some ⟨b1, z1.toNat, none⟩), .string q1, .slice (some ⟨b2, 0, none⟩) 3 3, .pointer (some ⟨r, 0, none⟩), .int .i64 z2, .pointer (some ⟨b2, z2.toNat, none⟩), .string q2, .pointer (some ⟨r, 0, none⟩), .int .i64 z3, undef, .pointer (some ⟨r, 0, none⟩), undef, undef, undef, .pointer (some ⟨r, 0, none⟩), undef, undef, .pointer (some ⟨r, 0, none⟩), undef, .pointer (some ⟨r, 0, none⟩), undef, .pointer (some ⟨r, 0, none⟩), undef, undef, undef, undef, undef, undef, undef, undef, undef, undef, undef, undef], []⟩ w := by
  refine wpAnyH_ready (rs := [12, 14, 27]) (by kernel_rfl) (by simp) ?_
  refine AllReadyH.cons (o := { dst := some 18, op := Go.Op.buildSlice 37 3 #[(0, Go.Operand.const (Go.Value.string { data := #[65, 77, 77, 67] })), (1, Go.Operand.const (Go.Value.string { data := #[69, 78, 77, 73] })), (2, Go.Operand.const (Go.Value.string { data := #[75, 49, 65, 65] }))], type := 37, pos := "l04_bulletins.go:338", after := #[], guard := none }) rfl (fun K hK => ?_) ?_
  · go_simp
    have hS2 : Sn r W (some (b1)) (some (b2)) (some (w.heap.size)) none (w.alloc oC) := hS.lit3
    refine hK.out _ _ (by first | exact hS2 | exact hS2.less1 | exact hS2.less2 | exact hS2.less3 | exact hS2.less4) (fun _ => ?_)
    clear hK K
    refine wpAnyH_weak (S1 := Sn r W (some (b1)) (some (b2)) (some (w.heap.size)) none) (fun _ h => h.less3) _ _ _ _ ?_
    exact st31110 hP hQ h1 h2 h3 (b1) (b2) (w.heap.size) _ hS2
  refine AllReadyH.cons (o := { dst := some 20, op := Go.Op.call { callee := Go.Callee.value (Go.Operand.func 13), args := #[Go.Operand.tmp 19, Go.Operand.const (Go.Value.int Go.IntKind.i64 3)], argTypes := #[33, 3] }, type := 3, pos := "l04_bulletins.go:338", after := #[{ on := 13, ground := Go.Ground.data }, { on := 11, ground := Go.Ground.chain }], guard := none }) rfl (fun K hK => ?_) ?_
  · have rdw := hS.rd
    go_simp
    go_at_call 13
    refine (below_all r _ rdw 3 (by omega) (by omega)).mono ?_
    rintro e w1 ⟨⟨z4, hz, rfl⟩, k1, t1⟩
    obtain ⟨q4, hq, hcq⟩ := centre_of z4 hz.1 hz.2
    have h4 : H4 z4 q4 := ⟨hz, hq, hcq⟩
    clear hq hcq hz
    have hS2 := hS.turn t1 k1
    clear k1 t1 hS rdw
    go_wp2_with fail
    refine hK.out _ _ (by first | exact hS2 | exact hS2.less1 | exact hS2.less2 | exact hS2.less3 | exact hS2.less4) (fun _ => ?_)
    clear hK K
    exact st41100 hP hQ h1 h2 h3 h4 (b1) (b2) _ hS2
  refine AllReadyH.cons (o := { dst := some 3, op := Go.Op.alloc 25, type := 0, pos := "l04_bulletins.go:338", after := #[], guard := none }) rfl (fun K hK => ?_) ?_
  · go_simp
    have hS2 : Sn r W (some (b1)) (some (b2)) none (some (w.heap.size)) (w.alloc oH) := hS.lit4
    refine hK.out _ _ (by first | exact hS2 | exact hS2.less1 | exact hS2.less2 | exact hS2.less3 | exact hS2.less4) (fun _ => ?_)
    clear hK K
    refine wpAnyH_weak (S1 := Sn r W (some (b1)) (some (b2)) none (some (w.heap.size))) (fun _ h => h.less4) _ _ _ _ ?_
    exact st31101 hP hQ h1 h2 h3 (b1) (b2) (w.heap.size) _ hS2
  exact AllReadyH.nil
set_option maxHeartbeats 2000000 in
theorem st30001 {r : Nat} {W : World} {Q : Exit → Act → World → Prop} (hP : ∀ c (a : Act) d (v : Value) w, Q (.panic c) (a.put d v) w → Q (.panic c) a w) (hQ : ∀ (bx : Nat) (u6 u7 u8 u9 u10 u11 u12 u13 u14 u15 u16 u17 u18 u19 u20 u21 u22 u23 u24 u25 u26 u27 u28 u29 u30 u31 u32 : Value) (w : World), Fin r W bx w → Q .normal ⟨#[.pointer (some ⟨r, 0, none⟩), undef, .pointer (some ⟨W.heap.size, 0, none⟩), .pointer (some ⟨bx, 0, none⟩), undef, undef, u6, u7, u8, u9, u10, u11, u12, u13, u14, u15, u16, u17, u18, u19, u20, u21, u22, u23, u24, u25, u26, u27, u28, u29, u30, u31, u32, undef, undef, undef, undef, undef, undef, undef, undef, undef, undef], []⟩ w) {z1 : Int} {q1 : ByteArray} (h1 : H1 z1 q1) {z2 : Int} {q2 : ByteArray} (h2 : H2 z2 q2) {z3 : Int} (h3 : 0 ≤ z3 ∧ z3 < 100) (b4 : Nat) (w : World) (hS : Sn r W none none none (some (b4)) w) : wpAnyH Tryd.prog .any OPS Q (Sn r W none none none (some (b4))) 17 #[false, true, true, false, false, false, true, true, false, false, true, true, false, true, false, false, false, true, false, false, true, false, true, false, true, false, false, true, false] ⟨#[.pointer (some ⟨r, 0, none⟩), undef, .pointer (some ⟨W.heap.size, 0, none⟩), .pointer (some ⟨b4, 0, none⟩), undef, undef, undef, .pointer (some ⟨r, 0, none⟩), .int .i64 z1, undef, undef, undef, .pointer (some ⟨r, 0, none⟩), .int .i64 z2, undef, undef, .pointer (some ⟨r, 0, none⟩), .int .i64 z3, undef, .pointer (some ⟨r, 0, none⟩), undef, undef, undef, .pointer (some ⟨r, 0, none⟩), undef, undef, .pointer (some ⟨r, 0, none⟩), undef, .pointer (some ⟨r, 0, none⟩), undef, .pointer (some ⟨r, 0, none⟩), undef, undef, undef, undef, undef, undef, undef, undef, undef, undef, undef, undef], []⟩ w := by
  refine wpAnyH_ready (rs := [0, 5, 12, 14]) (by kernel_rfl) (by simp) ?_
  refine AllReadyH.cons (o := { dst := some 6, op := Go.Op.buildSlice 37 5 #[(0, Go.Operand.const (Go.Value.string { data := #[83, 77] })), (1, Go.Operand.const (Go.Value.string { data := #[83, 73] })), (2, Go.Operand.const (Go.Value.string { data := #[85, 83] })), (3, Go.Operand.const (Go.Value.string { data := #[70, 84] })), (4, Go.Operand.const (Go.Value.string { data := #[87, 87] }))], type := 37, pos := "l04_bulletins.go:338", after := #[], guard := none }) rfl (fun K hK => ?_) ?_
  · go_simp
    have hS2 : Sn r W (some (w.heap.size)) none none (some (b4)) (w.alloc oK) := hS.lit1
    refine hK.out _ _ (by first | exact hS2 | exact hS2.less1 | exact hS2.less2 | exact hS2.less3 | exact hS2.less4) (fun _ => ?_)
    clear hK K
    refine wpAnyH_weak (S1 := Sn r W (some (w.heap.size)) none none (some (b4))) (fun _ h => h.less1) _ _ _ _ ?_
    refine wpAnyH_take (i := 3) (oi := { dst := some 9, op := Go.Op.indexAddr 37 (Go.Operand.tmp 6) (Go.Operand.tmp 8), type := 0, pos := "l04_bulletins.go:338", after := #[{ on := 0, ground := Go.Ground.data }, { on := 2, ground := Go.Ground.data }], guard := none }) (v := (.pointer (some ⟨w.heap.size, z1.toNat, none⟩))) rfl (by kernel_rfl) (by kernel_rfl) (by kernel_rfl) (fun c a w h => hP c a _ _ w h) (Or.inl ⟨by rfl, ?_⟩) (by assumption) ?_
    · intro w hSw; have g1 := h1.1.1; have g2 := h1.1.2; go_simp
    (try simp only [Act.put, List.setIfInBounds_toArray, List.set_cons_zero, List.set_cons_succ])
    refine wpAnyH_take (i := 4) (oi := { dst := some 10, op := Go.Op.load 9 (Go.Operand.tmp 9), type := 9, pos := "l04_bulletins.go:338", after := #[{ on := 3, ground := Go.Ground.data }], guard := none }) (v := (.string q1)) rfl (by kernel_rfl) (by kernel_rfl) (by kernel_rfl) (fun c a w h => hP c a _ _ w h) (Or.inl ⟨by rfl, ?_⟩) (by assumption) ?_
    · intro w hSw; have cc := blk_cell (hSw.l1 _ rfl).on h1.2.2; go_simp
    (try simp only [Act.put, List.setIfInBounds_toArray, List.set_cons_zero, List.set_cons_succ])
    exact st31001 hP hQ h1 h2 h3 (w.heap.size) (b4) _ hS2
  refine AllReadyH.cons (o := { dst := some 11, op := Go.Op.buildSlice 37 3 #[(0, Go.Operand.const (Go.Value.string { data := #[68, 76] })), (1, Go.Operand.const (Go.Value.string { data := #[78, 79] })), (2, Go.Operand.const (Go.Value.string { data := #[88, 88] }))], type := 37, pos := "l04_bulletins.go:338", after := #[], guard := none }) rfl (fun K hK => ?_) ?_
  · go_simp
    have hS2 : Sn r W none (some (w.heap.size)) none (some (b4)) (w.alloc oA) := hS.lit2
    refine hK.out _ _ (by first | exact hS2 | exact hS2.less1 | exact hS2.less2 | exact hS2.less3 | exact hS2.less4) (fun _ => ?_)
    clear hK K
    refine wpAnyH_weak (S1 := Sn r W none (some (w.heap.size)) none (some (b4))) (fun _ h => h.less2) _ _ _ _ ?_
    refine wpAnyH_take (i := 8) (oi := { dst := some 14, op := Go.Op.indexAddr 37 (Go.Operand.tmp 11) (Go.Operand.tmp 13), type := 0, pos := "l04_bulletins.go:338", after := #[{ on := 5, ground := Go.Ground.data }, { on := 7, ground := Go.Ground.data }], guard := none }) (v := (.pointer (some ⟨w.heap.size, z2.toNat, none⟩))) rfl (by kernel_rfl) (by kernel_rfl) (by kernel_rfl) (fun c a w h => hP c a _ _ w h) (Or.inl ⟨by rfl, ?_⟩) (by assumption) ?_
    · intro w hSw; have g1 := h2.1.1; have g2 := h2.1.2; go_simp
    (try simp only [Act.put, List.setIfInBounds_toArray, List.set_cons_zero, List.set_cons_succ])
    refine wpAnyH_take (i := 9) (oi := { dst := some 15, op := Go.Op.load 9 (Go.Operand.tmp 14), type := 9, pos := "l04_bulletins.go:338", after := #[{ on := 8, ground := Go.Ground.data }], guard := none }) (v := (.string q2)) rfl (by kernel_rfl) (by kernel_rfl) (by kernel_rfl) (fun c a w h => hP c a _ _ w h) (Or.inl ⟨by rfl, ?_⟩) (by assumption) ?_
    · intro w hSw; have cc := blk_cell (hSw.l2 _ rfl).on h2.2.2; go_simp
    (try simp only [Act.put, List.setIfInBounds_toArray, List.set_cons_zero, List.set_cons_succ])
    exact st30101 hP hQ h1 h2 h3 (w.heap.size) (b4) _ hS2
  refine AllReadyH.cons (o := { dst := some 18, op := Go.Op.buildSlice 37 3 #[(0, Go.Operand.const (Go.Value.string { data := #[65, 77, 77, 67] })), (1, Go.Operand.const (Go.Value.string { data := #[69, 78, 77, 73] })), (2, Go.Operand.const (Go.Value.string { data := #[75, 49, 65, 65] }))], type := 37, pos := "l04_bulletins.go:338", after := #[], guard := none }) rfl (fun K hK => ?_) ?_
  · go_simp
    have hS2 : Sn r W none none (some (w.heap.size)) (some (b4)) (w.alloc oC) := hS.lit3
    refine hK.out _ _ (by first | exact hS2 | exact hS2.less1 | exact hS2.less2 | exact hS2.less3 | exact hS2.less4) (fun _ => ?_)
    clear hK K
    refine wpAnyH_weak (S1 := Sn r W none none (some (w.heap.size)) (some (b4))) (fun _ h => h.less3) _ _ _ _ ?_
    exact st30011 hP hQ h1 h2 h3 (w.heap.size) (b4) _ hS2
  refine AllReadyH.cons (o := { dst := some 20, op := Go.Op.call { callee := Go.Callee.value (Go.Operand.func 13), args := #[Go.Operand.tmp 19, Go.Operand.const (Go.Value.int Go.IntKind.i64 3)], argTypes := #[33, 3] }, type := 3, pos := "l04_bulletins.go:338", after := #[{ on := 13, ground := Go.Ground.data }, { on := 11, ground := Go.Ground.chain }], guard := none }) rfl (fun K hK => ?_) ?_
  · have rdw := hS.rd
    go_simp
    go_at_call 13
    refine (below_all r _ rdw 3 (by omega) (by omega)).mono ?_
    rintro e w1 ⟨⟨z4, hz, rfl⟩, k1, t1⟩
    obtain ⟨q4, hq, hcq⟩ := centre_of z4 hz.1 hz.2
    have h4 : H4 z4 q4 := ⟨hz, hq, hcq⟩
    clear hq hcq hz
    have hS2 := hS.turn t1 k1
    clear k1 t1 hS rdw
    go_wp2_with fail
    refine hK.out _ _ (by first | exact hS2 | exact hS2.less1 | exact hS2.less2 | exact hS2.less3 | exact hS2.less4) (fun _ => ?_)
    clear hK K
    exact st40001 hP hQ h1 h2 h3 h4 (b4) _ hS2
  exact AllReadyH.nil
set_option maxHeartbeats 2000000 in
theorem st30010 {r : Nat} {W : World} {Q : Exit → Act → World → Prop} (hP : ∀ c (a : Act) d (v : Value) w, Q (.panic c) (a.put d v) w → Q (.panic c) a w) (hQ : ∀ (bx : Nat) (u6 u7 u8 u9 u10 u11 u12 u13 u14 u15 u16 u17 u18 u19 u20 u21 u22 u23 u24 u25 u26 u27 u28 u29 u30 u31 u32 : Value) (w : World), Fin r W bx w → Q .normal ⟨#[.pointer (some ⟨r, 0, none⟩), undef, .pointer (some ⟨W.heap.size, 0, none⟩), .pointer (some ⟨bx, 0, none⟩), undef, undef, u6, u7, u8, u9, u10, u11, u12, u13, u14, u15, u16, u17, u18, u19, u20, u21, u22, u23, u24, u25, u26, u27, u28, u29, u30, u31, u32, undef, undef, undef, undef, undef, undef, undef, undef, undef, undef], []⟩ w) {z1 : Int} {q1 : ByteArray} (h1 : H1 z1 q1) {z2 : Int} {q2 : ByteArray} (h2 : H2 z2 q2) {z3 : Int} (h3 : 0 ≤ z3 ∧ z3 < 100) (b3 : Nat) (w : World) (hS : Sn r W none none (some (b3)) none w) : wpAnyH Tryd.prog .any OPS Q (Sn r W none none (some (b3)) none) 17 #[false, true, true, false, false, false, true, true, false, false, true, true, true, true, false, false, false, true, false, false, true, false, true, false, true, false, false, false, false] ⟨#[.pointer (some ⟨r, 0, none⟩), undef, .pointer (some ⟨W.heap.size, 0, none⟩), undef, undef, undef, undef, .pointer (some ⟨r, 0, none⟩), .int .i64 z1, undef, undef, undef, .pointer (some ⟨r, 0, none⟩), .int .i64 z2, undef, undef, .pointer (some ⟨r, 0, none⟩), .int .i64 z3, .slice (some ⟨b3, 0, none⟩) 3 3, .pointer (some ⟨r, 0, none⟩), undef, undef, undef, .pointer (some ⟨r, 0, none⟩), undef, undef, .pointer (some ⟨r, 0, none⟩), undef, .pointer (some ⟨r, 0, none⟩), undef, .pointer (some ⟨r, 0, none⟩), undef, undef, undef, undef, undef, undef, undef, undef, undef, undef, undef, undef], []⟩ w := by
  refine wpAnyH_ready (rs := [0, 5, 14, 27]) (by kernel_rfl) (by simp) ?_
  refine AllReadyH.cons (o := { dst := some 6, op := Go.Op.buildSlice 37 5 #[(0, Go.Operand.const (Go.Value.string { data := #[83, 77] })), (1, Go.Operand.const (Go.Value.string { data := #[83, 73] })), (2, Go.Operand.const (Go.Value.string { data := #[85, 83] })), (3, Go.Operand.const (Go.Value.string { data := #[70, 84] })), (4, Go.Operand.const (Go.Value.string { data := #[87, 87] }))], type := 37, pos := "l04_bulletins.go:338", after := #[], guard := none }) rfl (fun K hK => ?_) ?_
  · go_simp
    have hS2 : Sn r W (some (w.heap.size)) none (some (b3)) none (w.alloc oK) := hS.lit1
    refine hK.out _ _ (by first | exact hS2 | exact hS2.less1 | exact hS2.less2 | exact hS2.less3 | exact hS2.less4) (fun _ => ?_)
    clear hK K
    refine wpAnyH_weak (S1 := Sn r W (some (w.heap.size)) none (some (b3)) none) (fun _ h => h.less1) _ _ _ _ ?_
    refine wpAnyH_take (i := 3) (oi := { dst := some 9, op := Go.Op.indexAddr 37 (Go.Operand.tmp 6) (Go.Operand.tmp 8), type := 0, pos := "l04_bulletins.go:338", after := #[{ on := 0, ground := Go.Ground.data }, { on := 2, ground := Go.Ground.data }], guard := none }) (v := (.pointer (some ⟨w.heap.size, z1.toNat, none⟩))) rfl (by kernel_rfl) (by kernel_rfl) (by kernel_rfl) (fun c a w h => hP c a _ _ w h) (Or.inl ⟨by rfl, ?_⟩) (by assumption) ?_
    · intro w hSw; have g1 := h1.1.1; have g2 := h1.1.2; go_simp
    (try simp only [Act.put, List.setIfInBounds_toArray, List.set_cons_zero, List.set_cons_succ])
    refine wpAnyH_take (i := 4) (oi := { dst := some 10, op := Go.Op.load 9 (Go.Operand.tmp 9), type := 9, pos := "l04_bulletins.go:338", after := #[{ on := 3, ground := Go.Ground.data }], guard := none }) (v := (.string q1)) rfl (by kernel_rfl) (by kernel_rfl) (by kernel_rfl) (fun c a w h => hP c a _ _ w h) (Or.inl ⟨by rfl, ?_⟩) (by assumption) ?_
    · intro w hSw; have cc := blk_cell (hSw.l1 _ rfl).on h1.2.2; go_simp
    (try simp only [Act.put, List.setIfInBounds_toArray, List.set_cons_zero, List.set_cons_succ])
    exact st31010 hP hQ h1 h2 h3 (w.heap.size) (b3) _ hS2
  refine AllReadyH.cons (o := { dst := some 11, op := Go.Op.buildSlice 37 3 #[(0, Go.Operand.const (Go.Value.string { data := #[68, 76] })), (1, Go.Operand.const (Go.Value.string { data := #[78, 79] })), (2, Go.Operand.const (Go.Value.string { data := #[88, 88] }))], type := 37, pos := "l04_bulletins.go:338", after := #[], guard := none }) rfl (fun K hK => ?_) ?_
  · go_simp
    have hS2 : Sn r W none (some (w.heap.size)) (some (b3)) none (w.alloc oA) := hS.lit2
    refine hK.out _ _ (by first | exact hS2 | exact hS2.less1 | exact hS2.less2 | exact hS2.less3 | exact hS2.less4) (fun _ => ?_)
    clear hK K
    refine wpAnyH_weak (S1 := Sn r W none (some (w.heap.size)) (some (b3)) none) (fun _ h => h.less2) _ _ _ _ ?_
    refine wpAnyH_take (i := 8) (oi := { dst := some 14, op := Go.Op.indexAddr 37 (Go.Operand.tmp 11) (Go.Operand.tmp 13), type := 0, pos := "l04_bulletins.go:338", after := #[{ on := 5, ground := Go.Ground.data }, { on := 7, ground := Go.Ground.data }], guard := none }) (v := (.pointer (some ⟨w.heap.size, z2.toNat, none⟩))) rfl (by kernel_rfl) (by kernel_rfl) (by kernel_rfl) (fun c a w h => hP c a _ _ w h) (Or.inl ⟨by rfl, ?_⟩) (by assumption) ?_
    · intro w hSw; have g1 := h2.1.1; have g2 := h2.1.2; go_simp
    (try simp only [Act.put, List.setIfInBounds_toArray, List.set_cons_zero, List.set_cons_succ])
    refine wpAnyH_take (i := 9) (oi := { dst := some 15, op := Go.Op.load 9 (Go.Operand.tmp 14), type := 9, pos := "l04_bulletins.go:338", after := #[{ on := 8, ground := Go.Ground.data }], guard := none }) (v := (.string q2)) rfl (by kernel_rfl) (by kernel_rfl) (by kernel_rfl) (fun c a w h => hP c a _ _ w h) (Or.inl ⟨by rfl, ?_⟩) (by assumption) ?_
    · intro w hSw; have cc := blk_cell (hSw.l2 _ rfl).on h2.2.2; go_simp
    (try simp only [Act.put, List.setIfInBounds_toArray, List.set_cons_zero, List.set_cons_succ])
    exact st30110 hP hQ h1 h2 h3 (w.heap.size) (b3) _ hS2
  refine AllReadyH.cons (o := { dst := some 20, op := Go.Op.call { callee := Go.Callee.value (Go.Operand.func 13), args := #[Go.Operand.tmp 19, Go.Operand.const (Go.Value.int Go.IntKind.i64 3)], argTypes := #[33, 3] }, type := 3, pos := "l04_bulletins.go:338", after := #[{ on := 13, ground := Go.Ground.data }, { on := 11, ground := Go.Ground.chain }], guard := none }) rfl (fun K hK => ?_) ?_
  · have rdw := hS.rd
    go_simp
    go_at_call 13
    refine (below_all r _ rdw 3 (by omega) (by omega)).mono ?_
    rintro e w1 ⟨⟨z4, hz, rfl⟩, k1, t1⟩
    obtain ⟨q4, hq, hcq⟩ := centre_of z4 hz.1 hz.2
    have h4 : H4 z4 q4 := ⟨hz, hq, hcq⟩
    clear hq hcq hz
    have hS2 := hS.turn t1 k1
    clear k1 t1 hS rdw
    go_wp2_with fail
    refine hK.out _ _ (by first | exact hS2 | exact hS2.less1 | exact hS2.less2 | exact hS2.less3 | exact hS2.less4) (fun _ => ?_)
    clear hK K
    refine wpAnyH_take (i := 15) (oi := { dst := some 21, op := Go.Op.indexAddr 37 (Go.Operand.tmp 18) (Go.Operand.tmp 20), type := 0, pos := "l04_bulletins.go:338", after := #[{ on := 12, ground := Go.Ground.data }, { on := 14, ground := Go.Ground.data }], guard := none }) (v := (.pointer (some ⟨b3, z4.toNat, none⟩))) rfl (by kernel_rfl) (by kernel_rfl) (by kernel_rfl) (fun c a w h => hP c a _ _ w h) (Or.inl ⟨by rfl, ?_⟩) (by assumption) ?_
    · intro w hSw; have g1 := h4.1.1; have g2 := h4.1.2; go_simp
    (try simp only [Act.put, List.setIfInBounds_toArray, List.set_cons_zero, List.set_cons_succ])
    refine wpAnyH_take (i := 16) (oi := { dst := some 22, op := Go.Op.load 9 (Go.Operand.tmp 21), type := 9, pos := "l04_bulletins.go:338", after := #[{ on := 15, ground := Go.Ground.data }], guard := none }) (v := (.string q4)) rfl (by kernel_rfl) (by kernel_rfl) (by kernel_rfl) (fun c a w h => hP c a _ _ w h) (Or.inl ⟨by rfl, ?_⟩) (by assumption) ?_
    · intro w hSw; have cc := blk_cell (hSw.l3 _ rfl).on h4.2.2; go_simp
    (try simp only [Act.put, List.setIfInBounds_toArray, List.set_cons_zero, List.set_cons_succ])
    exact st40010 hP hQ h1 h2 h3 h4 (b3) _ hS2
  refine AllReadyH.cons (o := { dst := some 3, op := Go.Op.alloc 25, type := 0, pos := "l04_bulletins.go:338", after := #[], guard := none }) rfl (fun K hK => ?_) ?_
  · go_simp
    have hS2 : Sn r W none none (some (b3)) (some (w.heap.size)) (w.alloc oH) := hS.lit4
    refine hK.out _ _ (by first | exact hS2 | exact hS2.less1 | exact hS2.less2 | exact hS2.less3 | exact hS2.less4) (fun _ => ?_)
    clear hK K
    refine wpAnyH_weak (S1 := Sn r W none none (some (b3)) (some (w.heap.size))) (fun _ h => h.less4) _ _ _ _ ?_
    exact st30011 hP hQ h1 h2 h3 (b3) (w.heap.size) _ hS2
  exact AllReadyH.nil
set_option maxHeartbeats 2000000 in
theorem st30100 {r : Nat} {W : World} {Q : Exit → Act → World → Prop} (hP : ∀ c (a : Act) d (v : Value) w, Q (.panic c) (a.put d v) w → Q (.panic c) a w) (hQ : ∀ (bx : Nat) (u6 u7 u8 u9 u10 u11 u12 u13 u14 u15 u16 u17 u18 u19 u20 u21 u22 u23 u24 u25 u26 u27 u28 u29 u30 u31 u32 : Value) (w : World), Fin r W bx w → Q .normal ⟨#[.pointer (some ⟨r, 0, none⟩), undef, .pointer (some ⟨W.heap.size, 0, none⟩), .pointer (some ⟨bx, 0, none⟩), undef, undef, u6, u7, u8, u9, u10, u11, u12, u13, u14, u15, u16, u17, u18, u19, u20, u21, u22, u23, u24, u25, u26, u27, u28, u29, u30, u31, u32, undef, undef, undef, undef, undef, undef, undef, undef, undef, undef], []⟩ w) {z1 : Int} {q1 : ByteArray} (h1 : H1 z1 q1) {z2 : Int} {q2 : ByteArray} (h2 : H2 z2 q2) {z3 : Int} (h3 : 0 ≤ z3 ∧ z3 < 100) (b2 : Nat) (w : World) (hS : Sn r W none (some (b2)) none none w) : wpAnyH Tryd.prog .any OPS Q (Sn r W none (some (b2)) none none) 15 #[false, true, true, false, false, true, true, true, true, true, true, true, false, true, false, false, false, true, false, false, true, false, true, false, true, false, false, false, false] ⟨#[.pointer (some ⟨r, 0, none⟩), undef, .pointer (some ⟨W.heap.size, 0, none⟩), undef, undef, undef, undef, .pointer (some ⟨r, 0, none⟩), .int .i64 z1, undef, undef, .slice (some ⟨b2, 0, none⟩) 3 3, .pointer (some ⟨r, 0, none⟩), .int .i64 z2, .pointer (some ⟨b2, z2.toNat, none⟩), .string q2, .pointer (some ⟨r, 0, none⟩), .int .i64 z3, undef, .pointer (some ⟨r, 0, none⟩), undef, undef, undef, .pointer (some ⟨r, 0, none⟩), undef, undef, .pointer (some ⟨r, 0, none⟩), undef, .pointer (some ⟨r, 0, none⟩), undef, .pointer (some ⟨r, 0, none⟩), undef, undef, undef, undef, undef, undef, undef, undef, undef, undef, undef, undef], []⟩ w := by
  refine wpAnyH_ready (rs := [0, 12, 14, 27]) (by kernel_rfl) (by simp) ?_
  refine AllReadyH.cons (o := { dst := some 6, op := Go.Op.buildSlice 37 5 #[(0, Go.Operand.const (Go.Value.string { data := #[83, 77] })), (1, Go.Operand.const (Go.Value.string { data := #[83, 73] })), (2, Go.Operand.const (Go.Value.string { data := #[85, 83] })), (3, Go.Operand.const (Go.Value.string { data := #[70, 84] })), (4, Go.Operand.const (Go.Value.string { data := #[87, 87] }))], type := 37, pos := "l04_bulletins.go:338", after := #[], guard := none }) rfl (fun K hK => ?_) ?_
  · go_simp
    have hS2 : Sn r W (some (w.heap.size)) (some (b2)) none none (w.alloc oK) := hS.lit1
    refine hK.out _ _ (by first | exact hS2 | exact hS2.less1 | exact hS2.less2 | exact hS2.less3 | exact hS2.less4) (fun _ => ?_)
    clear hK K
    refine wpAnyH_weak (S1 := Sn r W (some (w.heap.size)) (some (b2)) none none) (fun _ h => h.less1) _ _ _ _ ?_
    refine wpAnyH_take (i := 3) (oi := { dst := some 9, op := Go.Op.indexAddr 37 (Go.Operand.tmp 6) (Go.Operand.tmp 8), type := 0, pos := "l04_bulletins.go:338", after := #[{ on := 0, ground := Go.Ground.data }, { on := 2, ground := Go.Ground.data }], guard := none }) (v := (.pointer (some ⟨w.heap.size, z1.toNat, none⟩))) rfl (by kernel_rfl) (by kernel_rfl) (by kernel_rfl) (fun c a w h => hP c a _ _ w h) (Or.inl ⟨by rfl, ?_⟩) (by assumption) ?_
    · intro w hSw; have g1 := h1.1.1; have g2 := h1.1.2; go_simp
    (try simp only [Act.put, List.setIfInBounds_toArray, List.set_cons_zero, List.set_cons_succ])
    refine wpAnyH_take (i := 4) (oi := { dst := some 10, op := Go.Op.load 9 (Go.Operand.tmp 9), type := 9, pos := "l04_bulletins.go:338", after := #[{ on := 3, ground := Go.Ground.data }], guard := none }) (v := (.string q1)) rfl (by kernel_rfl) (by kernel_rfl) (by kernel_rfl) (fun c a w h => hP c a _ _ w h) (Or.inl ⟨by rfl, ?_⟩) (by assumption) ?_
    · intro w hSw; have cc := blk_cell (hSw.l1 _ rfl).on h1.2.2; go_simp
    (try simp only [Act.put, List.setIfInBounds_toArray, List.set_cons_zero, List.set_cons_succ])
    exact st31100 hP hQ h1 h2 h3 (w.heap.size) (b2) _ hS2
  refine AllReadyH.cons (o := { dst := some 18, op := Go.Op.buildSlice 37 3 #[(0, Go.Operand.const (Go.Value.string { data := #[65, 77, 77, 67] })), (1, Go.Operand.const (Go.Value.string { data := #[69, 78, 77, 73] })), (2, Go.Operand.const (Go.Value.string { data := #[75, 49, 65, 65] }))], type := 37, pos := "l04_bulletins.go:338", after := #[], guard := none }) rfl (fun K hK => ?_) ?_
  · go_simp
    have hS2 : Sn r W none (some (b2)) (some (w.heap.size)) none (w.alloc oC) := hS.lit3
    refine hK.out _ _ (by first | exact hS2 | exact hS2.less1 | exact hS2.less2 | exact hS2.less3 | exact hS2.less4) (fun _ => ?_)
    clear hK K
    refine wpAnyH_weak (S1 := Sn r W none (some (b2)) (some (w.heap.size)) none) (fun _ h => h.less3) _ _ _ _ ?_
    exact st30110 hP hQ h1 h2 h3 (b2) (w.heap.size) _ hS2
  refine AllReadyH.cons (o := { dst := some 20, op := Go.Op.call { callee := Go.Callee.value (Go.Operand.func 13), args := #[Go.Operand.tmp 19, Go.Operand.const (Go.Value.int Go.IntKind.i64 3)], argTypes := #[33, 3] }, type := 3, pos := "l04_bulletins.go:338", after := #[{ on := 13, ground := Go.Ground.data }, { on := 11, ground := Go.Ground.chain }], guard := none }) rfl (fun K hK => ?_) ?_
  · have rdw := hS.rd
    go_simp
    go_at_call 13
    refine (below_all r _ rdw 3 (by omega) (by omega)).mono ?_
    rintro e w1 ⟨⟨z4, hz, rfl⟩, k1, t1⟩
    obtain ⟨q4, hq, hcq⟩ := centre_of z4 hz.1 hz.2
    have h4 : H4 z4 q4 := ⟨hz, hq, hcq⟩
    clear hq hcq hz
    have hS2 := hS.turn t1 k1
    clear k1 t1 hS rdw
    go_wp2_with fail
    refine hK.out _ _ (by first | exact hS2 | exact hS2.less1 | exact hS2.less2 | exact hS2.less3 | exact hS2.less4) (fun _ => ?_)
    clear hK K
    exact st40100 hP hQ h1 h2 h3 h4 (b2) _ hS2
  refine AllReadyH.cons (o := { dst := some 3, op := Go.Op.alloc 25, type := 0, pos := "l04_bulletins.go:338", after := #[], guard := none }) rfl (fun K hK => ?_) ?_
  · go_simp
    have hS2 : Sn r W none (some (b2)) none (some (w.heap.size)) (w.alloc oH) := hS.lit4
    refine hK.out _ _ (by first | exact hS2 | exact hS2.less1 | exact hS2.less2 | exact hS2.less3 | exact hS2.less4) (fun _ => ?_)
    clear hK K
    refine wpAnyH_weak (S1 := Sn r W none (some (b2)) none (some (w.heap.size))) (fun _ h => h.less4) _ _ _ _ ?_
    exact st30101 hP hQ h1 h2 h3 (b2) (w.heap.size) _ hS2
  exact AllReadyH.nil
set_option maxHeartbeats 2000000 in
theorem st31000 {r : Nat} {W : World} {Q : Exit → Act → World → Prop} (hP : ∀ c (a : Act) d (v : Value) w, Q (.panic c) (a.put d v) w → Q (.panic c) a w) (hQ : ∀ (bx : Nat) (u6 u7 u8 u9 u10 u11 u12 u13 u14 u15 u16 u17 u18 u19 u20 u21 u22 u23 u24 u25 u26 u27 u28 u29 u30 u31 u32 : Value) (w : World), Fin r W bx w → Q .normal ⟨#[.pointer (some ⟨r, 0, none⟩), undef, .pointer (some ⟨W.heap.size, 0, none⟩), .pointer (some ⟨bx, 0, none⟩), undef, undef, u6, u7, u8, u9, u10, u11, u12, u13, u14, u15, u16, u17, u18, u19, u20, u21, u22, u23, u24, u25, u26, u27, u28, u29, u30, u31, u32, undef, undef, undef, undef, undef, undef, undef, undef, undef, undef], []⟩ w) {z1 : Int} {q1 : ByteArray} (h1 : H1 z1 q1) {z2 : Int} {q2 : ByteArray} (h2 : H2 z2 q2) {z3 : Int} (h3 : 0 ≤ z3 ∧ z3 < 100) (b1 : Nat) (w : World) (hS : Sn r W (some (b1)) none none none w) : wpAnyH Tryd.prog .any OPS Q (Sn r W (some (b1)) none none none) 15 #[true, true, true, true, true, false, true, true, false, false, true, true, false, true, false, false, false, true, false, false, true, false, true, false, true, false, false, false, false] ⟨#[.pointer (some ⟨r, 0, none⟩), undef, .pointer (some ⟨W.heap.size, 0, none⟩), undef, undef, undef, .slice (some ⟨b1, 0, none⟩) 5 5, .pointer (some ⟨r, 0, none⟩), .int .i64 z1, .pointer (some ⟨b1, z1.toNat, none⟩), .string q1, undef, .pointer (some ⟨r, 0, none⟩), .int .i64 z2, undef, undef, .pointer (some ⟨r, 0, none⟩), .int .i64 z3, undef, .pointer (some ⟨r, 0, none⟩), undef, undef, undef, .pointer (some ⟨r, 0, none⟩), undef, undef, .pointer (some ⟨r, 0, none⟩), undef, .pointer (some ⟨r, 0, none⟩), undef, .pointer (some ⟨r, 0, none⟩), undef, undef, undef, undef, undef, undef, undef, undef, undef, undef, undef, undef], []⟩ w := by
  refine wpAnyH_ready (rs := [5, 12, 14, 27]) (by kernel_rfl) (by simp) ?_
  refine AllReadyH.cons (o := { dst := some 11, op := Go.Op.buildSlice 37 3 #[(0, Go.Operand.const (Go.Value.string { data := #[68, 76] })), (1, Go.Operand.const (Go.Value.string { data := #[78, 79] })), (2, Go.Operand.const (Go.Value.string { data := #[88, 88] }))], type := 37, pos := "l04_bulletins.go:338", after := #[], guard := none }) rfl (fun K hK => ?_) ?_
  · go_simp
    have hS2 : Sn r W (some (b1)) (some (w.heap.size)) none none (w.alloc oA) := hS.lit2
    refine hK.out _ _ (by first | exact hS2 | exact hS2.less1 | exact hS2.less2 | exact hS2.less3 | exact hS2.less4) (fun _ => ?_)
    clear hK K
    refine wpAnyH_weak (S1 := Sn r W (some (b1)) (some (w.heap.size)) none none) (fun _ h => h.less2) _ _ _ _ ?_
    refine wpAnyH_take (i := 8) (oi := { dst := some 14, op := Go.Op.indexAddr 37 (Go.Operand.tmp 11) (Go.Operand.tmp 13), type := 0, pos := "l04_bulletins.go:338", after := #[{ on := 5, ground := Go.Ground.data }, { on := 7, ground := Go.Ground.data }], guard := none }) (v := (.pointer (some ⟨w.heap.size, z2.toNat, none⟩))) rfl (by kernel_rfl) (by kernel_rfl) (by kernel_rfl) (fun c a w h => hP c a _ _ w h) (Or.inl ⟨by rfl, ?_⟩) (by assumption) ?_
    · intro w hSw; have g1 := h2.1.1; have g2 := h2.1.2; go_simp
    (try simp only [Act.put, List.setIfInBounds_toArray, List.set_cons_zero, List.set_cons_succ])
    refine wpAnyH_take (i := 9) (oi := { dst := some 15, op := Go.Op.load 9 (Go.Operand.tmp 14), type := 9, pos := "l04_bulletins.go:338", after := #[{ on := 8, ground := Go.Ground.data }], guard := none }) (v := (.string q2)) rfl (by kernel_rfl) (by kernel_rfl) (by kernel_rfl) (fun c a w h => hP c a _ _ w h) (Or.inl ⟨by rfl, ?_⟩) (by assumption) ?_
    · intro w hSw; have cc := blk_cell (hSw.l2 _ rfl).on h2.2.2; go_simp
    (try simp only [Act.put, List.setIfInBounds_toArray, List.set_cons_zero, List.set_cons_succ])
    exact st31100 hP hQ h1 h2 h3 (b1) (w.heap.size) _ hS2
  refine AllReadyH.cons (o := { dst := some 18, op := Go.Op.buildSlice 37 3 #[(0, Go.Operand.const (Go.Value.string { data := #[65, 77, 77, 67] })), (1, Go.Operand.const (Go.Value.string { data := #[69, 78, 77, 73] })), (2, Go.Operand.const (Go.Value.string { data := #[75, 49, 65, 65] }))], type := 37, pos := "l04_bulletins.go:338", after := #[], guard := none }) rfl (fun K hK => ?_) ?_
  · go_simp
    have hS2 : Sn r W (some (b1)) none (some (w.heap.size)) none (w.alloc oC) := hS.lit3
    refine hK.out _ _ (by first | exact hS2 | exact hS2.less1 | exact hS2.less2 | exact hS2.less3 | exact hS2.less4) (fun _ => ?_)
    clear hK K
    refine wpAnyH_weak (S1 := Sn r W (some (b1)) none (some (w.heap.size)) none) (fun _ h => h.less3) _ _ _ _ ?_
    exact st31010 hP hQ h1 h2 h3 (b1) (w.heap.size) _ hS2
  refine AllReadyH.cons (o := { dst := some 20, op := Go.Op.call { callee := Go.Callee.value (Go.Operand.func 13), args := #[Go.Operand.tmp 19, Go.Operand.const (Go.Value.int Go.IntKind.i64 3)], argTypes := #[33, 3] }, type := 3, pos := "l04_bulletins.go:338", after := #[{ on := 13, ground := Go.Ground.data }, { on := 11, ground := Go.Ground.chain }], guard := none }) rfl (fun K hK => ?_) ?_
  · have rdw := hS.rd
    go_simp
    go_at_call 13
    refine (below_all r _ rdw 3 (by omega) (by omega)).mono ?_
    rintro e w1 ⟨⟨z4, hz, rfl⟩, k1, t1⟩
    obtain ⟨q4, hq, hcq⟩ := centre_of z4 hz.1 hz.2
    have h4 : H4 z4 q4 := ⟨hz, hq, hcq⟩
    clear hq hcq hz
    have hS2 := hS.turn t1 k1
    clear k1 t1 hS rdw
    go_wp2_with fail
    refine hK.out _ _ (by first | exact hS2 | exact hS2.less1 | exact hS2.less2 | exact hS2.less3 | exact hS2.less4) (fun _ => ?_)
    clear hK K
    exact st41000 hP hQ h1 h2 h3 h4 (b1) _ hS2
  refine AllReadyH.cons (o := { dst := some 3, op := Go.Op.alloc 25, type := 0, pos := "l04_bulletins.go:338", after := #[], guard := none }) rfl (fun K hK => ?_) ?_
  · go_simp
    have hS2 : Sn r W (some (b1)) none none (some (w.heap.size)) (w.alloc oH) := hS.lit4
    refine hK.out _ _ (by first | exact hS2 | exact hS2.less1 | exact hS2.less2 | exact hS2.less3 | exact hS2.less4) (fun _ => ?_)
    clear hK K
    refine wpAnyH_weak (S1 := Sn r W (some (b1)) none none (some (w.heap.size))) (fun _ h => h.less4) _ _ _ _ ?_
    exact st31001 hP hQ h1 h2 h3 (b1) (w.heap.size) _ hS2
  exact AllReadyH.nil
set_option maxHeartbeats 2000000 in
theorem st30000 {r : Nat} {W : World} {Q : Exit → Act → World → Prop} (hP : ∀ c (a : Act) d (v : Value) w, Q (.panic c) (a.put d v) w → Q (.panic c) a w) (hQ : ∀ (bx : Nat) (u6 u7 u8 u9 u10 u11 u12 u13 u14 u15 u16 u17 u18 u19 u20 u21 u22 u23 u24 u25 u26 u27 u28 u29 u30 u31 u32 : Value) (w : World), Fin r W bx w → Q .normal ⟨#[.pointer (some ⟨r, 0, none⟩), undef, .pointer (some ⟨W.heap.size, 0, none⟩), .pointer (some ⟨bx, 0, none⟩), undef, undef, u6, u7, u8, u9, u10, u11, u12, u13, u14, u15, u16, u17, u18, u19, u20, u21, u22, u23, u24, u25, u26, u27, u28, u29, u30, u31, u32, undef, undef, undef, undef, undef, undef, undef, undef, undef, undef], []⟩ w) {z1 : Int} {q1 : ByteArray} (h1 : H1 z1 q1) {z2 : Int} {q2 : ByteArray} (h2 : H2 z2 q2) {z3 : Int} (h3 : 0 ≤ z3 ∧ z3 < 100) (w : World) (hS : Sn r W none none none none w) : wpAnyH Tryd.prog .any OPS Q (Sn r W none none none none) 18 #[false, true, true, false, false, false, true, true, false, false, true, true, false, true, false, false, false, true, false, false, true, false, true, false, true, false, false, false, false] ⟨#[.pointer (some ⟨r, 0, none⟩), undef, .pointer (some ⟨W.heap.size, 0, none⟩), undef, undef, undef, undef, .pointer (some ⟨r, 0, none⟩), .int .i64 z1, undef, undef, undef, .pointer (some ⟨r, 0, none⟩), .int .i64 z2, undef, undef, .pointer (some ⟨r, 0, none⟩), .int .i64 z3, undef, .pointer (some ⟨r, 0, none⟩), undef, undef, undef, .pointer (some ⟨r, 0, none⟩), undef, undef, .pointer (some ⟨r, 0, none⟩), undef, .pointer (some ⟨r, 0, none⟩), undef, .pointer (some ⟨r, 0, none⟩), undef, undef, undef, undef, undef, undef, undef, undef, undef, undef, undef, undef], []⟩ w := by
  refine wpAnyH_ready (rs := [0, 5, 12, 14, 27]) (by kernel_rfl) (by simp) ?_
  refine AllReadyH.cons (o := { dst := some 6, op := Go.Op.buildSlice 37 5 #[(0, Go.Operand.const (Go.Value.string { data := #[83, 77] })), (1, Go.Operand.const (Go.Value.string { data := #[83, 73] })), (2, Go.Operand.const (Go.Value.string { data := #[85, 83] })), (3, Go.Operand.const (Go.Value.string { data := #[70, 84] })), (4, Go.Operand.const (Go.Value.string { data := #[87, 87] }))], type := 37, pos := "l04_bulletins.go:338", after := #[], guard := none }) rfl (fun K hK => ?_) ?_
  · go_simp
    have hS2 : Sn r W (some (w.heap.size)) none none none (w.alloc oK) := hS.lit1
    refine hK.out _ _ (by first | exact hS2 | exact hS2.less1 | exact hS2.less2 | exact hS2.less3 | exact hS2.less4) (fun _ => ?_)
    clear hK K
    refine wpAnyH_weak (S1 := Sn r W (some (w.heap.size)) none none none) (fun _ h => h.less1) _ _ _ _ ?_
    refine wpAnyH_take (i := 3) (oi := { dst := some 9, op := Go.Op.indexAddr 37 (Go.Operand.tmp 6) (Go.Operand.tmp 8), type := 0, pos := "l04_bulletins.go:338", after := #[{ on := 0, ground := Go.Ground.data }, { on := 2, ground := Go.Ground.data }], guard := none }) (v := (.pointer (some ⟨w.heap.size, z1.toNat, none⟩))) rfl (by kernel_rfl) (by kernel_rfl) (by kernel_rfl) (fun c a w h => hP c a _ _ w h) (Or.inl ⟨by rfl, ?_⟩) (by assumption) ?_
    · intro w hSw; have g1 := h1.1.1; have g2 := h1.1.2; go_simp
    (try simp only [Act.put, List.setIfInBounds_toArray, List.set_cons_zero, List.set_cons_succ])
    refine wpAnyH_take (i := 4) (oi := { dst := some 10, op := Go.Op.load 9 (Go.Operand.tmp 9), type := 9, pos := "l04_bulletins.go:338", after := #[{ on := 3, ground := Go.Ground.data }], guard := none }) (v := (.string q1)) rfl (by kernel_rfl) (by kernel_rfl) (by kernel_rfl) (fun c a w h => hP c a _ _ w h) (Or.inl ⟨by rfl, ?_⟩) (by assumption) ?_
    · intro w hSw; have cc := blk_cell (hSw.l1 _ rfl).on h1.2.2; go_simp
    (try simp only [Act.put, List.setIfInBounds_toArray, List.set_cons_zero, List.set_cons_succ])
    exact st31000 hP hQ h1 h2 h3 (w.heap.size) _ hS2
  refine AllReadyH.cons (o := { dst := some 11, op := Go.Op.buildSlice 37 3 #[(0, Go.Operand.const (Go.Value.string { data := #[68, 76] })), (1, Go.Operand.const (Go.Value.string { data := #[78, 79] })), (2, Go.Operand.const (Go.Value.string { data := #[88, 88] }))], type := 37, pos := "l04_bulletins.go:338", after := #[], guard := none }) rfl (fun K hK => ?_) ?_
  · go_simp
    have hS2 : Sn r W none (some (w.heap.size)) none none (w.alloc oA) := hS.lit2
    refine hK.out _ _ (by first | exact hS2 | exact hS2.less1 | exact hS2.less2 | exact hS2.less3 | exact hS2.less4) (fun _ => ?_)
    clear hK K
    refine wpAnyH_weak (S1 := Sn r W none (some (w.heap.size)) none none) (fun _ h => h.less2) _ _ _ _ ?_
    refine wpAnyH_take (i := 8) (oi := { dst := some 14, op := Go.Op.indexAddr 37 (Go.Operand.tmp 11) (Go.Operand.tmp 13), type := 0, pos := "l04_bulletins.go:338", after := #[{ on := 5, ground := Go.Ground.data }, { on := 7, ground := Go.Ground.data }], guard := none }) (v := (.pointer (some ⟨w.heap.size, z2.toNat, none⟩))) rfl (by kernel_rfl) (by kernel_rfl) (by kernel_rfl) (fun c a w h => hP c a _ _ w h) (Or.inl ⟨by rfl, ?_⟩) (by assumption) ?_
    · intro w hSw; have g1 := h2.1.1; have g2 := h2.1.2; go_simp
    (try simp only [Act.put, List.setIfInBounds_toArray, List.set_cons_zero, List.set_cons_succ])
    refine wpAnyH_take (i := 9) (oi := { dst := some 15, op := Go.Op.load 9 (Go.Operand.tmp 14), type := 9, pos := "l04_bulletins.go:338", after := #[{ on := 8, ground := Go.Ground.data }], guard := none }) (v := (.string q2)) rfl (by kernel_rfl) (by kernel_rfl) (by kernel_rfl) (fun c a w h => hP c a _ _ w h) (Or.inl ⟨by rfl, ?_⟩) (by assumption) ?_
    · intro w hSw; have cc := blk_cell (hSw.l2 _ rfl).on h2.2.2; go_simp
    (try simp only [Act.put, List.setIfInBounds_toArray, List.set_cons_zero, List.set_cons_succ])
    exact st30100 hP hQ h1 h2 h3 (w.heap.size) _ hS2
  refine AllReadyH.cons (o := { dst := some 18, op := Go.Op.buildSlice 37 3 #[(0, Go.Operand.const (Go.Value.string { data := #[65, 77, 77, 67] })), (1, Go.Operand.const (Go.Value.string { data := #[69, 78, 77, 73] })), (2, Go.Operand.const (Go.Value.string { data := #[75, 49, 65, 65] }))], type := 37, pos := "l04_bulletins.go:338", after := #[], guard := none }) rfl (fun K hK => ?_) ?_
  · go_simp
    have hS2 : Sn r W none none (some (w.heap.size)) none (w.alloc oC) := hS.lit3
    refine hK.out _ _ (by first | exact hS2 | exact hS2.less1 | exact hS2.less2 | exact hS2.less3 | exact hS2.less4) (fun _ => ?_)
    clear hK K
    refine wpAnyH_weak (S1 := Sn r W none none (some (w.heap.size)) none) (fun _ h => h.less3) _ _ _ _ ?_
    exact st30010 hP hQ h1 h2 h3 (w.heap.size) _ hS2
  refine AllReadyH.cons (o := { dst := some 20, op := Go.Op.call { callee := Go.Callee.value (Go.Operand.func 13), args := #[Go.Operand.tmp 19, Go.Operand.const (Go.Value.int Go.IntKind.i64 3)], argTypes := #[33, 3] }, type := 3, pos := "l04_bulletins.go:338", after := #[{ on := 13, ground := Go.Ground.data }, { on := 11, ground := Go.Ground.chain }], guard := none }) rfl (fun K hK => ?_) ?_
  · have rdw := hS.rd
    go_simp
    go_at_call 13
    refine (below_all r _ rdw 3 (by omega) (by omega)).mono ?_
    rintro e w1 ⟨⟨z4, hz, rfl⟩, k1, t1⟩
    obtain ⟨q4, hq, hcq⟩ := centre_of z4 hz.1 hz.2
    have h4 : H4 z4 q4 := ⟨hz, hq, hcq⟩
    clear hq hcq hz
    have hS2 := hS.turn t1 k1
    clear k1 t1 hS rdw
    go_wp2_with fail
    refine hK.out _ _ (by first | exact hS2 | exact hS2.less1 | exact hS2.less2 | exact hS2.less3 | exact hS2.less4) (fun _ => ?_)
    clear hK K
    exact st40000 hP hQ h1 h2 h3 h4 _ hS2
  refine AllReadyH.cons (o := { dst := some 3, op := Go.Op.alloc 25, type := 0, pos := "l04_bulletins.go:338", after := #[], guard := none }) rfl (fun K hK => ?_) ?_
  · go_simp
    have hS2 : Sn r W none none none (some (w.heap.size)) (w.alloc oH) := hS.lit4
    refine hK.out _ _ (by first | exact hS2 | exact hS2.less1 | exact hS2.less2 | exact hS2.less3 | exact hS2.less4) (fun _ => ?_)
    clear hK K
    refine wpAnyH_weak (S1 := Sn r W none none none (some (w.heap.size))) (fun _ h => h.less4) _ _ _ _ ?_
    exact st30001 hP hQ h1 h2 h3 (w.heap.size) _ hS2
  exact AllReadyH.nil
end Go.Proofs.YtepofpmdkphhdaaDoor.Hd
