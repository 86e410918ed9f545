/- A heading drawn of a code: the region by its states (7 draws done). -/
import Derived.Test.YtepofpmdkphhdaaDoorH8
namespace Go.Proofs.YtepofpmdkphhdaaDoor.Hd
open Go.ChangeShapes Go.WideShapes Go.ChangeAt Go.RowKit
open Go.Proofs.YtepofpmdkphhdaaDoor.Rd Mk Fig Head
set_option maxHeartbeats 2000000 in
theorem st71111 {r : Nat} {W : World} {Q : Exit → Act → World → Prop} (hP : ∀ c (a : Act) d (v : Value) w, Q (.panic c) (a.put d v) w → Q (.panic c) a w) (hQ : ∀ (bx : Nat) (u6 u7 u8 u9 u10 u11 u12 u13 u14 u15 u16 u17 u18 u19 u20 u21 u22 u23 u24 u25 u26 u27 u28 u29 u30 u31 u32 : Value) (w : World), Fin r W bx w → Q .normal ⟨#[.pointer (some ⟨r, 0, none⟩), undef, .pointer (some ⟨W.heap.size, 0, none⟩), .pointer (some ⟨bx, 0, none⟩), undef, undef, u6, u7, u8, u9, u10, u11, u12, u13, u14, u15, u16, u17, u18, u19, u20, u21, u22, u23, u24, u25, u26, u27, u28, u29, u30, u31, u32, undef, undef, undef, undef, undef, undef, undef, undef, undef, undef], []⟩ w) {z1 : Int} {q1 : ByteArray} (h1 : H1 z1 q1) {z2 : Int} {q2 : ByteArray} (h2 : H2 z2 q2) {z3 : Int} (h3 : 0 ≤ z3 ∧ z3 < 100) {z4 : Int} {q4 : ByteArray} (h4 : H4 z4 q4) {z5 : Int} (h5 : 0 ≤ z5 ∧ z5 < 31) {z6 : Int} (h6 : 0 ≤ z6 ∧ z6 < 24) {z7 : Int} (h7 : 0 ≤ z7 ∧ z7 < 60) (b1 : Nat) (b2 : Nat) (b3 : Nat) (b4 : Nat) (w : World) (hS : Sn r W (some (b1)) (some (b2)) (some (b3)) (some (b4)) w) : wpAnyH Tryd.prog .any OPS Q (Sn r W (some (b1)) (some (b2)) (some (b3)) (some (b4))) 3 #[true, true, true, true, true, true, true, true, true, true, true, true, true, true, true, true, true, true, true, true, true, true, true, true, true, false, false, true, false] ⟨#[.pointer (some ⟨r, 0, none⟩), undef, .pointer (some ⟨W.heap.size, 0, none⟩), .pointer (some ⟨b4, 0, none⟩), undef, undef, .slice (some ⟨b1, 0, none⟩) 5 5, .pointer (some ⟨r, 0, none⟩), .int .i64 z1, .pointer (some ⟨b1, z1.toNat, none⟩), .string q1, .slice (some ⟨b2, 0, none⟩) 3 3, .pointer (some ⟨r, 0, none⟩), .int .i64 z2, .pointer (some ⟨b2, z2.toNat, none⟩), .string q2, .pointer (some ⟨r, 0, none⟩), .int .i64 z3, .slice (some ⟨b3, 0, none⟩) 3 3, .pointer (some ⟨r, 0, none⟩), .int .i64 z4, .pointer (some ⟨b3, z4.toNat, none⟩), .string q4, .pointer (some ⟨r, 0, none⟩), .int .i64 z5, .int .i64 (1 + z5), .pointer (some ⟨r, 0, none⟩), .int .i64 z6, .pointer (some ⟨r, 0, none⟩), .int .i64 z7, .pointer (some ⟨r, 0, none⟩), undef, undef, undef, undef, undef, undef, undef, undef, undef, undef, undef, undef], []⟩ w := by
  refine wpAnyH_ready (rs := [25]) (by kernel_rfl) (by simp) ?_
  refine AllReadyH.cons (o := { dst := some 31, op := Go.Op.call { callee := Go.Callee.value (Go.Operand.func 28), args := #[Go.Operand.tmp 30], argTypes := #[33] }, type := 9, pos := "l04_bulletins.go:338", after := #[{ on := 24, ground := Go.Ground.data }, { on := 23, ground := Go.Ground.chain }], guard := none }) rfl (fun K hK => ?_) ?_
  · have rdw := hS.rd
    go_simp
    go_at_call 28
    refine (mark_any r _ rdw).mono ?_
    rintro e w1 ⟨⟨q8, rfl, h8⟩, k1, t1⟩
    have hS2 := hS.turn t1 k1
    clear k1 t1 hS rdw
    go_wp2_with fail
    refine hK.out _ _ (by first | exact hS2 | exact hS2.less1 | exact hS2.less2 | exact hS2.less3 | exact hS2.less4) (fun _ => ?_)
    clear hK K
    refine wpAnyH_take (i := 26) (oi := { dst := some 32, op := Go.Op.build 25 #[(0, Go.Operand.tmp 10), (1, Go.Operand.tmp 15), (2, Go.Operand.tmp 17), (3, Go.Operand.tmp 22), (4, Go.Operand.tmp 25), (5, Go.Operand.tmp 27), (6, Go.Operand.tmp 29), (7, Go.Operand.tmp 31)], type := 25, pos := "l04_bulletins.go:338", after := #[{ on := 4, ground := Go.Ground.data }, { on := 9, ground := Go.Ground.data }, { on := 11, ground := Go.Ground.data }, { on := 16, ground := Go.Ground.data }, { on := 19, ground := Go.Ground.data }, { on := 21, ground := Go.Ground.data }, { on := 23, ground := Go.Ground.data }, { on := 25, ground := Go.Ground.data }], guard := none }) (v := (.agg #[.string q1, .string q2, .int .i64 z3, .string q4, .int .i64 (1 + z5), .int .i64 z6, .int .i64 z7, .string q8])) rfl (by kernel_rfl) (by kernel_rfl) (by kernel_rfl) (fun c a w h => hP c a _ _ w h) (Or.inl ⟨by rfl, ?_⟩) (by assumption) ?_
    · intro w hSw; go_simp
    (try simp only [Act.put, List.setIfInBounds_toArray, List.set_cons_zero, List.set_cons_succ])
    exact st81111 hP hQ h1 h2 h3 h4 h5 h6 h7 h8 (b1) (b2) (b3) (b4) _ hS2
  exact AllReadyH.nil
set_option maxHeartbeats 2000000 in
theorem st70111 {r : Nat} {W : World} {Q : Exit → Act → World → Prop} (hP : ∀ c (a : Act) d (v : Value) w, Q (.panic c) (a.put d v) w → Q (.panic c) a w) (hQ : ∀ (bx : Nat) (u6 u7 u8 u9 u10 u11 u12 u13 u14 u15 u16 u17 u18 u19 u20 u21 u22 u23 u24 u25 u26 u27 u28 u29 u30 u31 u32 : Value) (w : World), Fin r W bx w → Q .normal ⟨#[.pointer (some ⟨r, 0, none⟩), undef, .pointer (some ⟨W.heap.size, 0, none⟩), .pointer (some ⟨bx, 0, none⟩), undef, undef, u6, u7, u8, u9, u10, u11, u12, u13, u14, u15, u16, u17, u18, u19, u20, u21, u22, u23, u24, u25, u26, u27, u28, u29, u30, u31, u32, undef, undef, undef, undef, undef, undef, undef, undef, undef, undef], []⟩ w) {z1 : Int} {q1 : ByteArray} (h1 : H1 z1 q1) {z2 : Int} {q2 : ByteArray} (h2 : H2 z2 q2) {z3 : Int} (h3 : 0 ≤ z3 ∧ z3 < 100) {z4 : Int} {q4 : ByteArray} (h4 : H4 z4 q4) {z5 : Int} (h5 : 0 ≤ z5 ∧ z5 < 31) {z6 : Int} (h6 : 0 ≤ z6 ∧ z6 < 24) {z7 : Int} (h7 : 0 ≤ z7 ∧ z7 < 60) (b2 : Nat) (b3 : Nat) (b4 : Nat) (w : World) (hS : Sn r W none (some (b2)) (some (b3)) (some (b4)) w) : wpAnyH Tryd.prog .any OPS Q (Sn r W none (some (b2)) (some (b3)) (some (b4))) 6 #[false, true, true, false, false, true, true, true, true, true, true, true, true, true, true, true, true, true, true, true, true, true, true, true, true, false, false, true, false] ⟨#[.pointer (some ⟨r, 0, none⟩), undef, .pointer (some ⟨W.heap.size, 0, none⟩), .pointer (some ⟨b4, 0, none⟩), undef, undef, undef, .pointer (some ⟨r, 0, none⟩), .int .i64 z1, undef, undef, .slice (some ⟨b2, 0, none⟩) 3 3, .pointer (some ⟨r, 0, none⟩), .int .i64 z2, .pointer (some ⟨b2, z2.toNat, none⟩), .string q2, .pointer (some ⟨r, 0, none⟩), .int .i64 z3, .slice (some ⟨b3, 0, none⟩) 3 3, .pointer (some ⟨r, 0, none⟩), .int .i64 z4, .pointer (some ⟨b3, z4.toNat, none⟩), .string q4, .pointer (some ⟨r, 0, none⟩), .int .i64 z5, .int .i64 (1 + z5), .pointer (some ⟨r, 0, none⟩), .int .i64 z6, .pointer (some ⟨r, 0, none⟩), .int .i64 z7, .pointer (some ⟨r, 0, none⟩), undef, undef, undef, undef, undef, undef, undef, undef, undef, undef, undef, undef], []⟩ w := by
  refine wpAnyH_ready (rs := [0, 25]) (by kernel_rfl) (by simp) ?_
  refine AllReadyH.cons (o := { dst := some 6, op := Go.Op.buildSlice 37 5 #[(0, Go.Operand.const (Go.Value.string { data := #[83, 77] })), (1, Go.Operand.const (Go.Value.string { data := #[83, 73] })), (2, Go.Operand.const (Go.Value.string { data := #[85, 83] })), (3, Go.Operand.const (Go.Value.string { data := #[70, 84] })), (4, Go.Operand.const (Go.Value.string { data := #[87, 87] }))], type := 37, pos := "l04_bulletins.go:338", after := #[], guard := none }) rfl (fun K hK => ?_) ?_
  · go_simp
    have hS2 : Sn r W (some (w.heap.size)) (some (b2)) (some (b3)) (some (b4)) (w.alloc oK) := hS.lit1
    refine hK.out _ _ (by first | exact hS2 | exact hS2.less1 | exact hS2.less2 | exact hS2.less3 | exact hS2.less4) (fun _ => ?_)
    clear hK K
    refine wpAnyH_weak (S1 := Sn r W (some (w.heap.size)) (some (b2)) (some (b3)) (some (b4))) (fun _ h => h.less1) _ _ _ _ ?_
    refine wpAnyH_take (i := 3) (oi := { dst := some 9, op := Go.Op.indexAddr 37 (Go.Operand.tmp 6) (Go.Operand.tmp 8), type := 0, pos := "l04_bulletins.go:338", after := #[{ on := 0, ground := Go.Ground.data }, { on := 2, ground := Go.Ground.data }], guard := none }) (v := (.pointer (some ⟨w.heap.size, z1.toNat, none⟩))) rfl (by kernel_rfl) (by kernel_rfl) (by kernel_rfl) (fun c a w h => hP c a _ _ w h) (Or.inl ⟨by rfl, ?_⟩) (by assumption) ?_
    · intro w hSw; have g1 := h1.1.1; have g2 := h1.1.2; go_simp
    (try simp only [Act.put, List.setIfInBounds_toArray, List.set_cons_zero, List.set_cons_succ])
    refine wpAnyH_take (i := 4) (oi := { dst := some 10, op := Go.Op.load 9 (Go.Operand.tmp 9), type := 9, pos := "l04_bulletins.go:338", after := #[{ on := 3, ground := Go.Ground.data }], guard := none }) (v := (.string q1)) rfl (by kernel_rfl) (by kernel_rfl) (by kernel_rfl) (fun c a w h => hP c a _ _ w h) (Or.inl ⟨by rfl, ?_⟩) (by assumption) ?_
    · intro w hSw; have cc := blk_cell (hSw.l1 _ rfl).on h1.2.2; go_simp
    (try simp only [Act.put, List.setIfInBounds_toArray, List.set_cons_zero, List.set_cons_succ])
    exact st71111 hP hQ h1 h2 h3 h4 h5 h6 h7 (w.heap.size) (b2) (b3) (b4) _ hS2
  refine AllReadyH.cons (o := { dst := some 31, op := Go.Op.call { callee := Go.Callee.value (Go.Operand.func 28), args := #[Go.Operand.tmp 30], argTypes := #[33] }, type := 9, pos := "l04_bulletins.go:338", after := #[{ on := 24, ground := Go.Ground.data }, { on := 23, ground := Go.Ground.chain }], guard := none }) rfl (fun K hK => ?_) ?_
  · have rdw := hS.rd
    go_simp
    go_at_call 28
    refine (mark_any r _ rdw).mono ?_
    rintro e w1 ⟨⟨q8, rfl, h8⟩, k1, t1⟩
    have hS2 := hS.turn t1 k1
    clear k1 t1 hS rdw
    go_wp2_with fail
    refine hK.out _ _ (by first | exact hS2 | exact hS2.less1 | exact hS2.less2 | exact hS2.less3 | exact hS2.less4) (fun _ => ?_)
    clear hK K
    exact st80111 hP hQ h1 h2 h3 h4 h5 h6 h7 h8 (b2) (b3) (b4) _ hS2
  exact AllReadyH.nil
set_option maxHeartbeats 2000000 in
theorem st71011 {r : Nat} {W : World} {Q : Exit → Act → World → Prop} (hP : ∀ c (a : Act) d (v : Value) w, Q (.panic c) (a.put d v) w → Q (.panic c) a w) (hQ : ∀ (bx : Nat) (u6 u7 u8 u9 u10 u11 u12 u13 u14 u15 u16 u17 u18 u19 u20 u21 u22 u23 u24 u25 u26 u27 u28 u29 u30 u31 u32 : Value) (w : World), Fin r W bx w → Q .normal ⟨#[.pointer (some ⟨r, 0, none⟩), undef, .pointer (some ⟨W.heap.size, 0, none⟩), .pointer (some ⟨bx, 0, none⟩), undef, undef, u6, u7, u8, u9, u10, u11, u12, u13, u14, u15, u16, u17, u18, u19, u20, u21, u22, u23, u24, u25, u26, u27, u28, u29, u30, u31, u32, undef, undef, undef, undef, undef, undef, undef, undef, undef, undef], []⟩ w) {z1 : Int} {q1 : ByteArray} (h1 : H1 z1 q1) {z2 : Int} {q2 : ByteArray} (h2 : H2 z2 q2) {z3 : Int} (h3 : 0 ≤ z3 ∧ z3 < 100) {z4 : Int} {q4 : ByteArray} (h4 : H4 z4 q4) {z5 : Int} (h5 : 0 ≤ z5 ∧ z5 < 31) {z6 : Int} (h6 : 0 ≤ z6 ∧ z6 < 24) {z7 : Int} (h7 : 0 ≤ z7 ∧ z7 < 60) (b1 : Nat) (b3 : Nat) (b4 : Nat) (w : World) (hS : Sn r W (some (b1)) none (some (b3)) (some (b4)) w) : wpAnyH Tryd.prog .any OPS Q (Sn r W (some (b1)) none (some (b3)) (some (b4))) 6 #[true, true, true, true, true, false, true, true, false, false, true, true, true, true, true, true, true, true, true, true, true, true, true, true, true, false, false, true, false] ⟨#[.pointer (some ⟨r, 0, none⟩), undef, .pointer (some ⟨W.heap.size, 0, none⟩), .pointer (some ⟨b4, 0, none⟩), undef, undef, .slice (some ⟨b1, 0, none⟩) 5 5, .pointer (some ⟨r, 0, none⟩), .int .i64 z1, .pointer (some ⟨b1, z1.toNat, none⟩), .string q1, undef, .pointer (some ⟨r, 0, none⟩), .int .i64 z2, undef, undef, .pointer (some ⟨r, 0, none⟩), .int .i64 z3, .slice (some ⟨b3, 0, none⟩) 3 3, .pointer (some ⟨r, 0, none⟩), .int .i64 z4, .pointer (some ⟨b3, z4.toNat, none⟩), .string q4, .pointer (some ⟨r, 0, none⟩), .int .i64 z5, .int .i64 (1 + z5), .pointer (some ⟨r, 0, none⟩), .int .i64 z6, .pointer (some ⟨r, 0, none⟩), .int .i64 z7, .pointer (some ⟨r, 0, none⟩), undef, undef, undef, undef, undef, undef, undef, undef, undef, undef, undef, undef], []⟩ w := by
  refine wpAnyH_ready (rs := [5, 25]) (by kernel_rfl) (by simp) ?_
  refine AllReadyH.cons (o := { dst := some 11, op := Go.Op.buildSlice 37 3 #[(0, Go.Operand.const (Go.Value.string { data := #[68, 76] })), (1, Go.Operand.const (Go.Value.string { data := #[78, 79] })), (2, Go.Operand.const (Go.Value.string { data := #[88, 88] }))], type := 37, pos := "l04_bulletins.go:338", after := #[], guard := none }) rfl (fun K hK => ?_) ?_
  · go_simp
    have hS2 : Sn r W (some (b1)) (some (w.heap.size)) (some (b3)) (some (b4)) (w.alloc oA) := hS.lit2
    refine hK.out _ _ (by first | exact hS2 | exact hS2.less1 | exact hS2.less2 | exact hS2.less3 | exact hS2.less4) (fun _ => ?_)
    clear hK K
    refine wpAnyH_weak (S1 := Sn r W (some (b1)) (some (w.heap.size)) (some (b3)) (some (b4))) (fun _ h => h.less2) _ _ _ _ ?_
    refine wpAnyH_take (i := 8) (oi := { dst := some 14, op := Go.Op.indexAddr 37 (Go.Operand.tmp 11) (Go.Operand.tmp 13), type := 0, pos := "l04_bulletins.go:338", after := #[{ on := 5, ground := Go.Ground.data }, { on := 7, ground := Go.Ground.data }], guard := none }) (v := (.pointer (some ⟨w.heap.size, z2.toNat, none⟩))) rfl (by kernel_rfl) (by kernel_rfl) (by kernel_rfl) (fun c a w h => hP c a _ _ w h) (Or.inl ⟨by rfl, ?_⟩) (by assumption) ?_
    · intro w hSw; have g1 := h2.1.1; have g2 := h2.1.2; go_simp
    (try simp only [Act.put, List.setIfInBounds_toArray, List.set_cons_zero, List.set_cons_succ])
    refine wpAnyH_take (i := 9) (oi := { dst := some 15, op := Go.Op.load 9 (Go.Operand.tmp 14), type := 9, pos := "l04_bulletins.go:338", after := #[{ on := 8, ground := Go.Ground.data }], guard := none }) (v := (.string q2)) rfl (by kernel_rfl) (by kernel_rfl) (by kernel_rfl) (fun c a w h => hP c a _ _ w h) (Or.inl ⟨by rfl, ?_⟩) (by assumption) ?_
    · intro w hSw; have cc := blk_cell (hSw.l2 _ rfl).on h2.2.2; go_simp
    (try simp only [Act.put, List.setIfInBounds_toArray, List.set_cons_zero, List.set_cons_succ])
    exact st71111 hP hQ h1 h2 h3 h4 h5 h6 h7 (b1) (w.heap.size) (b3) (b4) _ hS2
  refine AllReadyH.cons (o := { dst := some 31, op := Go.Op.call { callee := Go.Callee.value (Go.Operand.func 28), args := #[Go.Operand.tmp 30], argTypes := #[33] }, type := 9, pos := "l04_bulletins.go:338", after := #[{ on := 24, ground := Go.Ground.data }, { on := 23, ground := Go.Ground.chain }], guard := none }) rfl (fun K hK => ?_) ?_
  · have rdw := hS.rd
    go_simp
    go_at_call 28
    refine (mark_any r _ rdw).mono ?_
    rintro e w1 ⟨⟨q8, rfl, h8⟩, k1, t1⟩
    have hS2 := hS.turn t1 k1
    clear k1 t1 hS rdw
    go_wp2_with fail
    refine hK.out _ _ (by first | exact hS2 | exact hS2.less1 | exact hS2.less2 | exact hS2.less3 | exact hS2.less4) (fun _ => ?_)
    clear hK K
    exact st81011 hP hQ h1 h2 h3 h4 h5 h6 h7 h8 (b1) (b3) (b4) _ hS2
  exact AllReadyH.nil
set_option maxHeartbeats 2000000 in
theorem st71101 {r : Nat} {W : World} {Q : Exit → Act → World → Prop} (hP : ∀ c (a : Act) d (v : Value) w, Q (.panic c) (a.put d v) w → Q (.panic c) a w) (hQ : ∀ (bx : Nat) (u6 u7 u8 u9 u10 u11 u12 u13 u14 u15 u16 u17 u18 u19 u20 u21 u22 u23 u24 u25 u26 u27 u28 u29 u30 u31 u32 : Value) (w : World), Fin r W bx w → Q .normal ⟨#[.pointer (some ⟨r, 0, none⟩), undef, .pointer (some ⟨W.heap.size, 0, none⟩), .pointer (some ⟨bx, 0, none⟩), undef, undef, u6, u7, u8, u9, u10, u11, u12, u13, u14, u15, u16, u17, u18, u19, u20, u21, u22, u23, u24, u25, u26, u27, u28, u29, u30, u31, u32, undef, undef, undef, undef, undef, undef, undef, undef, undef, undef], []⟩ w) {z1 : Int} {q1 : ByteArray} (h1 : H1 z1 q1) {z2 : Int} {q2 : ByteArray} (h2 : H2 z2 q2) {z3 : Int} (h3 : 0 ≤ z3 ∧ z3 < 100) {z4 : Int} {q4 : ByteArray} (h4 : H4 z4 q4) {z5 : Int} (h5 : 0 ≤ z5 ∧ z5 < 31) {z6 : Int} (h6 : 0 ≤ z6 ∧ z6 < 24) {z7 : Int} (h7 : 0 ≤ z7 ∧ z7 < 60) (b1 : Nat) (b2 : Nat) (b4 : Nat) (w : World) (hS : Sn r W (some (b1)) (some (b2)) none (some (b4)) w) : wpAnyH Tryd.prog .any OPS Q (Sn r W (some (b1)) (some (b2)) none (some (b4))) 6 #[true, true, true, true, true, true, true, true, true, true, true, true, false, true, true, false, false, true, true, true, true, true, true, true, true, false, false, true, false] ⟨#[.pointer (some ⟨r, 0, none⟩), undef, .pointer (some ⟨W.heap.size, 0, none⟩), .pointer (some ⟨b4, 0, none⟩), undef, undef, .slice (some ⟨b1, 0, none⟩) 5 5, .pointer (some ⟨r, 0, none⟩), .int .i64 z1, .pointer (some ⟨b1, z1.toNat, none⟩), .string q1, .slice (some ⟨b2, 0, none⟩) 3 3, .pointer (some ⟨r, 0, none⟩), .int .i64 z2, .pointer (some ⟨b2, z2.toNat, none⟩), .string q2, .pointer (some ⟨r, 0, none⟩), .int .i64 z3, undef, .pointer (some ⟨r, 0, none⟩), .int .i64 z4, undef, undef, .pointer (some ⟨r, 0, none⟩), .int .i64 z5, .int .i64 (1 + z5), .pointer (some ⟨r, 0, none⟩), .int .i64 z6, .pointer (some ⟨r, 0, none⟩), .int .i64 z7, .pointer (some ⟨r, 0, none⟩), undef, undef, undef, undef, undef, undef, undef, undef, undef, undef, undef, undef], []⟩ w := by
  refine wpAnyH_ready (rs := [12, 25]) (by kernel_rfl) (by simp) ?_
  refine AllReadyH.cons (o := { dst := some 18, op := Go.Op.buildSlice 37 3 #[(0, Go.Operand.const (Go.Value.string { data := #[65, 77, 77, 67] })), (1, Go.Operand.const (Go.Value.string { data := #[69, 78, 77, 73] })), (2, Go.Operand.const (Go.Value.string { data := #[75, 49, 65, 65] }))], type := 37, pos := "l04_bulletins.go:338", after := #[], guard := none }) rfl (fun K hK => ?_) ?_
  · go_simp
    have hS2 : Sn r W (some (b1)) (some (b2)) (some (w.heap.size)) (some (b4)) (w.alloc oC) := hS.lit3
    refine hK.out _ _ (by first | exact hS2 | exact hS2.less1 | exact hS2.less2 | exact hS2.less3 | exact hS2.less4) (fun _ => ?_)
    clear hK K
    refine wpAnyH_weak (S1 := Sn r W (some (b1)) (some (b2)) (some (w.heap.size)) (some (b4))) (fun _ h => h.less3) _ _ _ _ ?_
    refine wpAnyH_take (i := 15) (oi := { dst := some 21, op := Go.Op.indexAddr 37 (Go.Operand.tmp 18) (Go.Operand.tmp 20), type := 0, pos := "l04_bulletins.go:338", after := #[{ on := 12, ground := Go.Ground.data }, { on := 14, ground := Go.Ground.data }], guard := none }) (v := (.pointer (some ⟨w.heap.size, z4.toNat, none⟩))) rfl (by kernel_rfl) (by kernel_rfl) (by kernel_rfl) (fun c a w h => hP c a _ _ w h) (Or.inl ⟨by rfl, ?_⟩) (by assumption) ?_
    · intro w hSw; have g1 := h4.1.1; have g2 := h4.1.2; go_simp
    (try simp only [Act.put, List.setIfInBounds_toArray, List.set_cons_zero, List.set_cons_succ])
    refine wpAnyH_take (i := 16) (oi := { dst := some 22, op := Go.Op.load 9 (Go.Operand.tmp 21), type := 9, pos := "l04_bulletins.go:338", after := #[{ on := 15, ground := Go.Ground.data }], guard := none }) (v := (.string q4)) rfl (by kernel_rfl) (by kernel_rfl) (by kernel_rfl) (fun c a w h => hP c a _ _ w h) (Or.inl ⟨by rfl, ?_⟩) (by assumption) ?_
    · intro w hSw; have cc := blk_cell (hSw.l3 _ rfl).on h4.2.2; go_simp
    (try simp only [Act.put, List.setIfInBounds_toArray, List.set_cons_zero, List.set_cons_succ])
    exact st71111 hP hQ h1 h2 h3 h4 h5 h6 h7 (b1) (b2) (w.heap.size) (b4) _ hS2
  refine AllReadyH.cons (o := { dst := some 31, op := Go.Op.call { callee := Go.Callee.value (Go.Operand.func 28), args := #[Go.Operand.tmp 30], argTypes := #[33] }, type := 9, pos := "l04_bulletins.go:338", after := #[{ on := 24, ground := Go.Ground.data }, { on := 23, ground := Go.Ground.chain }], guard := none }) rfl (fun K hK => ?_) ?_
  · have rdw := hS.rd
    go_simp
    go_at_call 28
    refine (mark_any r _ rdw).mono ?_
    rintro e w1 ⟨⟨q8, rfl, h8⟩, k1, t1⟩
    have hS2 := hS.turn t1 k1
    clear k1 t1 hS rdw
    go_wp2_with fail
    refine hK.out _ _ (by first | exact hS2 | exact hS2.less1 | exact hS2.less2 | exact hS2.less3 | exact hS2.less4) (fun _ => ?_)
    clear hK K
    exact st81101 hP hQ h1 h2 h3 h4 h5 h6 h7 h8 (b1) (b2) (b4) _ hS2
  exact AllReadyH.nil
set_option maxHeartbeats 2000000 in
theorem st71110 {r : Nat} {W : World} {Q : Exit → Act → World → Prop} (hP : ∀ c (a : Act) d (v : Value) w, Q (.panic c) (a.put d v) w → Q (.panic c) a w) (hQ : ∀ (bx : Nat) (u6 u7 u8 u9 u10 u11 u12 u13 u14 u15 u16 u17 u18 u19 u20 u21 u22 u23 u24 u25 u26 u27 u28 u29 u30 u31 u32 : Value) (w : World), Fin r W bx w → Q .normal ⟨#[.pointer (some ⟨r, 0, none⟩), undef, .pointer (some ⟨W.heap.size, 0, none⟩), .pointer (some ⟨bx, 0, none⟩), undef, undef, u6, u7, u8, u9, u10, u11, u12, u13, u14, u15, u16, u17, u18, u19, u20, u21, u22, u23, u24, u25, u26, u27, u28, u29, u30, u31, u32, undef, undef, undef, undef, undef, undef, undef, undef, undef, undef], []⟩ w) {z1 : Int} {q1 : ByteArray} (h1 : H1 z1 q1) {z2 : Int} {q2 : ByteArray} (h2 : H2 z2 q2) {z3 : Int} (h3 : 0 ≤ z3 ∧ z3 < 100) {z4 : Int} {q4 : ByteArray} (h4 : H4 z4 q4) {z5 : Int} (h5 : 0 ≤ z5 ∧ z5 < 31) {z6 : Int} (h6 : 0 ≤ z6 ∧ z6 < 24) {z7 : Int} (h7 : 0 ≤ z7 ∧ z7 < 60) (b1 : Nat) (b2 : Nat) (b3 : Nat) (w : World) (hS : Sn r W (some (b1)) (some (b2)) (some (b3)) none w) : wpAnyH Tryd.prog .any OPS Q (Sn r W (some (b1)) (some (b2)) (some (b3)) none) 4 #[true, true, true, true, true, true, true, true, true, true, true, true, true, true, true, true, true, true, true, true, true, true, true, true, true, false, false, false, false] ⟨#[.pointer (some ⟨r, 0, none⟩), undef, .pointer (some ⟨W.heap.size, 0, none⟩), undef, undef, undef, .slice (some ⟨b1, 0, none⟩) 5 5, .pointer (some ⟨r, 0, none⟩), .int .i64 z1, .pointer (some ⟨b1, z1.toNat, none⟩), .string q1, .slice (some ⟨b2, 0, none⟩) 3 3, .pointer (some ⟨r, 0, none⟩), .int .i64 z2, .pointer (some ⟨b2, z2.toNat, none⟩), .string q2, .pointer (some ⟨r, 0, none⟩), .int .i64 z3, .slice (some ⟨b3, 0, none⟩) 3 3, .pointer (some ⟨r, 0, none⟩), .int .i64 z4, .pointer (some ⟨b3, z4.toNat, none⟩), .string q4, .pointer (some ⟨r, 0, none⟩), .int .i64 z5, .int .i64 (1 + z5), .pointer (some ⟨r, 0, none⟩), .int .i64 z6, .pointer (some ⟨r, 0, none⟩), .int .i64 z7, .pointer (some ⟨r, 0, none⟩), undef, undef, undef, undef, undef, undef, undef, undef, undef, undef, undef, undef], []⟩ w := by
  refine wpAnyH_ready (rs := [25, 27]) (by kernel_rfl) (by simp) ?_
  refine AllReadyH.cons (o := { dst := some 31, op := Go.Op.call { callee := Go.Callee.value (Go.Operand.func 28), args := #[Go.Operand.tmp 30], argTypes := #[33] }, type := 9, pos := "l04_bulletins.go:338", after := #[{ on := 24, ground := Go.Ground.data }, { on := 23, ground := Go.Ground.chain }], guard := none }) rfl (fun K hK => ?_) ?_
  · have rdw := hS.rd
    go_simp
    go_at_call 28
    refine (mark_any r _ rdw).mono ?_
    rintro e w1 ⟨⟨q8, rfl, h8⟩, k1, t1⟩
    have hS2 := hS.turn t1 k1
    clear k1 t1 hS rdw
    go_wp2_with fail
    refine hK.out _ _ (by first | exact hS2 | exact hS2.less1 | exact hS2.less2 | exact hS2.less3 | exact hS2.less4) (fun _ => ?_)
    clear hK K
    refine wpAnyH_take (i := 26) (oi := { dst := some 32, op := Go.Op.build 25 #[(0, Go.Operand.tmp 10), (1, Go.Operand.tmp 15), (2, Go.Operand.tmp 17), (3, Go.Operand.tmp 22), (4, Go.Operand.tmp 25), (5, Go.Operand.tmp 27), (6, Go.Operand.tmp 29), (7, Go.Operand.tmp 31)], type := 25, pos := "l04_bulletins.go:338", after := #[{ on := 4, ground := Go.Ground.data }, { on := 9, ground := Go.Ground.data }, { on := 11, ground := Go.Ground.data }, { on := 16, ground := Go.Ground.data }, { on := 19, ground := Go.Ground.data }, { on := 21, ground := Go.Ground.data }, { on := 23, ground := Go.Ground.data }, { on := 25, ground := Go.Ground.data }], guard := none }) (v := (.agg #[.string q1, .string q2, .int .i64 z3, .string q4, .int .i64 (1 + z5), .int .i64 z6, .int .i64 z7, .string q8])) rfl (by kernel_rfl) (by kernel_rfl) (by kernel_rfl) (fun c a w h => hP c a _ _ w h) (Or.inl ⟨by rfl, ?_⟩) (by assumption) ?_
    · intro w hSw; go_simp
    (try simp only [Act.put, List.setIfInBounds_toArray, List.set_cons_zero, List.set_cons_succ])
    exact st81110 hP hQ h1 h2 h3 h4 h5 h6 h7 h8 (b1) (b2) (b3) _ hS2
  refine AllReadyH.cons (o := { dst := some 3, op := Go.Op.alloc 25, type := 0, pos := "l04_bulletins.go:338", after := #[], guard := none }) rfl (fun K hK => ?_) ?_
  · go_simp
    have hS2 : Sn r W (some (b1)) (some (b2)) (some (b3)) (some (w.heap.size)) (w.alloc oH) := hS.lit4
    refine hK.out _ _ (by first | exact hS2 | exact hS2.less1 | exact hS2.less2 | exact hS2.less3 | exact hS2.less4) (fun _ => ?_)
    clear hK K
    refine wpAnyH_weak (S1 := Sn r W (some (b1)) (some (b2)) (some (b3)) (some (w.heap.size))) (fun _ h => h.less4) _ _ _ _ ?_
    exact st71111 hP hQ h1 h2 h3 h4 h5 h6 h7 (b1) (b2) (b3) (w.heap.size) _ hS2
  exact AllReadyH.nil
set_option maxHeartbeats 2000000 in
theorem st70011 {r : Nat} {W : World} {Q : Exit → Act → World → Prop} (hP : ∀ c (a : Act) d (v : Value) w, Q (.panic c) (a.put d v) w → Q (.panic c) a w) (hQ : ∀ (bx : Nat) (u6 u7 u8 u9 u10 u11 u12 u13 u14 u15 u16 u17 u18 u19 u20 u21 u22 u23 u24 u25 u26 u27 u28 u29 u30 u31 u32 : Value) (w : World), Fin r W bx w → Q .normal ⟨#[.pointer (some ⟨r, 0, none⟩), undef, .pointer (some ⟨W.heap.size, 0, none⟩), .pointer (some ⟨bx, 0, none⟩), undef, undef, u6, u7, u8, u9, u10, u11, u12, u13, u14, u15, u16, u17, u18, u19, u20, u21, u22, u23, u24, u25, u26, u27, u28, u29, u30, u31, u32, undef, undef, undef, undef, undef, undef, undef, undef, undef, undef], []⟩ w) {z1 : Int} {q1 : ByteArray} (h1 : H1 z1 q1) {z2 : Int} {q2 : ByteArray} (h2 : H2 z2 q2) {z3 : Int} (h3 : 0 ≤ z3 ∧ z3 < 100) {z4 : Int} {q4 : ByteArray} (h4 : H4 z4 q4) {z5 : Int} (h5 : 0 ≤ z5 ∧ z5 < 31) {z6 : Int} (h6 : 0 ≤ z6 ∧ z6 < 24) {z7 : Int} (h7 : 0 ≤ z7 ∧ z7 < 60) (b3 : Nat) (b4 : Nat) (w : World) (hS : Sn r W none none (some (b3)) (some (b4)) w) : wpAnyH Tryd.prog .any OPS Q (Sn r W none none (some (b3)) (some (b4))) 9 #[false, true, true, false, false, false, true, true, false, false, true, true, true, true, true, true, true, true, true, true, true, true, true, true, true, false, false, true, false] ⟨#[.pointer (some ⟨r, 0, none⟩), undef, .pointer (some ⟨W.heap.size, 0, none⟩), .pointer (some ⟨b4, 0, none⟩), undef, undef, undef, .pointer (some ⟨r, 0, none⟩), .int .i64 z1, undef, undef, undef, .pointer (some ⟨r, 0, none⟩), .int .i64 z2, undef, undef, .pointer (some ⟨r, 0, none⟩), .int .i64 z3, .slice (some ⟨b3, 0, none⟩) 3 3, .pointer (some ⟨r, 0, none⟩), .int .i64 z4, .pointer (some ⟨b3, z4.toNat, none⟩), .string q4, .pointer (some ⟨r, 0, none⟩), .int .i64 z5, .int .i64 (1 + z5), .pointer (some ⟨r, 0, none⟩), .int .i64 z6, .pointer (some ⟨r, 0, none⟩), .int .i64 z7, .pointer (some ⟨r, 0, none⟩), undef, undef, undef, undef, undef, undef, undef, undef, undef, undef, undef, undef], []⟩ w := by
  refine wpAnyH_ready (rs := [0, 5, 25]) (by kernel_rfl) (by simp) ?_
  refine AllReadyH.cons (o := { dst := some 6, op := Go.Op.buildSlice 37 5 #[(0, Go.Operand.const (Go.Value.string { data := #[83, 77] })), (1, Go.Operand.const (Go.Value.string { data := #[83, 73] })), (2, Go.Operand.const (Go.Value.string { data := #[85, 83] })), (3, Go.Operand.const (Go.Value.string { data := #[70, 84] })), (4, Go.Operand.const (Go.Value.string { data := #[87, 87] }))], type := 37, pos := "l04_bulletins.go:338", after := #[], guard := none }) rfl (fun K hK => ?_) ?_
  · go_simp
    have hS2 : Sn r W (some (w.heap.size)) none (some (b3)) (some (b4)) (w.alloc oK) := hS.lit1
    refine hK.out _ _ (by first | exact hS2 | exact hS2.less1 | exact hS2.less2 | exact hS2.less3 | exact hS2.less4) (fun _ => ?_)
    clear hK K
    refine wpAnyH_weak (S1 := Sn r W (some (w.heap.size)) none (some (b3)) (some (b4))) (fun _ h => h.less1) _ _ _ _ ?_
    refine wpAnyH_take (i := 3) (oi := { dst := some 9, op := Go.Op.indexAddr 37 (Go.Operand.tmp 6) (Go.Operand.tmp 8), type := 0, pos := "l04_bulletins.go:338", after := #[{ on := 0, ground := Go.Ground.data }, { on := 2, ground := Go.Ground.data }], guard := none }) (v := (.pointer (some ⟨w.heap.size, z1.toNat, none⟩))) rfl (by kernel_rfl) (by kernel_rfl) (by kernel_rfl) (fun c a w h => hP c a _ _ w h) (Or.inl ⟨by rfl, ?_⟩) (by assumption) ?_
    · intro w hSw; have g1 := h1.1.1; have g2 := h1.1.2; go_simp
    (try simp only [Act.put, List.setIfInBounds_toArray, List.set_cons_zero, List.set_cons_succ])
    refine wpAnyH_take (i := 4) (oi := { dst := some 10, op := Go.Op.load 9 (Go.Operand.tmp 9), type := 9, pos := "l04_bulletins.go:338", after := #[{ on := 3, ground := Go.Ground.data }], guard := none }) (v := (.string q1)) rfl (by kernel_rfl) (by kernel_rfl) (by kernel_rfl) (fun c a w h => hP c a _ _ w h) (Or.inl ⟨by rfl, ?_⟩) (by assumption) ?_
    · intro w hSw; have cc := blk_cell (hSw.l1 _ rfl).on h1.2.2; go_simp
    (try simp only [Act.put, List.setIfInBounds_toArray, List.set_cons_zero, List.set_cons_succ])
    exact st71011 hP hQ h1 h2 h3 h4 h5 h6 h7 (w.heap.size) (b3) (b4) _ hS2
  refine AllReadyH.cons (o := { dst := some 11, op := Go.Op.buildSlice 37 3 #[(0, Go.Operand.const (Go.Value.string { data := #[68, 76] })), (1, Go.Operand.const (Go.Value.string { data := #[78, 79] })), (2, Go.Operand.const (Go.Value.string { data := #[88, 88] }))], type := 37, pos := "l04_bulletins.go:338", after := #[], guard := none }) rfl (fun K hK => ?_) ?_
  · go_simp
    have hS2 : Sn r W none (some (w.heap.size)) (some (b3)) (some (b4)) (w.alloc oA) := hS.lit2
    refine hK.out _ _ (by first | exact hS2 | exact hS2.less1 | exact hS2.less2 | exact hS2.less3 | exact hS2.less4) (fun _ => ?_)
    clear hK K
    refine wpAnyH_weak (S1 := Sn r W none (some (w.heap.size)) (some (b3)) (some (b4))) (fun _ h => h.less2) _ _ _ _ ?_
    refine wpAnyH_take (i := 8) (oi := { dst := some 14, op := Go.Op.indexAddr 37 (Go.Operand.tmp 11) (Go.Operand.tmp 13), type := 0, pos := "l04_bulletins.go:338", after := #[{ on := 5, ground := Go.Ground.data }, { on := 7, ground := Go.Ground.data }], guard := none }) (v := (.pointer (some ⟨w.heap.size, z2.toNat, none⟩))) rfl (by kernel_rfl) (by kernel_rfl) (by kernel_rfl) (fun c a w h => hP c a _ _ w h) (Or.inl ⟨by rfl, ?_⟩) (by assumption) ?_
    · intro w hSw; have g1 := h2.1.1; have g2 := h2.1.2; go_simp
    (try simp only [Act.put, List.setIfInBounds_toArray, List.set_cons_zero, List.set_cons_succ])
    refine wpAnyH_take (i := 9) (oi := { dst := some 15, op := Go.Op.load 9 (Go.Operand.tmp 14), type := 9, pos := "l04_bulletins.go:338", after := #[{ on := 8, ground := Go.Ground.data }], guard := none }) (v := (.string q2)) rfl (by kernel_rfl) (by kernel_rfl) (by kernel_rfl) (fun c a w h => hP c a _ _ w h) (Or.inl ⟨by rfl, ?_⟩) (by assumption) ?_
    · intro w hSw; have cc := blk_cell (hSw.l2 _ rfl).on h2.2.2; go_simp
    (try simp only [Act.put, List.setIfInBounds_toArray, List.set_cons_zero, List.set_cons_succ])
    exact st70111 hP hQ h1 h2 h3 h4 h5 h6 h7 (w.heap.size) (b3) (b4) _ hS2
  refine AllReadyH.cons (o := { dst := some 31, op := Go.Op.call { callee := Go.Callee.value (Go.Operand.func 28), args := #[Go.Operand.tmp 30], argTypes := #[33] }, type := 9, pos := "l04_bulletins.go:338", after := #[{ on := 24, ground := Go.Ground.data }, { on := 23, ground := Go.Ground.chain }], guard := none }) rfl (fun K hK => ?_) ?_
  · have rdw := hS.rd
    go_simp
    go_at_call 28
    refine (mark_any r _ rdw).mono ?_
    rintro e w1 ⟨⟨q8, rfl, h8⟩, k1, t1⟩
    have hS2 := hS.turn t1 k1
    clear k1 t1 hS rdw
    go_wp2_with fail
    refine hK.out _ _ (by first | exact hS2 | exact hS2.less1 | exact hS2.less2 | exact hS2.less3 | exact hS2.less4) (fun _ => ?_)
    clear hK K
    exact st80011 hP hQ h1 h2 h3 h4 h5 h6 h7 h8 (b3) (b4) _ hS2
  exact AllReadyH.nil
set_option maxHeartbeats 2000000 in
theorem st70101 {r : Nat} {W : World} {Q : Exit → Act → World → Prop} (hP : ∀ c (a : Act) d (v : Value) w, Q (.panic c) (a.put d v) w → Q (.panic c) a w) (hQ : ∀ (bx : Nat) (u6 u7 u8 u9 u10 u11 u12 u13 u14 u15 u16 u17 u18 u19 u20 u21 u22 u23 u24 u25 u26 u27 u28 u29 u30 u31 u32 : Value) (w : World), Fin r W bx w → Q .normal ⟨#[.pointer (some ⟨r, 0, none⟩), undef, .pointer (some ⟨W.heap.size, 0, none⟩), .pointer (some ⟨bx, 0, none⟩), undef, undef, u6, u7, u8, u9, u10, u11, u12, u13, u14, u15, u16, u17, u18, u19, u20, u21, u22, u23, u24, u25, u26, u27, u28, u29, u30, u31, u32, undef, undef, undef, undef, undef, undef, undef, undef, undef, undef], []⟩ w) {z1 : Int} {q1 : ByteArray} (h1 : H1 z1 q1) {z2 : Int} {q2 : ByteArray} (h2 : H2 z2 q2) {z3 : Int} (h3 : 0 ≤ z3 ∧ z3 < 100) {z4 : Int} {q4 : ByteArray} (h4 : H4 z4 q4) {z5 : Int} (h5 : 0 ≤ z5 ∧ z5 < 31) {z6 : Int} (h6 : 0 ≤ z6 ∧ z6 < 24) {z7 : Int} (h7 : 0 ≤ z7 ∧ z7 < 60) (b2 : Nat) (b4 : Nat) (w : World) (hS : Sn r W none (some (b2)) none (some (b4)) w) : wpAnyH Tryd.prog .any OPS Q (Sn r W none (some (b2)) none (some (b4))) 9 #[false, true, true, false, false, true, true, true, true, true, true, true, false, true, true, false, false, true, true, true, true, true, true, true, true, false, false, true, false] ⟨#[.pointer (some ⟨r, 0, none⟩), undef, .pointer (some ⟨W.heap.size, 0, none⟩), .pointer (some ⟨b4, 0, none⟩), undef, undef, undef, .pointer (some ⟨r, 0, none⟩), .int .i64 z1, undef, undef, .slice (some ⟨b2, 0, none⟩) 3 3, .pointer (some ⟨r, 0, none⟩), .int .i64 z2, .pointer (some ⟨b2, z2.toNat, none⟩), .string q2, .pointer (some ⟨r, 0, none⟩), .int .i64 z3, undef, .pointer (some ⟨r, 0, none⟩), .int .i64 z4, undef, undef, .pointer (some ⟨r, 0, none⟩), .int .i64 z5, .int .i64 (1 + z5), .pointer (some ⟨r, 0, none⟩), .int .i64 z6, .pointer (some ⟨r, 0, none⟩), .int .i64 z7, .pointer (some ⟨r, 0, none⟩), undef, undef, undef, undef, undef, undef, undef, undef, undef, undef, undef, undef], []⟩ w := by
  refine wpAnyH_ready (rs := [0, 12, 25]) (by kernel_rfl) (by simp) ?_
  refine AllReadyH.cons (o := { dst := some 6, op := Go.Op.buildSlice 37 5 #[(0, Go.Operand.const (Go.Value.string { data := #[83, 77] })), (1, Go.Operand.const (Go.Value.string { data := #[83, 73] })), (2, Go.Operand.const (Go.Value.string { data := #[85, 83] })), (3, Go.Operand.const (Go.Value.string { data := #[70, 84] })), (4, Go.Operand.const (Go.Value.string { data := #[87, 87] }))], type := 37, pos := "l04_bulletins.go:338", after := #[], guard := none }) rfl (fun K hK => ?_) ?_
  · go_simp
    have hS2 : Sn r W (some (w.heap.size)) (some (b2)) none (some (b4)) (w.alloc oK) := hS.lit1
    refine hK.out _ _ (by first | exact hS2 | exact hS2.less1 | exact hS2.less2 | exact hS2.less3 | exact hS2.less4) (fun _ => ?_)
    clear hK K
    refine wpAnyH_weak (S1 := Sn r W (some (w.heap.size)) (some (b2)) none (some (b4))) (fun _ h => h.less1) _ _ _ _ ?_
    refine wpAnyH_take (i := 3) (oi := { dst := some 9, op := Go.Op.indexAddr 37 (Go.Operand.tmp 6) (Go.Operand.tmp 8), type := 0, pos := "l04_bulletins.go:338", after := #[{ on := 0, ground := Go.Ground.data }, { on := 2, ground := Go.Ground.data }], guard := none }) (v := (.pointer (some ⟨w.heap.size, z1.toNat, none⟩))) rfl (by kernel_rfl) (by kernel_rfl) (by kernel_rfl) (fun c a w h => hP c a _ _ w h) (Or.inl ⟨by rfl, ?_⟩) (by assumption) ?_
    · intro w hSw; have g1 := h1.1.1; have g2 := h1.1.2; go_simp
    (try simp only [Act.put, List.setIfInBounds_toArray, List.set_cons_zero, List.set_cons_succ])
    refine wpAnyH_take (i := 4) (oi := { dst := some 10, op := Go.Op.load 9 (Go.Operand.tmp 9), type := 9, pos := "l04_bulletins.go:338", after := #[{ on := 3, ground := Go.Ground.data }], guard := none }) (v := (.string q1)) rfl (by kernel_rfl) (by kernel_rfl) (by kernel_rfl) (fun c a w h => hP c a _ _ w h) (Or.inl ⟨by rfl, ?_⟩) (by assumption) ?_
    · intro w hSw; have cc := blk_cell (hSw.l1 _ rfl).on h1.2.2; go_simp
    (try simp only [Act.put, List.setIfInBounds_toArray, List.set_cons_zero, List.set_cons_succ])
    exact st71101 hP hQ h1 h2 h3 h4 h5 h6 h7 (w.heap.size) (b2) (b4) _ hS2
  refine AllReadyH.cons (o := { dst := some 18, op := Go.Op.buildSlice 37 3 #[(0, Go.Operand.const (Go.Value.string { data := #[65, 77, 77, 67] })), (1, Go.Operand.const (Go.Value.string { data := #[69, 78, 77, 73] })), (2, Go.Operand.const (Go.Value.string { data := #[75, 49, 65, 65] }))], type := 37, pos := "l04_bulletins.go:338", after := #[], guard := none }) rfl (fun K hK => ?_) ?_
  · go_simp
    have hS2 : Sn r W none (some (b2)) (some (w.heap.size)) (some (b4)) (w.alloc oC) := hS.lit3
    refine hK.out _ _ (by first | exact hS2 | exact hS2.less1 | exact hS2.less2 | exact hS2.less3 | exact hS2.less4) (fun _ => ?_)
    clear hK K
    refine wpAnyH_weak (S1 := Sn r W none (some (b2)) (some (w.heap.size)) (some (b4))) (fun _ h => h.less3) _ _ _ _ ?_
    refine wpAnyH_take (i := 15) (oi := { dst := some 21, op := Go.Op.indexAddr 37 (Go.Operand.tmp 18) (Go.Operand.tmp 20), type := 0, pos := "l04_bulletins.go:338", after := #[{ on := 12, ground := Go.Ground.data }, { on := 14, ground := Go.Ground.data }], guard := none }) (v := (.pointer (some ⟨w.heap.size, z4.toNat, none⟩))) rfl (by kernel_rfl) (by kernel_rfl) (by kernel_rfl) (fun c a w h => hP c a _ _ w h) (Or.inl ⟨by rfl, ?_⟩) (by assumption) ?_
    · intro w hSw; have g1 := h4.1.1; have g2 := h4.1.2; go_simp
    (try simp only [Act.put, List.setIfInBounds_toArray, List.set_cons_zero, List.set_cons_succ])
    refine wpAnyH_take (i := 16) (oi := { dst := some 22, op := Go.Op.load 9 (Go.Operand.tmp 21), type := 9, pos := "l04_bulletins.go:338", after := #[{ on := 15, ground := Go.Ground.data }], guard := none }) (v := (.string q4)) rfl (by kernel_rfl) (by kernel_rfl) (by kernel_rfl) (fun c a w h => hP c a _ _ w h) (Or.inl ⟨by rfl, ?_⟩) (by assumption) ?_
    · intro w hSw; have cc := blk_cell (hSw.l3 _ rfl).on h4.2.2; go_simp
    (try simp only [Act.put, List.setIfInBounds_toArray, List.set_cons_zero, List.set_cons_succ])
    exact st70111 hP hQ h1 h2 h3 h4 h5 h6 h7 (b2) (w.heap.size) (b4) _ hS2
  refine AllReadyH.cons (o := { dst := some 31, op := Go.Op.call { callee := Go.Callee.value (Go.Operand.func 28), args := #[Go.Operand.tmp 30], argTypes := #[33] }, type := 9, pos := "l04_bulletins.go:338", after := #[{ on := 24, ground := Go.Ground.data }, { on := 23, ground := Go.Ground.chain }], guard := none }) rfl (fun K hK => ?_) ?_
  · have rdw := hS.rd
    go_simp
    go_at_call 28
    refine (mark_any r _ rdw).mono ?_
    rintro e w1 ⟨⟨q8, rfl, h8⟩, k1, t1⟩
    have hS2 := hS.turn t1 k1
    clear k1 t1 hS rdw
    go_wp2_with fail
    refine hK.out _ _ (by first | exact hS2 | exact hS2.less1 | exact hS2.less2 | exact hS2.less3 | exact hS2.less4) (fun _ => ?_)
    clear hK K
    exact st80101 hP hQ h1 h2 h3 h4 h5 h6 h7 h8 (b2) (b4) _ hS2
  exact AllReadyH.nil
set_option maxHeartbeats 2000000 in
theorem st70110 {r : Nat} {W : World} {Q : Exit → Act → World → Prop} (hP : ∀ c (a : Act) d (v : Value) w, Q (.panic c) (a.put d v) w → Q (.panic c) a w) (hQ : ∀ (bx : Nat) (u6 u7 u8 u9 u10 u11 u12 u13 u14 u15 u16 u17 u18 u19 u20 u21 u22 u23 u24 u25 u26 u27 u28 u29 u30 u31 u32 : Value) (w : World), Fin r W bx w → Q .normal ⟨#[.pointer (some ⟨r, 0, none⟩), undef, .pointer (some ⟨W.heap.size, 0, none⟩), .pointer (some ⟨bx, 0, none⟩), undef, undef, u6, u7, u8, u9, u10, u11, u12, u13, u14, u15, u16, u17, u18, u19, u20, u21, u22, u23, u24, u25, u26, u27, u28, u29, u30, u31, u32, undef, undef, undef, undef, undef, undef, undef, undef, undef, undef], []⟩ w) {z1 : Int} {q1 : ByteArray} (h1 : H1 z1 q1) {z2 : Int} {q2 : ByteArray} (h2 : H2 z2 q2) {z3 : Int} (h3 : 0 ≤ z3 ∧ z3 < 100) {z4 : Int} {q4 : ByteArray} (h4 : H4 z4 q4) {z5 : Int} (h5 : 0 ≤ z5 ∧ z5 < 31) {z6 : Int} (h6 : 0 ≤ z6 ∧ z6 < 24) {z7 : Int} (h7 : 0 ≤ z7 ∧ z7 < 60) (b2 : Nat) (b3 : Nat) (w : World) (hS : Sn r W none (some (b2)) (some (b3)) none w) : wpAnyH Tryd.prog .any OPS Q (Sn r W none (some (b2)) (some (b3)) none) 7 #[false, true, true, false, false, true, true, true, true, true, true, true, true, true, true, true, true, true, true, true, true, true, true, true, true, false, false, false, false] ⟨#[.pointer (some ⟨r, 0, none⟩), undef, .pointer (some ⟨W.heap.size, 0, none⟩), undef, undef, undef, undef, .pointer (some ⟨r, 0, none⟩), .int .i64 z1, undef, undef, .slice (some ⟨b2, 0, none⟩) 3 3, .pointer (some ⟨r, 0, none⟩), .int .i64 z2, .pointer (some ⟨b2, z2.toNat, none⟩), .string q2, .pointer (some ⟨r, 0, none⟩), .int .i64 z3, .slice (some ⟨b3, 0, none⟩) 3 3, .pointer (some ⟨r, 0, none⟩), .int .i64 z4, .pointer (some ⟨b3, z4.toNat, none⟩), .string q4, .pointer (some ⟨r, 0, none⟩), .int .i64 z5, .int .i64 (1 + z5), .pointer (some ⟨r, 0, none⟩), .int .i64 z6, .pointer (some ⟨r, 0, none⟩), .int .i64 z7, .pointer (some ⟨r, 0, none⟩), undef, undef, undef, undef, undef, undef, undef, undef, undef, undef, undef, undef], []⟩ w := by
  refine wpAnyH_ready (rs := [0, 25, 27]) (by kernel_rfl) (by simp) ?_
  refine AllReadyH.cons (o := { dst := some 6, op := Go.Op.buildSlice 37 5 #[(0, Go.Operand.const (Go.Value.string { data := #[83, 77] })), (1, Go.Operand.const (Go.Value.string { data := #[83, 73] })), (2, Go.Operand.const (Go.Value.string { data := #[85, 83] })), (3, Go.Operand.const (Go.Value.string { data := #[70, 84] })), (4, Go.Operand.const (Go.Value.string { data := #[87, 87] }))], type := 37, pos := "l04_bulletins.go:338", after := #[], guard := none }) rfl (fun K hK => ?_) ?_
  · go_simp
    have hS2 : Sn r W (some (w.heap.size)) (some (b2)) (some (b3)) none (w.alloc oK) := hS.lit1
    refine hK.out _ _ (by first | exact hS2 | exact hS2.less1 | exact hS2.less2 | exact hS2.less3 | exact hS2.less4) (fun _ => ?_)
    clear hK K
    refine wpAnyH_weak (S1 := Sn r W (some (w.heap.size)) (some (b2)) (some (b3)) none) (fun _ h => h.less1) _ _ _ _ ?_
    refine wpAnyH_take (i := 3) (oi := { dst := some 9, op := Go.Op.indexAddr 37 (Go.Operand.tmp 6) (Go.Operand.tmp 8), type := 0, pos := "l04_bulletins.go:338", after := #[{ on := 0, ground := Go.Ground.data }, { on := 2, ground := Go.Ground.data }], guard := none }) (v := (.pointer (some ⟨w.heap.size, z1.toNat, none⟩))) rfl (by kernel_rfl) (by kernel_rfl) (by kernel_rfl) (fun c a w h => hP c a _ _ w h) (Or.inl ⟨by rfl, ?_⟩) (by assumption) ?_
    · intro w hSw; have g1 := h1.1.1; have g2 := h1.1.2; go_simp
    (try simp only [Act.put, List.setIfInBounds_toArray, List.set_cons_zero, List.set_cons_succ])
    refine wpAnyH_take (i := 4) (oi := { dst := some 10, op := Go.Op.load 9 (Go.Operand.tmp 9), type := 9, pos := "l04_bulletins.go:338", after := #[{ on := 3, ground := Go.Ground.data }], guard := none }) (v := (.string q1)) rfl (by kernel_rfl) (by kernel_rfl) (by kernel_rfl) (fun c a w h => hP c a _ _ w h) (Or.inl ⟨by rfl, ?_⟩) (by assumption) ?_
    · intro w hSw; have cc := blk_cell (hSw.l1 _ rfl).on h1.2.2; go_simp
    (try simp only [Act.put, List.setIfInBounds_toArray, List.set_cons_zero, List.set_cons_succ])
    exact st71110 hP hQ h1 h2 h3 h4 h5 h6 h7 (w.heap.size) (b2) (b3) _ hS2
  refine AllReadyH.cons (o := { dst := some 31, op := Go.Op.call { callee := Go.Callee.value (Go.Operand.func 28), args := #[Go.Operand.tmp 30], argTypes := #[33] }, type := 9, pos := "l04_bulletins.go:338", after := #[{ on := 24, ground := Go.Ground.data }, { on := 23, ground := Go.Ground.chain }], guard := none }) rfl (fun K hK => ?_) ?_
  · have rdw := hS.rd
    go_simp
    go_at_call 28
    refine (mark_any r _ rdw).mono ?_
    rintro e w1 ⟨⟨q8, rfl, h8⟩, k1, t1⟩
    have hS2 := hS.turn t1 k1
    clear k1 t1 hS rdw
    go_wp2_with fail
    refine hK.out _ _ (by first | exact hS2 | exact hS2.less1 | exact hS2.less2 | exact hS2.less3 | exact hS2.less4) (fun _ => ?_)
    clear hK K
    exact st80110 hP hQ h1 h2 h3 h4 h5 h6 h7 h8 (b2) (b3) _ hS2
  refine AllReadyH.cons (o := { dst := some 3, op := Go.Op.alloc 25, type := 0, pos := "l04_bulletins.go:338", after := #[], guard := none }) rfl (fun K hK => ?_) ?_
  · go_simp
    have hS2 : Sn r W none (some (b2)) (some (b3)) (some (w.heap.size)) (w.alloc oH) := hS.lit4
    refine hK.out _ _ (by first | exact hS2 | exact hS2.less1 | exact hS2.less2 | exact hS2.less3 | exact hS2.less4) (fun _ => ?_)
    clear hK K
    refine wpAnyH_weak (S1 := Sn r W none (some (b2)) (some (b3)) (some (w.heap.size))) (fun _ h => h.less4) _ _ _ _ ?_
    exact st70111 hP hQ h1 h2 h3 h4 h5 h6 h7 (b2) (b3) (w.heap.size) _ hS2
  exact AllReadyH.nil
set_option maxHeartbeats 2000000 in
theorem st71001 {r : Nat} {W : World} {Q : Exit → Act → World → Prop} (hP : ∀ c (a : Act) d (v : Value) w, Q (.panic c) (a.put d v) w → Q (.panic c) a w) (hQ : ∀ (bx : Nat) (u6 u7 u8 u9 u10 u11 u12 u13 u14 u15 u16 u17 u18 u19 u20 u21 u22 u23 u24 u25 u26 u27 u28 u29 u30 u31 u32 : Value) (w : World), Fin r W bx w → Q .normal ⟨#[.pointer (some ⟨r, 0, none⟩), undef, .pointer (some ⟨W.heap.size, 0, none⟩), .pointer (some ⟨bx, 0, none⟩), undef, undef, u6, u7, u8, u9, u10, u11, u12, u13, u14, u15, u16, u17, u18, u19, u20, u21, u22, u23, u24, u25, u26, u27, u28, u29, u30, u31, u32, undef, undef, undef, undef, undef, undef, undef, undef, undef, undef], []⟩ w) {z1 : Int} {q1 : ByteArray} (h1 : H1 z1 q1) {z2 : Int} {q2 : ByteArray} (h2 : H2 z2 q2) {z3 : Int} (h3 : 0 ≤ z3 ∧ z3 < 100) {z4 : Int} {q4 : ByteArray} (h4 : H4 z4 q4) {z5 : Int} (h5 : 0 ≤ z5 ∧ z5 < 31) {z6 : Int} (h6 : 0 ≤ z6 ∧ z6 < 24) {z7 : Int} (h7 : 0 ≤ z7 ∧ z7 < 60) (b1 : Nat) (b4 : Nat) (w : World) (hS : Sn r W (some (b1)) none none (some (b4)) w) : wpAnyH Tryd.prog .any OPS Q (Sn r W (some (b1)) none none (some (b4))) 9 #[true, true, true, true, true, false, true, true, false, false, true, true, false, true, true, false, false, true, true, true, true, true, true, true, true, false, false, true, false] ⟨#[.pointer (some ⟨r, 0, none⟩), undef, .pointer (some ⟨W.heap.size, 0, none⟩), .pointer (some ⟨b4, 0, none⟩), undef, undef, .slice (some ⟨b1, 0, none⟩) 5 5, .pointer (some ⟨r, 0, none⟩), .int .i64 z1, .pointer (some ⟨b1, z1.toNat, none⟩), .string q1, undef, .pointer (some ⟨r, 0, none⟩), .int .i64 z2, undef, undef, .pointer (some ⟨r, 0, none⟩), .int .i64 z3, undef, .pointer (some ⟨r, 0, none⟩), .int .i64 z4, undef, undef, .pointer (some ⟨r, 0, none⟩), .int .i64 z5, .int .i64 (1 + z5), .pointer (some ⟨r, 0, none⟩), .int .i64 z6, .pointer (some ⟨r, 0, none⟩), .int .i64 z7, .pointer (some ⟨r, 0, none⟩), undef, undef, undef, undef, undef, undef, undef, undef, undef, undef, undef, undef], []⟩ w := by
  refine wpAnyH_ready (rs := [5, 12, 25]) (by kernel_rfl) (by simp) ?_
  refine AllReadyH.cons (o := { dst := some 11, op := Go.Op.buildSlice 37 3 #[(0, Go.Operand.const (Go.Value.string { data := #[68, 76] })), (1, Go.Operand.const (Go.Value.string { data := #[78, 79] })), (2, Go.Operand.const (Go.Value.string { data := #[88, 88] }))], type := 37, pos := "l04_bulletins.go:338", after := #[], guard := none }) rfl (fun K hK => ?_) ?_
  · go_simp
    have hS2 : Sn r W (some (b1)) (some (w.heap.size)) none (some (b4)) (w.alloc oA) := hS.lit2
    refine hK.out _ _ (by first | exact hS2 | exact hS2.less1 | exact hS2.less2 | exact hS2.less3 | exact hS2.less4) (fun _ => ?_)
    clear hK K
    refine wpAnyH_weak (S1 := Sn r W (some (b1)) (some (w.heap.size)) none (some (b4))) (fun _ h => h.less2) _ _ _ _ ?_
    refine wpAnyH_take (i := 8) (oi := { dst := some 14, op := Go.Op.indexAddr 37 (Go.Operand.tmp 11) (Go.Operand.tmp 13), type := 0, pos := "l04_bulletins.go:338", after := #[{ on := 5, ground := Go.Ground.data }, { on := 7, ground := Go.Ground.data }], guard := none }) (v := (.pointer (some ⟨w.heap.size, z2.toNat, none⟩))) rfl (by kernel_rfl) (by kernel_rfl) (by kernel_rfl) (fun c a w h => hP c a _ _ w h) (Or.inl ⟨by rfl, ?_⟩) (by assumption) ?_
    · intro w hSw; have g1 := h2.1.1; have g2 := h2.1.2; go_simp
    (try simp only [Act.put, List.setIfInBounds_toArray, List.set_cons_zero, List.set_cons_succ])
    refine wpAnyH_take (i := 9) (oi := { dst := some 15, op := Go.Op.load 9 (Go.Operand.tmp 14), type := 9, pos := "l04_bulletins.go:338", after := #[{ on := 8, ground := Go.Ground.data }], guard := none }) (v := (.string q2)) rfl (by kernel_rfl) (by kernel_rfl) (by kernel_rfl) (fun c a w h => hP c a _ _ w h) (Or.inl ⟨by rfl, ?_⟩) (by assumption) ?_
    · intro w hSw; have cc := blk_cell (hSw.l2 _ rfl).on h2.2.2; go_simp
    (try simp only [Act.put, List.setIfInBounds_toArray, List.set_cons_zero, List.set_cons_succ])
    exact st71101 hP hQ h1 h2 h3 h4 h5 h6 h7 (b1) (w.heap.size) (b4) _ hS2
  refine AllReadyH.cons (o := { dst := some 18, op := Go.Op.buildSlice 37 3 #[(0, Go.Operand.const (Go.Value.string { data := #[65, 77, 77, 67] })), (1, Go.Operand.const (Go.Value.string { data := #[69, 78, 77, 73] })), (2, Go.Operand.const (Go.Value.string { data := #[75, 49, 65, 65] }))], type := 37, pos := "l04_bulletins.go:338", after := #[], guard := none }) rfl (fun K hK => ?_) ?_
  · go_simp
    have hS2 : Sn r W (some (b1)) none (some (w.heap.size)) (some (b4)) (w.alloc oC) := hS.lit3
    refine hK.out _ _ (by first | exact hS2 | exact hS2.less1 | exact hS2.less2 | exact hS2.less3 | exact hS2.less4) (fun _ => ?_)
    clear hK K
    refine wpAnyH_weak (S1 := Sn r W (some (b1)) none (some (w.heap.size)) (some (b4))) (fun _ h => h.less3) _ _ _ _ ?_
    refine wpAnyH_take (i := 15) (oi := { dst := some 21, op := Go.Op.indexAddr 37 (Go.Operand.tmp 18) (Go.Operand.tmp 20), type := 0, pos := "l04_bulletins.go:338", after := #[{ on := 12, ground := Go.Ground.data }, { on := 14, ground := Go.Ground.data }], guard := none }) (v := (.pointer (some ⟨w.heap.size, z4.toNat, none⟩))) rfl (by kernel_rfl) (by kernel_rfl) (by kernel_rfl) (fun c a w h => hP c a _ _ w h) (Or.inl ⟨by rfl, ?_⟩) (by assumption) ?_
    · intro w hSw; have g1 := h4.1.1; have g2 := h4.1.2; go_simp
    (try simp only [Act.put, List.setIfInBounds_toArray, List.set_cons_zero, List.set_cons_succ])
    refine wpAnyH_take (i := 16) (oi := { dst := some 22, op := Go.Op.load 9 (Go.Operand.tmp 21), type := 9, pos := "l04_bulletins.go:338", after := #[{ on := 15, ground := Go.Ground.data }], guard := none }) (v := (.string q4)) rfl (by kernel_rfl) (by kernel_rfl) (by kernel_rfl) (fun c a w h => hP c a _ _ w h) (Or.inl ⟨by rfl, ?_⟩) (by assumption) ?_
    · intro w hSw; have cc := blk_cell (hSw.l3 _ rfl).on h4.2.2; go_simp
    (try simp only [Act.put, List.setIfInBounds_toArray, List.set_cons_zero, List.set_cons_succ])
    exact st71011 hP hQ h1 h2 h3 h4 h5 h6 h7 (b1) (w.heap.size) (b4) _ hS2
  refine AllReadyH.cons (o := { dst := some 31, op := Go.Op.call { callee := Go.Callee.value (Go.Operand.func 28), args := #[Go.Operand.tmp 30], argTypes := #[33] }, type := 9, pos := "l04_bulletins.go:338", after := #[{ on := 24, ground := Go.Ground.data }, { on := 23, ground := Go.Ground.chain }], guard := none }) rfl (fun K hK => ?_) ?_
  · have rdw := hS.rd
    go_simp
    go_at_call 28
    refine (mark_any r _ rdw).mono ?_
    rintro e w1 ⟨⟨q8, rfl, h8⟩, k1, t1⟩
    have hS2 := hS.turn t1 k1
    clear k1 t1 hS rdw
    go_wp2_with fail
    refine hK.out _ _ (by first | exact hS2 | exact hS2.less1 | exact hS2.less2 | exact hS2.less3 | exact hS2.less4) (fun _ => ?_)
    clear hK K
    exact st81001 hP hQ h1 h2 h3 h4 h5 h6 h7 h8 (b1) (b4) _ hS2
  exact AllReadyH.nil
set_option maxHeartbeats 2000000 in
theorem st71010 {r : Nat} {W : World} {Q : Exit → Act → World → Prop} (hP : ∀ c (a : Act) d (v : Value) w, Q (.panic c) (a.put d v) w → Q (.panic c) a w) (hQ : ∀ (bx : Nat) (u6 u7 u8 u9 u10 u11 u12 u13 u14 u15 u16 u17 u18 u19 u20 u21 u22 u23 u24 u25 u26 u27 u28 u29 u30 u31 u32 : Value) (w : World), Fin r W bx w → Q .normal ⟨#[.pointer (some ⟨r, 0, none⟩), undef, .pointer (some ⟨W.heap.size, 0, none⟩), .pointer (some ⟨bx, 0, none⟩), undef, undef, u6, u7, u8, u9, u10, u11, u12, u13, u14, u15, u16, u17, u18, u19, u20, u21, u22, u23, u24, u25, u26, u27, u28, u29, u30, u31, u32, undef, undef, undef, undef, undef, undef, undef, undef, undef, undef], []⟩ w) {z1 : Int} {q1 : ByteArray} (h1 : H1 z1 q1) {z2 : Int} {q2 : ByteArray} (h2 : H2 z2 q2) {z3 : Int} (h3 : 0 ≤ z3 ∧ z3 < 100) {z4 : Int} {q4 : ByteArray} (h4 : H4 z4 q4) {z5 : Int} (h5 : 0 ≤ z5 ∧ z5 < 31) {z6 : Int} (h6 : 0 ≤ z6 ∧ z6 < 24) {z7 : Int} (h7 : 0 ≤ z7 ∧ z7 < 60) (b1 : Nat) (b3 : Nat) (w : World) (hS : Sn r W (some (b1)) none (some (b3)) none w) : wpAnyH Tryd.prog .any OPS Q (Sn r W (some (b1)) none (some (b3)) none) 7 #[true, true, true, true, true, false, true, true, false, false, true, true, true, true, true, true, true, true, true, true, true, true, true, true, true, false, false, false, false] ⟨#[.pointer (some ⟨r, 0, none⟩), undef, .pointer (some ⟨W.heap.size, 0, none⟩), undef, undef, undef, .slice (some ⟨b1, 0, none⟩) 5 5, .pointer (some ⟨r, 0, none⟩), .int .i64 z1, .pointer (some ⟨b1, z1.toNat, none⟩), .string q1, undef, .pointer (some ⟨r, 0, none⟩), .int .i64 z2, undef, undef, .pointer (some ⟨r, 0, none⟩), .int .i64 z3, .slice (some ⟨b3, 0, none⟩) 3 3, .pointer (some ⟨r, 0, none⟩), .int .i64 z4, .pointer (some ⟨b3, z4.toNat, none⟩), .string q4, .pointer (some ⟨r, 0, none⟩), .int .i64 z5, .int .i64 (1 + z5), .pointer (some ⟨r, 0, none⟩), .int .i64 z6, .pointer (some ⟨r, 0, none⟩), .int .i64 z7, .pointer (some ⟨r, 0, none⟩), undef, undef, undef, undef, undef, undef, undef, undef, undef, undef, undef, undef], []⟩ w := by
  refine wpAnyH_ready (rs := [5, 25, 27]) (by kernel_rfl) (by simp) ?_
  refine AllReadyH.cons (o := { dst := some 11, op := Go.Op.buildSlice 37 3 #[(0, Go.Operand.const (Go.Value.string { data := #[68, 76] })), (1, Go.Operand.const (Go.Value.string { data := #[78, 79] })), (2, Go.Operand.const (Go.Value.string { data := #[88, 88] }))], type := 37, pos := "l04_bulletins.go:338", after := #[], guard := none }) rfl (fun K hK => ?_) ?_
  · go_simp
    have hS2 : Sn r W (some (b1)) (some (w.heap.size)) (some (b3)) none (w.alloc oA) := hS.lit2
    refine hK.out _ _ (by first | exact hS2 | exact hS2.less1 | exact hS2.less2 | exact hS2.less3 | exact hS2.less4) (fun _ => ?_)
    clear hK K
    refine wpAnyH_weak (S1 := Sn r W (some (b1)) (some (w.heap.size)) (some (b3)) none) (fun _ h => h.less2) _ _ _ _ ?_
    refine wpAnyH_take (i := 8) (oi := { dst := some 14, op := Go.Op.indexAddr 37 (Go.Operand.tmp 11) (Go.Operand.tmp 13), type := 0, pos := "l04_bulletins.go:338", after := #[{ on := 5, ground := Go.Ground.data }, { on := 7, ground := Go.Ground.data }], guard := none }) (v := (.pointer (some ⟨w.heap.size, z2.toNat, none⟩))) rfl (by kernel_rfl) (by kernel_rfl) (by kernel_rfl) (fun c a w h => hP c a _ _ w h) (Or.inl ⟨by rfl, ?_⟩) (by assumption) ?_
    · intro w hSw; have g1 := h2.1.1; have g2 := h2.1.2; go_simp
    (try simp only [Act.put, List.setIfInBounds_toArray, List.set_cons_zero, List.set_cons_succ])
    refine wpAnyH_take (i := 9) (oi := { dst := some 15, op := Go.Op.load 9 (Go.Operand.tmp 14), type := 9, pos := "l04_bulletins.go:338", after := #[{ on := 8, ground := Go.Ground.data }], guard := none }) (v := (.string q2)) rfl (by kernel_rfl) (by kernel_rfl) (by kernel_rfl) (fun c a w h => hP c a _ _ w h) (Or.inl ⟨by rfl, ?_⟩) (by assumption) ?_
    · intro w hSw; have cc := blk_cell (hSw.l2 _ rfl).on h2.2.2; go_simp
    (try simp only [Act.put, List.setIfInBounds_toArray, List.set_cons_zero, List.set_cons_succ])
    exact st71110 hP hQ h1 h2 h3 h4 h5 h6 h7 (b1) (w.heap.size) (b3) _ hS2
  refine AllReadyH.cons (o := { dst := some 31, op := Go.Op.call { callee := Go.Callee.value (Go.Operand.func 28), args := #[Go.Operand.tmp 30], argTypes := #[33] }, type := 9, pos := "l04_bulletins.go:338", after := #[{ on := 24, ground := Go.Ground.data }, { on := 23, ground := Go.Ground.chain }], guard := none }) rfl (fun K hK => ?_) ?_
  · have rdw := hS.rd
    go_simp
    go_at_call 28
    refine (mark_any r _ rdw).mono ?_
    rintro e w1 ⟨⟨q8, rfl, h8⟩, k1, t1⟩
    have hS2 := hS.turn t1 k1
    clear k1 t1 hS rdw
    go_wp2_with fail
    refine hK.out _ _ (by first | exact hS2 | exact hS2.less1 | exact hS2.less2 | exact hS2.less3 | exact hS2.less4) (fun _ => ?_)
    clear hK K
    exact st81010 hP hQ h1 h2 h3 h4 h5 h6 h7 h8 (b1) (b3) _ hS2
  refine AllReadyH.cons (o := { dst := some 3, op := Go.Op.alloc 25, type := 0, pos := "l04_bulletins.go:338", after := #[], guard := none }) rfl (fun K hK => ?_) ?_
  · go_simp
    have hS2 : Sn r W (some (b1)) none (some (b3)) (some (w.heap.size)) (w.alloc oH) := hS.lit4
    refine hK.out _ _ (by first | exact hS2 | exact hS2.less1 | exact hS2.less2 | exact hS2.less3 | exact hS2.less4) (fun _ => ?_)
    clear hK K
    refine wpAnyH_weak (S1 := Sn r W (some (b1)) none (some (b3)) (some (w.heap.size))) (fun _ h => h.less4) _ _ _ _ ?_
    exact st71011 hP hQ h1 h2 h3 h4 h5 h6 h7 (b1) (b3) (w.heap.size) _ hS2
  exact AllReadyH.nil
set_option maxHeartbeats 2000000 in
theorem st71100 {r : Nat} {W : World} {Q : Exit → Act → World → Prop} (hP : ∀ c (a : Act) d (v : Value) w, Q (.panic c) (a.put d v) w → Q (.panic c) a w) (hQ : ∀ (bx : Nat) (u6 u7 u8 u9 u10 u11 u12 u13 u14 u15 u16 u17 u18 u19 u20 u21 u22 u23 u24 u25 u26 u27 u28 u29 u30 u31 u32 : Value) (w : World), Fin r W bx w → Q .normal ⟨#[.pointer (some ⟨r, 0, none⟩), undef, .pointer (some ⟨W.heap.size, 0, none⟩), .pointer (some ⟨bx, 0, none⟩), undef, undef, u6, u7, u8, u9, u10, u11, u12, u13, u14, u15, u16, u17, u18, u19, u20, u21, u22, u23, u24, u25, u26, u27, u28, u29, u30, u31, u32, undef, undef, undef, undef, undef, undef, undef, undef, undef, undef], []⟩ w) {z1 : Int} {q1 : ByteArray} (h1 : H1 z1 q1) {z2 : Int} {q2 : ByteArray} (h2 : H2 z2 q2) {z3 : Int} (h3 : 0 ≤ z3 ∧ z3 < 100) {z4 : Int} {q4 : ByteArray} (h4 : H4 z4 q4) {z5 : Int} (h5 : 0 ≤ z5 ∧ z5 < 31) {z6 : Int} (h6 : 0 ≤ z6 ∧ z6 < 24) {z7 : Int} (h7 : 0 ≤ z7 ∧ z7 < 60) (b1 : Nat) (b2 : Nat) (w : World) (hS : Sn r W (some (b1)) (some (b2)) none none w) : wpAnyH Tryd.prog .any OPS Q (Sn r W (some (b1)) (some (b2)) none none) 7 #[true, true, true, true, true, true, true, true, true, true, true, true, false, true, true, false, false, true, true, true, true, true, true, true, true, false, false, false, false] ⟨#[.pointer (some ⟨r, 0, none⟩), undef, .pointer (some ⟨W.heap.size, 0, none⟩), undef, undef, undef, .slice (some ⟨b1, 0, none⟩) 5 5, .pointer (some ⟨r, 0, none⟩), .int .i64 z1, .pointer (some ⟨b1, z1.toNat, none⟩), .string q1, .slice (some ⟨b2, 0, none⟩) 3 3, .pointer (some ⟨r, 0, none⟩), .int .i64 z2, .pointer (some ⟨b2, z2.toNat, none⟩), .string q2, .pointer (some ⟨r, 0, none⟩), .int .i64 z3, undef, .pointer (some ⟨r, 0, none⟩), .int .i64 z4, undef, undef, .pointer (some ⟨r, 0, none⟩), .int .i64 z5, .int .i64 (1 + z5), .pointer (some ⟨r, 0, none⟩), .int .i64 z6, .pointer (some ⟨r, 0, none⟩), .int .i64 z7, .pointer (some ⟨r, 0, none⟩), undef, undef, undef, undef, undef, undef, undef, undef, undef, undef, undef, undef], []⟩ w := by
  refine wpAnyH_ready (rs := [12, 25, 27]) (by kernel_rfl) (by simp) ?_
  refine AllReadyH.cons (o := { dst := some 18, op := Go.Op.buildSlice 37 3 #[(0, Go.Operand.const (Go.Value.string { data := #[65, 77, 77, 67] })), (1, Go.Operand.const (Go.Value.string { data := #[69, 78, 77, 73] })), (2, Go.Operand.const (Go.Value.string { data := #[75, 49, 65, 65] }))], type := 37, pos := "l04_bulletins.go:338", after := #[], guard := none }) rfl (fun K hK => ?_) ?_
  · go_simp
    have hS2 : Sn r W (some (b1)) (some (b2)) (some (w.heap.size)) none (w.alloc oC) := hS.lit3
    refine hK.out _ _ (by first | exact hS2 | exact hS2.less1 | exact hS2.less2 | exact hS2.less3 | exact hS2.less4) (fun _ => ?_)
    clear hK K
    refine wpAnyH_weak (S1 := Sn r W (some (b1)) (some (b2)) (some (w.heap.size)) none) (fun _ h => h.less3) _ _ _ _ ?_
    refine wpAnyH_take (i := 15) (oi := { dst := some 21, op := Go.Op.indexAddr 37 (Go.Operand.tmp 18) (Go.Operand.tmp 20), type := 0, pos := "l04_bulletins.go:338", after := #[{ on := 12, ground := Go.Ground.data }, { on := 14, ground := Go.Ground.data }], guard := none }) (v := (.pointer (some ⟨w.heap.size, z4.toNat, none⟩))) rfl (by kernel_rfl) (by kernel_rfl) (by kernel_rfl) (fun c a w h => hP c a _ _ w h) (Or.inl ⟨by rfl, ?_⟩) (by assumption) ?_
    · intro w hSw; have g1 := h4.1.1; have g2 := h4.1.2; go_simp
    (try simp only [Act.put, List.setIfInBounds_toArray, List.set_cons_zero, List.set_cons_succ])
    refine wpAnyH_take (i := 16) (oi := { dst := some 22, op := Go.Op.load 9 (Go.Operand.tmp 21), type := 9, pos := "l04_bulletins.go:338", after := #[{ on := 15, ground := Go.Ground.data }], guard := none }) (v := (.string q4)) rfl (by kernel_rfl) (by kernel_rfl) (by kernel_rfl) (fun c a w h => hP c a _ _ w h) (Or.inl ⟨by rfl, ?_⟩) (by assumption) ?_
    · intro w hSw; have cc := blk_cell (hSw.l3 _ rfl).on h4.2.2; go_simp
    (try simp only [Act.put, List.setIfInBounds_toArray, List.set_cons_zero, List.set_cons_succ])
    exact st71110 hP hQ h1 h2 h3 h4 h5 h6 h7 (b1) (b2) (w.heap.size) _ hS2
  refine AllReadyH.cons (o := { dst := some 31, op := Go.Op.call { callee := Go.Callee.value (Go.Operand.func 28), args := #[Go.Operand.tmp 30], argTypes := #[33] }, type := 9, pos := "l04_bulletins.go:338", after := #[{ on := 24, ground := Go.Ground.data }, { on := 23, ground := Go.Ground.chain }], guard := none }) rfl (fun K hK => ?_) ?_
  · have rdw := hS.rd
    go_simp
    go_at_call 28
    refine (mark_any r _ rdw).mono ?_
    rintro e w1 ⟨⟨q8, rfl, h8⟩, k1, t1⟩
    have hS2 := hS.turn t1 k1
    clear k1 t1 hS rdw
    go_wp2_with fail
    refine hK.out _ _ (by first | exact hS2 | exact hS2.less1 | exact hS2.less2 | exact hS2.less3 | exact hS2.less4) (fun _ => ?_)
    clear hK K
    exact st81100 hP hQ h1 h2 h3 h4 h5 h6 h7 h8 (b1) (b2) _ hS2
  refine AllReadyH.cons (o := { dst := some 3, op := Go.Op.alloc 25, type := 0, pos := "l04_bulletins.go:338", after := #[], guard := none }) rfl (fun K hK => ?_) ?_
  · go_simp
    have hS2 : Sn r W (some (b1)) (some (b2)) none (some (w.heap.size)) (w.alloc oH) := hS.lit4
    refine hK.out _ _ (by first | exact hS2 | exact hS2.less1 | exact hS2.less2 | exact hS2.less3 | exact hS2.less4) (fun _ => ?_)
    clear hK K
    refine wpAnyH_weak (S1 := Sn r W (some (b1)) (some (b2)) none (some (w.heap.size))) (fun _ h => h.less4) _ _ _ _ ?_
    exact st71101 hP hQ h1 h2 h3 h4 h5 h6 h7 (b1) (b2) (w.heap.size) _ hS2
  exact AllReadyH.nil
set_option maxHeartbeats 2000000 in
theorem st70001 {r : Nat} {W : World} {Q : Exit → Act → World → Prop} (hP : ∀ c (a : Act) d (v : Value) w, Q (.panic c) (a.put d v) w → Q (.panic c) a w) (hQ : ∀ (bx : Nat) (u6 u7 u8 u9 u10 u11 u12 u13 u14 u15 u16 u17 u18 u19 u20 u21 u22 u23 u24 u25 u26 u27 u28 u29 u30 u31 u32 : Value) (w : World), Fin r W bx w → Q .normal ⟨#[.pointer (some ⟨r, 0, none⟩), undef, .pointer (some ⟨W.heap.size, 0, none⟩), .pointer (some ⟨bx, 0, none⟩), undef, undef, u6, u7, u8, u9, u10, u11, u12, u13, u14, u15, u16, u17, u18, u19, u20, u21, u22, u23, u24, u25, u26, u27, u28, u29, u30, u31, u32, undef, undef, undef, undef, undef, undef, undef, undef, undef, undef], []⟩ w) {z1 : Int} {q1 : ByteArray} (h1 : H1 z1 q1) {z2 : Int} {q2 : ByteArray} (h2 : H2 z2 q2) {z3 : Int} (h3 : 0 ≤ z3 ∧ z3 < 100) {z4 : Int} {q4 : ByteArray} (h4 : H4 z4 q4) {z5 : Int} (h5 : 0 ≤ z5 ∧ z5 < 31) {z6 : Int} (h6 : 0 ≤ z6 ∧ z6 < 24) {z7 : Int} (h7 : 0 ≤ z7 ∧ z7 < 60) (b4 : Nat) (w : World) (hS : Sn r W none none none (some (b4)) w) : wpAnyH Tryd.prog .any OPS Q (Sn r W none none none (some (b4))) 12 #[false, true, true, false, false, false, true, true, false, false, true, true, false, true, true, false, false, true, true, true, true, true, true, true, true, false, false, true, false] ⟨#[.pointer (some ⟨r, 0, none⟩), undef, .pointer (some ⟨W.heap.size, 0, none⟩), .pointer (some ⟨b4, 0, none⟩), undef, undef, undef, .pointer (some ⟨r, 0, none⟩), .int .i64 z1, undef, undef, undef, .pointer (some ⟨r, 0, none⟩), .int .i64 z2, undef, undef, .pointer (some ⟨r, 0, none⟩), .int .i64 z3, undef, .pointer (some ⟨r, 0, none⟩), .int .i64 z4, undef, undef, .pointer (some ⟨r, 0, none⟩), .int .i64 z5, .int .i64 (1 + z5), .pointer (some ⟨r, 0, none⟩), .int .i64 z6, .pointer (some ⟨r, 0, none⟩), .int .i64 z7, .pointer (some ⟨r, 0, none⟩), undef, undef, undef, undef, undef, undef, undef, undef, undef, undef, undef, undef], []⟩ w := by
  refine wpAnyH_ready (rs := [0, 5, 12, 25]) (by kernel_rfl) (by simp) ?_
  refine AllReadyH.cons (o := { dst := some 6, op := Go.Op.buildSlice 37 5 #[(0, Go.Operand.const (Go.Value.string { data := #[83, 77] })), (1, Go.Operand.const (Go.Value.string { data := #[83, 73] })), (2, Go.Operand.const (Go.Value.string { data := #[85, 83] })), (3, Go.Operand.const (Go.Value.string { data := #[70, 84] })), (4, Go.Operand.const (Go.Value.string { data := #[87, 87] }))], type := 37, pos := "l04_bulletins.go:338", after := #[], guard := none }) rfl (fun K hK => ?_) ?_
  · go_simp
    have hS2 : Sn r W (some (w.heap.size)) none none (some (b4)) (w.alloc oK) := hS.lit1
    refine hK.out _ _ (by first | exact hS2 | exact hS2.less1 | exact hS2.less2 | exact hS2.less3 | exact hS2.less4) (fun _ => ?_)
    clear hK K
    refine wpAnyH_weak (S1 := Sn r W (some (w.heap.size)) none none (some (b4))) (fun _ h => h.less1) _ _ _ _ ?_
    refine wpAnyH_take (i := 3) (oi := { dst := some 9, op := Go.Op.indexAddr 37 (Go.Operand.tmp 6) (Go.Operand.tmp 8), type := 0, pos := "l04_bulletins.go:338", after := #[{ on := 0, ground := Go.Ground.data }, { on := 2, ground := Go.Ground.data }], guard := none }) (v := (.pointer (some ⟨w.heap.size, z1.toNat, none⟩))) rfl (by kernel_rfl) (by kernel_rfl) (by kernel_rfl) (fun c a w h => hP c a _ _ w h) (Or.inl ⟨by rfl, ?_⟩) (by assumption) ?_
    · intro w hSw; have g1 := h1.1.1; have g2 := h1.1.2; go_simp
    (try simp only [Act.put, List.setIfInBounds_toArray, List.set_cons_zero, List.set_cons_succ])
    refine wpAnyH_take (i := 4) (oi := { dst := some 10, op := Go.Op.load 9 (Go.Operand.tmp 9), type := 9, pos := "l04_bulletins.go:338", after := #[{ on := 3, ground := Go.Ground.data }], guard := none }) (v := (.string q1)) rfl (by kernel_rfl) (by kernel_rfl) (by kernel_rfl) (fun c a w h => hP c a _ _ w h) (Or.inl ⟨by rfl, ?_⟩) (by assumption) ?_
    · intro w hSw; have cc := blk_cell (hSw.l1 _ rfl).on h1.2.2; go_simp
    (try simp only [Act.put, List.setIfInBounds_toArray, List.set_cons_zero, List.set_cons_succ])
    exact st71001 hP hQ h1 h2 h3 h4 h5 h6 h7 (w.heap.size) (b4) _ hS2
  refine AllReadyH.cons (o := { dst := some 11, op := Go.Op.buildSlice 37 3 #[(0, Go.Operand.const (Go.Value.string { data := #[68, 76] })), (1, Go.Operand.const (Go.Value.string { data := #[78, 79] })), (2, Go.Operand.const (Go.Value.string { data := #[88, 88] }))], type := 37, pos := "l04_bulletins.go:338", after := #[], guard := none }) rfl (fun K hK => ?_) ?_
  · go_simp
    have hS2 : Sn r W none (some (w.heap.size)) none (some (b4)) (w.alloc oA) := hS.lit2
    refine hK.out _ _ (by first | exact hS2 | exact hS2.less1 | exact hS2.less2 | exact hS2.less3 | exact hS2.less4) (fun _ => ?_)
    clear hK K
    refine wpAnyH_weak (S1 := Sn r W none (some (w.heap.size)) none (some (b4))) (fun _ h => h.less2) _ _ _ _ ?_
    refine wpAnyH_take (i := 8) (oi := { dst := some 14, op := Go.Op.indexAddr 37 (Go.Operand.tmp 11) (Go.Operand.tmp 13), type := 0, pos := "l04_bulletins.go:338", after := #[{ on := 5, ground := Go.Ground.data }, { on := 7, ground := Go.Ground.data }], guard := none }) (v := (.pointer (some ⟨w.heap.size, z2.toNat, none⟩))) rfl (by kernel_rfl) (by kernel_rfl) (by kernel_rfl) (fun c a w h => hP c a _ _ w h) (Or.inl ⟨by rfl, ?_⟩) (by assumption) ?_
    · intro w hSw; have g1 := h2.1.1; have g2 := h2.1.2; go_simp
    (try simp only [Act.put, List.setIfInBounds_toArray, List.set_cons_zero, List.set_cons_succ])
    refine wpAnyH_take (i := 9) (oi := { dst := some 15, op := Go.Op.load 9 (Go.Operand.tmp 14), type := 9, pos := "l04_bulletins.go:338", after := #[{ on := 8, ground := Go.Ground.data }], guard := none }) (v := (.string q2)) rfl (by kernel_rfl) (by kernel_rfl) (by kernel_rfl) (fun c a w h => hP c a _ _ w h) (Or.inl ⟨by rfl, ?_⟩) (by assumption) ?_
    · intro w hSw; have cc := blk_cell (hSw.l2 _ rfl).on h2.2.2; go_simp
    (try simp only [Act.put, List.setIfInBounds_toArray, List.set_cons_zero, List.set_cons_succ])
    exact st70101 hP hQ h1 h2 h3 h4 h5 h6 h7 (w.heap.size) (b4) _ hS2
  refine AllReadyH.cons (o := { dst := some 18, op := Go.Op.buildSlice 37 3 #[(0, Go.Operand.const (Go.Value.string { data := #[65, 77, 77, 67] })), (1, Go.Operand.const (Go.Value.string { data := #[69, 78, 77, 73] })), (2, Go.Operand.const (Go.Value.string { data := #[75, 49, 65, 65] }))], type := 37, pos := "l04_bulletins.go:338", after := #[], guard := none }) rfl (fun K hK => ?_) ?_
  · go_simp
    have hS2 : Sn r W none none (some (w.heap.size)) (some (b4)) (w.alloc oC) := hS.lit3
    refine hK.out _ _ (by first | exact hS2 | exact hS2.less1 | exact hS2.less2 | exact hS2.less3 | exact hS2.less4) (fun _ => ?_)
    clear hK K
    refine wpAnyH_weak (S1 := Sn r W none none (some (w.heap.size)) (some (b4))) (fun _ h => h.less3) _ _ _ _ ?_
    refine wpAnyH_take (i := 15) (oi := { dst := some 21, op := Go.Op.indexAddr 37 (Go.Operand.tmp 18) (Go.Operand.tmp 20), type := 0, pos := "l04_bulletins.go:338", after := #[{ on := 12, ground := Go.Ground.data }, { on := 14, ground := Go.Ground.data }], guard := none }) (v := (.pointer (some ⟨w.heap.size, z4.toNat, none⟩))) rfl (by kernel_rfl) (by kernel_rfl) (by kernel_rfl) (fun c a w h => hP c a _ _ w h) (Or.inl ⟨by rfl, ?_⟩) (by assumption) ?_
    · intro w hSw; have g1 := h4.1.1; have g2 := h4.1.2; go_simp
    (try simp only [Act.put, List.setIfInBounds_toArray, List.set_cons_zero, List.set_cons_succ])
    refine wpAnyH_take (i := 16) (oi := { dst := some 22, op := Go.Op.load 9 (Go.Operand.tmp 21), type := 9, pos := "l04_bulletins.go:338", after := #[{ on := 15, ground := Go.Ground.data }], guard := none }) (v := (.string q4)) rfl (by kernel_rfl) (by kernel_rfl) (by kernel_rfl) (fun c a w h => hP c a _ _ w h) (Or.inl ⟨by rfl, ?_⟩) (by assumption) ?_
    · intro w hSw; have cc := blk_cell (hSw.l3 _ rfl).on h4.2.2; go_simp
    (try simp only [Act.put, List.setIfInBounds_toArray, List.set_cons_zero, List.set_cons_succ])
    exact st70011 hP hQ h1 h2 h3 h4 h5 h6 h7 (w.heap.size) (b4) _ hS2
  refine AllReadyH.cons (o := { dst := some 31, op := Go.Op.call { callee := Go.Callee.value (Go.Operand.func 28), args := #[Go.Operand.tmp 30], argTypes := #[33] }, type := 9, pos := "l04_bulletins.go:338", after := #[{ on := 24, ground := Go.Ground.data }, { on := 23, ground := Go.Ground.chain }], guard := none }) rfl (fun K hK => ?_) ?_
  · have rdw := hS.rd
    go_simp
    go_at_call 28
    refine (mark_any r _ rdw).mono ?_
    rintro e w1 ⟨⟨q8, rfl, h8⟩, k1, t1⟩
    have hS2 := hS.turn t1 k1
    clear k1 t1 hS rdw
    go_wp2_with fail
    refine hK.out _ _ (by first | exact hS2 | exact hS2.less1 | exact hS2.less2 | exact hS2.less3 | exact hS2.less4) (fun _ => ?_)
    clear hK K
    exact st80001 hP hQ h1 h2 h3 h4 h5 h6 h7 h8 (b4) _ hS2
  exact AllReadyH.nil
set_option maxHeartbeats 2000000 in
theorem st70010 {r : Nat} {W : World} {Q : Exit → Act → World → Prop} (hP : ∀ c (a : Act) d (v : Value) w, Q (.panic c) (a.put d v) w → Q (.panic c) a w) (hQ : ∀ (bx : Nat) (u6 u7 u8 u9 u10 u11 u12 u13 u14 u15 u16 u17 u18 u19 u20 u21 u22 u23 u24 u25 u26 u27 u28 u29 u30 u31 u32 : Value) (w : World), Fin r W bx w → Q .normal ⟨#[.pointer (some ⟨r, 0, none⟩), undef, .pointer (some ⟨W.heap.size, 0, none⟩), .pointer (some ⟨bx, 0, none⟩), undef, undef, u6, u7, u8, u9, u10, u11, u12, u13, u14, u15, u16, u17, u18, u19, u20, u21, u22, u23, u24, u25, u26, u27, u28, u29, u30, u31, u32, undef, undef, undef, undef, undef, undef, undef, undef, undef, undef], []⟩ w) {z1 : Int} {q1 : ByteArray} (h1 : H1 z1 q1) {z2 : Int} {q2 : ByteArray} (h2 : H2 z2 q2) {z3 : Int} (h3 : 0 ≤ z3 ∧ z3 < 100) {z4 : Int} {q4 : ByteArray} (h4 : H4 z4 q4) {z5 : Int} (h5 : 0 ≤ z5 ∧ z5 < 31) {z6 : Int} (h6 : 0 ≤ z6 ∧ z6 < 24) {z7 : Int} (h7 : 0 ≤ z7 ∧ z7 < 60) (b3 : Nat) (w : World) (hS : Sn r W none none (some (b3)) none w) : wpAnyH Tryd.prog .any OPS Q (Sn r W none none (some (b3)) none) 10 #[false, true, true, false, false, false, true, true, false, false, true, true, true, true, true, true, true, true, true, true, true, true, true, true, true, false, false, false, false] ⟨#[.pointer (some ⟨r, 0, none⟩), undef, .pointer (some ⟨W.heap.size, 0, none⟩), undef, undef, undef, undef, .pointer (some ⟨r, 0, none⟩), .int .i64 z1, undef, undef, undef, .pointer (some ⟨r, 0, none⟩), .int .i64 z2, undef, undef, .pointer (some ⟨r, 0, none⟩), .int .i64 z3, .slice (some ⟨b3, 0, none⟩) 3 3, .pointer (some ⟨r, 0, none⟩), .int .i64 z4, .pointer (some ⟨b3, z4.toNat, none⟩), .string q4, .pointer (some ⟨r, 0, none⟩), .int .i64 z5, .int .i64 (1 + z5), .pointer (some ⟨r, 0, none⟩), .int .i64 z6, .pointer (some ⟨r, 0, none⟩), .int .i64 z7, .pointer (some ⟨r, 0, none⟩), undef, undef, undef, undef, undef, undef, undef, undef, undef, undef, undef, undef], []⟩ w := by
  refine wpAnyH_ready (rs := [0, 5, 25, 27]) (by kernel_rfl) (by simp) ?_
  refine AllReadyH.cons (o := { dst := some 6, op := Go.Op.buildSlice 37 5 #[(0, Go.Operand.const (Go.Value.string { data := #[83, 77] })), (1, Go.Operand.const (Go.Value.string { data := #[83, 73] })), (2, Go.Operand.const (Go.Value.string { data := #[85, 83] })), (3, Go.Operand.const (Go.Value.string { data := #[70, 84] })), (4, Go.Operand.const (Go.Value.string { data := #[87, 87] }))], type := 37, pos := "l04_bulletins.go:338", after := #[], guard := none }) rfl (fun K hK => ?_) ?_
  · go_simp
    have hS2 : Sn r W (some (w.heap.size)) none (some (b3)) none (w.alloc oK) := hS.lit1
    refine hK.out _ _ (by first | exact hS2 | exact hS2.less1 | exact hS2.less2 | exact hS2.less3 | exact hS2.less4) (fun _ => ?_)
    clear hK K
    refine wpAnyH_weak (S1 := Sn r W (some (w.heap.size)) none (some (b3)) none) (fun _ h => h.less1) _ _ _ _ ?_
    refine wpAnyH_take (i := 3) (oi := { dst := some 9, op := Go.Op.indexAddr 37 (Go.Operand.tmp 6) (Go.Operand.tmp 8), type := 0, pos := "l04_bulletins.go:338", after := #[{ on := 0, ground := Go.Ground.data }, { on := 2, ground := Go.Ground.data }], guard := none }) (v := (.pointer (some ⟨w.heap.size, z1.toNat, none⟩))) rfl (by kernel_rfl) (by kernel_rfl) (by kernel_rfl) (fun c a w h => hP c a _ _ w h) (Or.inl ⟨by rfl, ?_⟩) (by assumption) ?_
    · intro w hSw; have g1 := h1.1.1; have g2 := h1.1.2; go_simp
    (try simp only [Act.put, List.setIfInBounds_toArray, List.set_cons_zero, List.set_cons_succ])
    refine wpAnyH_take (i := 4) (oi := { dst := some 10, op := Go.Op.load 9 (Go.Operand.tmp 9), type := 9, pos := "l04_bulletins.go:338", after := #[{ on := 3, ground := Go.Ground.data }], guard := none }) (v := (.string q1)) rfl (by kernel_rfl) (by kernel_rfl) (by kernel_rfl) (fun c a w h => hP c a _ _ w h) (Or.inl ⟨by rfl, ?_⟩) (by assumption) ?_
    · intro w hSw; have cc := blk_cell (hSw.l1 _ rfl).on h1.2.2; go_simp
    (try simp only [Act.put, List.setIfInBounds_toArray, List.set_cons_zero, List.set_cons_succ])
    exact st71010 hP hQ h1 h2 h3 h4 h5 h6 h7 (w.heap.size) (b3) _ hS2
  refine AllReadyH.cons (o := { dst := some 11, op := Go.Op.buildSlice 37 3 #[(0, Go.Operand.const (Go.Value.string { data := #[68, 76] })), (1, Go.Operand.const (Go.Value.string { data := #[78, 79] })), (2, Go.Operand.const (Go.Value.string { data := #[88, 88] }))], type := 37, pos := "l04_bulletins.go:338", after := #[], guard := none }) rfl (fun K hK => ?_) ?_
  · go_simp
    have hS2 : Sn r W none (some (w.heap.size)) (some (b3)) none (w.alloc oA) := hS.lit2
    refine hK.out _ _ (by first | exact hS2 | exact hS2.less1 | exact hS2.less2 | exact hS2.less3 | exact hS2.less4) (fun _ => ?_)
    clear hK K
    refine wpAnyH_weak (S1 := Sn r W none (some (w.heap.size)) (some (b3)) none) (fun _ h => h.less2) _ _ _ _ ?_
    refine wpAnyH_take (i := 8) (oi := { dst := some 14, op := Go.Op.indexAddr 37 (Go.Operand.tmp 11) (Go.Operand.tmp 13), type := 0, pos := "l04_bulletins.go:338", after := #[{ on := 5, ground := Go.Ground.data }, { on := 7, ground := Go.Ground.data }], guard := none }) (v := (.pointer (some ⟨w.heap.size, z2.toNat, none⟩))) rfl (by kernel_rfl) (by kernel_rfl) (by kernel_rfl) (fun c a w h => hP c a _ _ w h) (Or.inl ⟨by rfl, ?_⟩) (by assumption) ?_
    · intro w hSw; have g1 := h2.1.1; have g2 := h2.1.2; go_simp
    (try simp only [Act.put, List.setIfInBounds_toArray, List.set_cons_zero, List.set_cons_succ])
    refine wpAnyH_take (i := 9) (oi := { dst := some 15, op := Go.Op.load 9 (Go.Operand.tmp 14), type := 9, pos := "l04_bulletins.go:338", after := #[{ on := 8, ground := Go.Ground.data }], guard := none }) (v := (.string q2)) rfl (by kernel_rfl) (by kernel_rfl) (by kernel_rfl) (fun c a w h => hP c a _ _ w h) (Or.inl ⟨by rfl, ?_⟩) (by assumption) ?_
    · intro w hSw; have cc := blk_cell (hSw.l2 _ rfl).on h2.2.2; go_simp
    (try simp only [Act.put, List.setIfInBounds_toArray, List.set_cons_zero, List.set_cons_succ])
    exact st70110 hP hQ h1 h2 h3 h4 h5 h6 h7 (w.heap.size) (b3) _ hS2
  refine AllReadyH.cons (o := { dst := some 31, op := Go.Op.call { callee := Go.Callee.value (Go.Operand.func 28), args := #[Go.Operand.tmp 30], argTypes := #[33] }, type := 9, pos := "l04_bulletins.go:338", after := #[{ on := 24, ground := Go.Ground.data }, { on := 23, ground := Go.Ground.chain }], guard := none }) rfl (fun K hK => ?_) ?_
  · have rdw := hS.rd
    go_simp
    go_at_call 28
    refine (mark_any r _ rdw).mono ?_
    rintro e w1 ⟨⟨q8, rfl, h8⟩, k1, t1⟩
    have hS2 := hS.turn t1 k1
    clear k1 t1 hS rdw
    go_wp2_with fail
    refine hK.out _ _ (by first | exact hS2 | exact hS2.less1 | exact hS2.less2 | exact hS2.less3 | exact hS2.less4) (fun _ => ?_)
    clear hK K
    exact st80010 hP hQ h1 h2 h3 h4 h5 h6 h7 h8 (b3) _ hS2
  refine AllReadyH.cons (o := { dst := some 3, op := Go.Op.alloc 25, type := 0, pos := "l04_bulletins.go:338", after := #[], guard := none }) rfl (fun K hK => ?_) ?_
  · go_simp
    have hS2 : Sn r W none none (some (b3)) (some (w.heap.size)) (w.alloc oH) := hS.lit4
    refine hK.out _ _ (by first | exact hS2 | exact hS2.less1 | exact hS2.less2 | exact hS2.less3 | exact hS2.less4) (fun _ => ?_)
    clear hK K
    refine wpAnyH_weak (S1 := Sn r W none none (some (b3)) (some (w.heap.size))) (fun _ h => h.less4) _ _ _ _ ?_
    exact st70011 hP hQ h1 h2 h3 h4 h5 h6 h7 (b3) (w.heap.size) _ hS2
  exact AllReadyH.nil
set_option maxHeartbeats 2000000 in
theorem st70100 {r : Nat} {W : World} {Q : Exit → Act → World → Prop} (hP : ∀ c (a : Act) d (v : Value) w, Q (.panic c) (a.put d v) w → Q (.panic c) a w) (hQ : ∀ (bx : Nat) (u6 u7 u8 u9 u10 u11 u12 u13 u14 u15 u16 u17 u18 u19 u20 u21 u22 u23 u24 u25 u26 u27 u28 u29 u30 u31 u32 : Value) (w : World), Fin r W bx w → Q .normal ⟨#[.pointer (some ⟨r, 0, none⟩), undef, .pointer (some ⟨W.heap.size, 0, none⟩), .pointer (some ⟨bx, 0, none⟩), undef, undef, u6, u7, u8, u9, u10, u11, u12, u13, u14, u15, u16, u17, u18, u19, u20, u21, u22, u23, u24, u25, u26, u27, u28, u29, u30, u31, u32, undef, undef, undef, undef, undef, undef, undef, undef, undef, undef], []⟩ w) {z1 : Int} {q1 : ByteArray} (h1 : H1 z1 q1) {z2 : Int} {q2 : ByteArray} (h2 : H2 z2 q2) {z3 : Int} (h3 : 0 ≤ z3 ∧ z3 < 100) {z4 : Int} {q4 : ByteArray} (h4 : H4 z4 q4) {z5 : Int} (h5 : 0 ≤ z5 ∧ z5 < 31) {z6 : Int} (h6 : 0 ≤ z6 ∧ z6 < 24) {z7 : Int} (h7 : 0 ≤ z7 ∧ z7 < 60) (b2 : Nat) (w : World) (hS : Sn r W none (some (b2)) none none w) : wpAnyH Tryd.prog .any OPS Q (Sn r W none (some (b2)) none none) 10 #[false, true, true, false, false, true, true, true, true, true, true, true, false, true, true, false, false, true, true, true, true, true, true, true, true, false, false, false, false] ⟨#[.pointer (some ⟨r, 0, none⟩), undef, .pointer (some ⟨W.heap.size, 0, none⟩), undef, undef, undef, undef, .pointer (some ⟨r, 0, none⟩), .int .i64 z1, undef, undef, .slice (some ⟨b2, 0, none⟩) 3 3, .pointer (some ⟨r, 0, none⟩), .int .i64 z2, .pointer (some ⟨b2, z2.toNat, none⟩), .string q2, .pointer (some ⟨r, 0, none⟩), .int .i64 z3, undef, .pointer (some ⟨r, 0, none⟩), .int .i64 z4, undef, undef, .pointer (some ⟨r, 0, none⟩), .int .i64 z5, .int .i64 (1 + z5), .pointer (some ⟨r, 0, none⟩), .int .i64 z6, .pointer (some ⟨r, 0, none⟩), .int .i64 z7, .pointer (some ⟨r, 0, none⟩), undef, undef, undef, undef, undef, undef, undef, undef, undef, undef, undef, undef], []⟩ w := by
  refine wpAnyH_ready (rs := [0, 12, 25, 27]) (by kernel_rfl) (by simp) ?_
  refine AllReadyH.cons (o := { dst := some 6, op := Go.Op.buildSlice 37 5 #[(0, Go.Operand.const (Go.Value.string { data := #[83, 77] })), (1, Go.Operand.const (Go.Value.string { data := #[83, 73] })), (2, Go.Operand.const (Go.Value.string { data := #[85, 83] })), (3, Go.Operand.const (Go.Value.string { data := #[70, 84] })), (4, Go.Operand.const (Go.Value.string { data := #[87, 87] }))], type := 37, pos := "l04_bulletins.go:338", after := #[], guard := none }) rfl (fun K hK => ?_) ?_
  · go_simp
    have hS2 : Sn r W (some (w.heap.size)) (some (b2)) none none (w.alloc oK) := hS.lit1
    refine hK.out _ _ (by first | exact hS2 | exact hS2.less1 | exact hS2.less2 | exact hS2.less3 | exact hS2.less4) (fun _ => ?_)
    clear hK K
    refine wpAnyH_weak (S1 := Sn r W (some (w.heap.size)) (some (b2)) none none) (fun _ h => h.less1) _ _ _ _ ?_
    refine wpAnyH_take (i := 3) (oi := { dst := some 9, op := Go.Op.indexAddr 37 (Go.Operand.tmp 6) (Go.Operand.tmp 8), type := 0, pos := "l04_bulletins.go:338", after := #[{ on := 0, ground := Go.Ground.data }, { on := 2, ground := Go.Ground.data }], guard := none }) (v := (.pointer (some ⟨w.heap.size, z1.toNat, none⟩))) rfl (by kernel_rfl) (by kernel_rfl) (by kernel_rfl) (fun c a w h => hP c a _ _ w h) (Or.inl ⟨by rfl, ?_⟩) (by assumption) ?_
    · intro w hSw; have g1 := h1.1.1; have g2 := h1.1.2; go_simp
    (try simp only [Act.put, List.setIfInBounds_toArray, List.set_cons_zero, List.set_cons_succ])
    refine wpAnyH_take (i := 4) (oi := { dst := some 10, op := Go.Op.load 9 (Go.Operand.tmp 9), type := 9, pos := "l04_bulletins.go:338", after := #[{ on := 3, ground := Go.Ground.data }], guard := none }) (v := (.string q1)) rfl (by kernel_rfl) (by kernel_rfl) (by kernel_rfl) (fun c a w h => hP c a _ _ w h) (Or.inl ⟨by rfl, ?_⟩) (by assumption) ?_
    · intro w hSw; have cc := blk_cell (hSw.l1 _ rfl).on h1.2.2; go_simp
    (try simp only [Act.put, List.setIfInBounds_toArray, List.set_cons_zero, List.set_cons_succ])
    exact st71100 hP hQ h1 h2 h3 h4 h5 h6 h7 (w.heap.size) (b2) _ hS2
  refine AllReadyH.cons (o := { dst := some 18, op := Go.Op.buildSlice 37 3 #[(0, Go.Operand.const (Go.Value.string { data := #[65, 77, 77, 67] })), (1, Go.Operand.const (Go.Value.string { data := #[69, 78, 77, 73] })), (2, Go.Operand.const (Go.Value.string { data := #[75, 49, 65, 65] }))], type := 37, pos := "l04_bulletins.go:338", after := #[], guard := none }) rfl (fun K hK => ?_) ?_
  · go_simp
    have hS2 : Sn r W none (some (b2)) (some (w.heap.size)) none (w.alloc oC) := hS.lit3
    refine hK.out _ _ (by first | exact hS2 | exact hS2.less1 | exact hS2.less2 | exact hS2.less3 | exact hS2.less4) (fun _ => ?_)
    clear hK K
    refine wpAnyH_weak (S1 := Sn r W none (some (b2)) (some (w.heap.size)) none) (fun _ h => h.less3) _ _ _ _ ?_
    refine wpAnyH_take (i := 15) (oi := { dst := some 21, op := Go.Op.indexAddr 37 (Go.Operand.tmp 18) (Go.Operand.tmp 20), type := 0, pos := "l04_bulletins.go:338", after := #[{ on := 12, ground := Go.Ground.data }, { on := 14, ground := Go.Ground.data }], guard := none }) (v := (.pointer (some ⟨w.heap.size, z4.toNat, none⟩))) rfl (by kernel_rfl) (by kernel_rfl) (by kernel_rfl) (fun c a w h => hP c a _ _ w h) (Or.inl ⟨by rfl, ?_⟩) (by assumption) ?_
    · intro w hSw; have g1 := h4.1.1; have g2 := h4.1.2; go_simp
    (try simp only [Act.put, List.setIfInBounds_toArray, List.set_cons_zero, List.set_cons_succ])
    refine wpAnyH_take (i := 16) (oi := { dst := some 22, op := Go.Op.load 9 (Go.Operand.tmp 21), type := 9, pos := "l04_bulletins.go:338", after := #[{ on := 15, ground := Go.Ground.data }], guard := none }) (v := (.string q4)) rfl (by kernel_rfl) (by kernel_rfl) (by kernel_rfl) (fun c a w h => hP c a _ _ w h) (Or.inl ⟨by rfl, ?_⟩) (by assumption) ?_
    · intro w hSw; have cc := blk_cell (hSw.l3 _ rfl).on h4.2.2; go_simp
    (try simp only [Act.put, List.setIfInBounds_toArray, List.set_cons_zero, List.set_cons_succ])
    exact st70110 hP hQ h1 h2 h3 h4 h5 h6 h7 (b2) (w.heap.size) _ hS2
  refine AllReadyH.cons (o := { dst := some 31, op := Go.Op.call { callee := Go.Callee.value (Go.Operand.func 28), args := #[Go.Operand.tmp 30], argTypes := #[33] }, type := 9, pos := "l04_bulletins.go:338", after := #[{ on := 24, ground := Go.Ground.data }, { on := 23, ground := Go.Ground.chain }], guard := none }) rfl (fun K hK => ?_) ?_
  · have rdw := hS.rd
    go_simp
    go_at_call 28
    refine (mark_any r _ rdw).mono ?_
    rintro e w1 ⟨⟨q8, rfl, h8⟩, k1, t1⟩
    have hS2 := hS.turn t1 k1
    clear k1 t1 hS rdw
    go_wp2_with fail
    refine hK.out _ _ (by first | exact hS2 | exact hS2.less1 | exact hS2.less2 | exact hS2.less3 | exact hS2.less4) (fun _ => ?_)
    clear hK K
    exact st80100 hP hQ h1 h2 h3 h4 h5 h6 h7 h8 (b2) _ hS2
  refine AllReadyH.cons (o := { dst := some 3, op := Go.Op.alloc 25, type := 0, pos := "l04_bulletins.go:338", after := #[], guard := none }) rfl (fun K hK => ?_) ?_
  · go_simp
    have hS2 : Sn r W none (some (b2)) none (some (w.heap.size)) (w.alloc oH) := hS.lit4
    refine hK.out _ _ (by first | exact hS2 | exact hS2.less1 | exact hS2.less2 | exact hS2.less3 | exact hS2.less4) (fun _ => ?_)
    clear hK K
    refine wpAnyH_weak (S1 := Sn r W none (some (b2)) none (some (w.heap.size))) (fun _ h => h.less4) _ _ _ _ ?_
    exact st70101 hP hQ h1 h2 h3 h4 h5 h6 h7 (b2) (w.heap.size) _ hS2
  exact AllReadyH.nil
set_option maxHeartbeats 2000000 in
theorem st71000 {r : Nat} {W : World} {Q : Exit → Act → World → Prop} (hP : ∀ c (a : Act) d (v : Value) w, Q (.panic c) (a.put d v) w → Q (.panic c) a w) (hQ : ∀ (bx : Nat) (u6 u7 u8 u9 u10 u11 u12 u13 u14 u15 u16 u17 u18 u19 u20 u21 u22 u23 u24 u25 u26 u27 u28 u29 u30 u31 u32 : Value) (w : World), Fin r W bx w → Q .normal ⟨#[.pointer (some ⟨r, 0, none⟩), undef, .pointer (some ⟨W.heap.size, 0, none⟩), .pointer (some ⟨bx, 0, none⟩), undef, undef, u6, u7, u8, u9, u10, u11, u12, u13, u14, u15, u16, u17, u18, u19, u20, u21, u22, u23, u24, u25, u26, u27, u28, u29, u30, u31, u32, undef, undef, undef, undef, undef, undef, undef, undef, undef, undef], []⟩ w) {z1 : Int} {q1 : ByteArray} (h1 : H1 z1 q1) {z2 : Int} {q2 : ByteArray} (h2 : H2 z2 q2) {z3 : Int} (h3 : 0 ≤ z3 ∧ z3 < 100) {z4 : Int} {q4 : ByteArray} (h4 : H4 z4 q4) {z5 : Int} (h5 : 0 ≤ z5 ∧ z5 < 31) {z6 : Int} (h6 : 0 ≤ z6 ∧ z6 < 24) {z7 : Int} (h7 : 0 ≤ z7 ∧ z7 < 60) (b1 : Nat) (w : World) (hS : Sn r W (some (b1)) none none none w) : wpAnyH Tryd.prog .any OPS Q (Sn r W (some (b1)) none none none) 10 #[true, true, true, true, true, false, true, true, false, false, true, true, false, true, true, false, false, true, true, true, true, true, true, true, true, false, false, false, false] ⟨#[.pointer (some ⟨r, 0, none⟩), undef, .pointer (some ⟨W.heap.size, 0, none⟩), undef, undef, undef, .slice (some ⟨b1, 0, none⟩) 5 5, .pointer (some ⟨r, 0, none⟩), .int .i64 z1, .pointer (some ⟨b1, z1.toNat, none⟩), .string q1, undef, .pointer (some ⟨r, 0, none⟩), .int .i64 z2, undef, undef, .pointer (some ⟨r, 0, none⟩), .int .i64 z3, undef, .pointer (some ⟨r, 0, none⟩), .int .i64 z4, undef, undef, .pointer (some ⟨r, 0, none⟩), .int .i64 z5, .int .i64 (1 + z5), .pointer (some ⟨r, 0, none⟩), .int .i64 z6, .pointer (some ⟨r, 0, none⟩), .int .i64 z7, .pointer (some ⟨r, 0, none⟩), undef, undef, undef, undef, undef, undef, undef, undef, undef, undef, undef, undef], []⟩ w := by
  refine wpAnyH_ready (rs := [5, 12, 25, 27]) (by kernel_rfl) (by simp) ?_
  refine AllReadyH.cons (o := { dst := some 11, op := Go.Op.buildSlice 37 3 #[(0, Go.Operand.const (Go.Value.string { data := #[68, 76] })), (1, Go.Operand.const (Go.Value.string { data := #[78, 79] })), (2, Go.Operand.const (Go.Value.string { data := #[88, 88] }))], type := 37, pos := "l04_bulletins.go:338", after := #[], guard := none }) rfl (fun K hK => ?_) ?_
  · go_simp
    have hS2 : Sn r W (some (b1)) (some (w.heap.size)) none none (w.alloc oA) := hS.lit2
    refine hK.out _ _ (by first | exact hS2 | exact hS2.less1 | exact hS2.less2 | exact hS2.less3 | exact hS2.less4) (fun _ => ?_)
    clear hK K
    refine wpAnyH_weak (S1 := Sn r W (some (b1)) (some (w.heap.size)) none none) (fun _ h => h.less2) _ _ _ _ ?_
    refine wpAnyH_take (i := 8) (oi := { dst := some 14, op := Go.Op.indexAddr 37 (Go.Operand.tmp 11) (Go.Operand.tmp 13), type := 0, pos := "l04_bulletins.go:338", after := #[{ on := 5, ground := Go.Ground.data }, { on := 7, ground := Go.Ground.data }], guard := none }) (v := (.pointer (some ⟨w.heap.size, z2.toNat, none⟩))) rfl (by kernel_rfl) (by kernel_rfl) (by kernel_rfl) (fun c a w h => hP c a _ _ w h) (Or.inl ⟨by rfl, ?_⟩) (by assumption) ?_
    · intro w hSw; have g1 := h2.1.1; have g2 := h2.1.2; go_simp
    (try simp only [Act.put, List.setIfInBounds_toArray, List.set_cons_zero, List.set_cons_succ])
    refine wpAnyH_take (i := 9) (oi := { dst := some 15, op := Go.Op.load 9 (Go.Operand.tmp 14), type := 9, pos := "l04_bulletins.go:338", after := #[{ on := 8, ground := Go.Ground.data }], guard := none }) (v := (.string q2)) rfl (by kernel_rfl) (by kernel_rfl) (by kernel_rfl) (fun c a w h => hP c a _ _ w h) (Or.inl ⟨by rfl, ?_⟩) (by assumption) ?_
    · intro w hSw; have cc := blk_cell (hSw.l2 _ rfl).on h2.2.2; go_simp
    (try simp only [Act.put, List.setIfInBounds_toArray, List.set_cons_zero, List.set_cons_succ])
    exact st71100 hP hQ h1 h2 h3 h4 h5 h6 h7 (b1) (w.heap.size) _ hS2
  refine AllReadyH.cons (o := { dst := some 18, op := Go.Op.buildSlice 37 3 #[(0, Go.Operand.const (Go.Value.string { data := #[65, 77, 77, 67] })), (1, Go.Operand.const (Go.Value.string { data := #[69, 78, 77, 73] })), (2, Go.Operand.const (Go.Value.string { data := #[75, 49, 65, 65] }))], type := 37, pos := "l04_bulletins.go:338", after := #[], guard := none }) rfl (fun K hK => ?_) ?_
  · go_simp
    have hS2 : Sn r W (some (b1)) none (some (w.heap.size)) none (w.alloc oC) := hS.lit3
    refine hK.out _ _ (by first | exact hS2 | exact hS2.less1 | exact hS2.less2 | exact hS2.less3 | exact hS2.less4) (fun _ => ?_)
    clear hK K
    refine wpAnyH_weak (S1 := Sn r W (some (b1)) none (some (w.heap.size)) none) (fun _ h => h.less3) _ _ _ _ ?_
    refine wpAnyH_take (i := 15) (oi := { dst := some 21, op := Go.Op.indexAddr 37 (Go.Operand.tmp 18) (Go.Operand.tmp 20), type := 0, pos := "l04_bulletins.go:338", after := #[{ on := 12, ground := Go.Ground.data }, { on := 14, ground := Go.Ground.data }], guard := none }) (v := (.pointer (some ⟨w.heap.size, z4.toNat, none⟩))) rfl (by kernel_rfl) (by kernel_rfl) (by kernel_rfl) (fun c a w h => hP c a _ _ w h) (Or.inl ⟨by rfl, ?_⟩) (by assumption) ?_
    · intro w hSw; have g1 := h4.1.1; have g2 := h4.1.2; go_simp
    (try simp only [Act.put, List.setIfInBounds_toArray, List.set_cons_zero, List.set_cons_succ])
    refine wpAnyH_take (i := 16) (oi := { dst := some 22, op := Go.Op.load 9 (Go.Operand.tmp 21), type := 9, pos := "l04_bulletins.go:338", after := #[{ on := 15, ground := Go.Ground.data }], guard := none }) (v := (.string q4)) rfl (by kernel_rfl) (by kernel_rfl) (by kernel_rfl) (fun c a w h => hP c a _ _ w h) (Or.inl ⟨by rfl, ?_⟩) (by assumption) ?_
    · intro w hSw; have cc := blk_cell (hSw.l3 _ rfl).on h4.2.2; go_simp
    (try simp only [Act.put, List.setIfInBounds_toArray, List.set_cons_zero, List.set_cons_succ])
    exact st71010 hP hQ h1 h2 h3 h4 h5 h6 h7 (b1) (w.heap.size) _ hS2
  refine AllReadyH.cons (o := { dst := some 31, op := Go.Op.call { callee := Go.Callee.value (Go.Operand.func 28), args := #[Go.Operand.tmp 30], argTypes := #[33] }, type := 9, pos := "l04_bulletins.go:338", after := #[{ on := 24, ground := Go.Ground.data }, { on := 23, ground := Go.Ground.chain }], guard := none }) rfl (fun K hK => ?_) ?_
  · have rdw := hS.rd
    go_simp
    go_at_call 28
    refine (mark_any r _ rdw).mono ?_
    rintro e w1 ⟨⟨q8, rfl, h8⟩, k1, t1⟩
    have hS2 := hS.turn t1 k1
    clear k1 t1 hS rdw
    go_wp2_with fail
    refine hK.out _ _ (by first | exact hS2 | exact hS2.less1 | exact hS2.less2 | exact hS2.less3 | exact hS2.less4) (fun _ => ?_)
    clear hK K
    exact st81000 hP hQ h1 h2 h3 h4 h5 h6 h7 h8 (b1) _ hS2
  refine AllReadyH.cons (o := { dst := some 3, op := Go.Op.alloc 25, type := 0, pos := "l04_bulletins.go:338", after := #[], guard := none }) rfl (fun K hK => ?_) ?_
  · go_simp
    have hS2 : Sn r W (some (b1)) none none (some (w.heap.size)) (w.alloc oH) := hS.lit4
    refine hK.out _ _ (by first | exact hS2 | exact hS2.less1 | exact hS2.less2 | exact hS2.less3 | exact hS2.less4) (fun _ => ?_)
    clear hK K
    refine wpAnyH_weak (S1 := Sn r W (some (b1)) none none (some (w.heap.size))) (fun _ h => h.less4) _ _ _ _ ?_
    exact st71001 hP hQ h1 h2 h3 h4 h5 h6 h7 (b1) (w.heap.size) _ hS2
  exact AllReadyH.nil
set_option maxHeartbeats 2000000 in
theorem st70000 {r : Nat} {W : World} {Q : Exit → Act → World → Prop} (hP : ∀ c (a : Act) d (v : Value) w, Q (.panic c) (a.put d v) w → Q (.panic c) a w) (hQ : ∀ (bx : Nat) (u6 u7 u8 u9 u10 u11 u12 u13 u14 u15 u16 u17 u18 u19 u20 u21 u22 u23 u24 u25 u26 u27 u28 u29 u30 u31 u32 : Value) (w : World), Fin r W bx w → Q .normal ⟨#[.pointer (some ⟨r, 0, none⟩), undef, .pointer (some ⟨W.heap.size, 0, none⟩), .pointer (some ⟨bx, 0, none⟩), undef, undef, u6, u7, u8, u9, u10, u11, u12, u13, u14, u15, u16, u17, u18, u19, u20, u21, u22, u23, u24, u25, u26, u27, u28, u29, u30, u31, u32, undef, undef, undef, undef, undef, undef, undef, undef, undef, undef], []⟩ w) {z1 : Int} {q1 : ByteArray} (h1 : H1 z1 q1) {z2 : Int} {q2 : ByteArray} (h2 : H2 z2 q2) {z3 : Int} (h3 : 0 ≤ z3 ∧ z3 < 100) {z4 : Int} {q4 : ByteArray} (h4 : H4 z4 q4) {z5 : Int} (h5 : 0 ≤ z5 ∧ z5 < 31) {z6 : Int} (h6 : 0 ≤ z6 ∧ z6 < 24) {z7 : Int} (h7 : 0 ≤ z7 ∧ z7 < 60) (w : World) (hS : Sn r W none none none none w) : wpAnyH Tryd.prog .any OPS Q (Sn r W none none none none) 13 #[false, true, true, false, false, false, true, true, false, false, true, true, false, true, true, false, false, true, true, true, true, true, true, true, true, false, false, false, false] ⟨#[.pointer (some ⟨r, 0, none⟩), undef, .pointer (some ⟨W.heap.size, 0, none⟩), undef, undef, undef, undef, .pointer (some ⟨r, 0, none⟩), .int .i64 z1, undef, undef, undef, .pointer (some ⟨r, 0, none⟩), .int .i64 z2, undef, undef, .pointer (some ⟨r, 0, none⟩), .int .i64 z3, undef, .pointer (some ⟨r, 0, none⟩), .int .i64 z4, undef, undef, .pointer (some ⟨r, 0, none⟩), .int .i64 z5, .int .i64 (1 + z5), .pointer (some ⟨r, 0, none⟩), .int .i64 z6, .pointer (some ⟨r, 0, none⟩), .int .i64 z7, .pointer (some ⟨r, 0, none⟩), undef, undef, undef, undef, undef, undef, undef, undef, undef, undef, undef, undef], []⟩ w := by
  refine wpAnyH_ready (rs := [0, 5, 12, 25, 27]) (by kernel_rfl) (by simp) ?_
  refine AllReadyH.cons (o := { dst := some 6, op := Go.Op.buildSlice 37 5 #[(0, Go.Operand.const (Go.Value.string { data := #[83, 77] })), (1, Go.Operand.const (Go.Value.string { data := #[83, 73] })), (2, Go.Operand.const (Go.Value.string { data := #[85, 83] })), (3, Go.Operand.const (Go.Value.string { data := #[70, 84] })), (4, Go.Operand.const (Go.Value.string { data := #[87, 87] }))], type := 37, pos := "l04_bulletins.go:338", after := #[], guard := none }) rfl (fun K hK => ?_) ?_
  · go_simp
    have hS2 : Sn r W (some (w.heap.size)) none none none (w.alloc oK) := hS.lit1
    refine hK.out _ _ (by first | exact hS2 | exact hS2.less1 | exact hS2.less2 | exact hS2.less3 | exact hS2.less4) (fun _ => ?_)
    clear hK K
    refine wpAnyH_weak (S1 := Sn r W (some (w.heap.size)) none none none) (fun _ h => h.less1) _ _ _ _ ?_
    refine wpAnyH_take (i := 3) (oi := { dst := some 9, op := Go.Op.indexAddr 37 (Go.Operand.tmp 6) (Go.Operand.tmp 8), type := 0, pos := "l04_bulletins.go:338", after := #[{ on := 0, ground := Go.Ground.data }, { on := 2, ground := Go.Ground.data }], guard := none }) (v := (.pointer (some ⟨w.heap.size, z1.toNat, none⟩))) rfl (by kernel_rfl) (by kernel_rfl) (by kernel_rfl) (fun c a w h => hP c a _ _ w h) (Or.inl ⟨by rfl, ?_⟩) (by assumption) ?_
    · intro w hSw; have g1 := h1.1.1; have g2 := h1.1.2; go_simp
    (try simp only [Act.put, List.setIfInBounds_toArray, List.set_cons_zero, List.set_cons_succ])
    refine wpAnyH_take (i := 4) (oi := { dst := some 10, op := Go.Op.load 9 (Go.Operand.tmp 9), type := 9, pos := "l04_bulletins.go:338", after := #[{ on := 3, ground := Go.Ground.data }], guard := none }) (v := (.string q1)) rfl (by kernel_rfl) (by kernel_rfl) (by kernel_rfl) (fun c a w h => hP c a _ _ w h) (Or.inl ⟨by rfl, ?_⟩) (by assumption) ?_
    · intro w hSw; have cc := blk_cell (hSw.l1 _ rfl).on h1.2.2; go_simp
    (try simp only [Act.put, List.setIfInBounds_toArray, List.set_cons_zero, List.set_cons_succ])
    exact st71000 hP hQ h1 h2 h3 h4 h5 h6 h7 (w.heap.size) _ hS2
  refine AllReadyH.cons (o := { dst := some 11, op := Go.Op.buildSlice 37 3 #[(0, Go.Operand.const (Go.Value.string { data := #[68, 76] })), (1, Go.Operand.const (Go.Value.string { data := #[78, 79] })), (2, Go.Operand.const (Go.Value.string { data := #[88, 88] }))], type := 37, pos := "l04_bulletins.go:338", after := #[], guard := none }) rfl (fun K hK => ?_) ?_
  · go_simp
    have hS2 : Sn r W none (some (w.heap.size)) none none (w.alloc oA) := hS.lit2
    refine hK.out _ _ (by first | exact hS2 | exact hS2.less1 | exact hS2.less2 | exact hS2.less3 | exact hS2.less4) (fun _ => ?_)
    clear hK K
    refine wpAnyH_weak (S1 := Sn r W none (some (w.heap.size)) none none) (fun _ h => h.less2) _ _ _ _ ?_
    refine wpAnyH_take (i := 8) (oi := { dst := some 14, op := Go.Op.indexAddr 37 (Go.Operand.tmp 11) (Go.Operand.tmp 13), type := 0, pos := "l04_bulletins.go:338", after := #[{ on := 5, ground := Go.Ground.data }, { on := 7, ground := Go.Ground.data }], guard := none }) (v := (.pointer (some ⟨w.heap.size, z2.toNat, none⟩))) rfl (by kernel_rfl) (by kernel_rfl) (by kernel_rfl) (fun c a w h => hP c a _ _ w h) (Or.inl ⟨by rfl, ?_⟩) (by assumption) ?_
    · intro w hSw; have g1 := h2.1.1; have g2 := h2.1.2; go_simp
    (try simp only [Act.put, List.setIfInBounds_toArray, List.set_cons_zero, List.set_cons_succ])
    refine wpAnyH_take (i := 9) (oi := { dst := some 15, op := Go.Op.load 9 (Go.Operand.tmp 14), type := 9, pos := "l04_bulletins.go:338", after := #[{ on := 8, ground := Go.Ground.data }], guard := none }) (v := (.string q2)) rfl (by kernel_rfl) (by kernel_rfl) (by kernel_rfl) (fun c a w h => hP c a _ _ w h) (Or.inl ⟨by rfl, ?_⟩) (by assumption) ?_
    · intro w hSw; have cc := blk_cell (hSw.l2 _ rfl).on h2.2.2; go_simp
    (try simp only [Act.put, List.setIfInBounds_toArray, List.set_cons_zero, List.set_cons_succ])
    exact st70100 hP hQ h1 h2 h3 h4 h5 h6 h7 (w.heap.size) _ hS2
  refine AllReadyH.cons (o := { dst := some 18, op := Go.Op.buildSlice 37 3 #[(0, Go.Operand.const (Go.Value.string { data := #[65, 77, 77, 67] })), (1, Go.Operand.const (Go.Value.string { data := #[69, 78, 77, 73] })), (2, Go.Operand.const (Go.Value.string { data := #[75, 49, 65, 65] }))], type := 37, pos := "l04_bulletins.go:338", after := #[], guard := none }) rfl (fun K hK => ?_) ?_
  · go_simp
    have hS2 : Sn r W none none (some (w.heap.size)) none (w.alloc oC) := hS.lit3
    refine hK.out _ _ (by first | exact hS2 | exact hS2.less1 | exact hS2.less2 | exact hS2.less3 | exact hS2.less4) (fun _ => ?_)
    clear hK K
    refine wpAnyH_weak (S1 := Sn r W none none (some (w.heap.size)) none) (fun _ h => h.less3) _ _ _ _ ?_
    refine wpAnyH_take (i := 15) (oi := { dst := some 21, op := Go.Op.indexAddr 37 (Go.Operand.tmp 18) (Go.Operand.tmp 20), type := 0, pos := "l04_bulletins.go:338", after := #[{ on := 12, ground := Go.Ground.data }, { on := 14, ground := Go.Ground.data }], guard := none }) (v := (.pointer (some ⟨w.heap.size, z4.toNat, none⟩))) rfl (by kernel_rfl) (by kernel_rfl) (by kernel_rfl) (fun c a w h => hP c a _ _ w h) (Or.inl ⟨by rfl, ?_⟩) (by assumption) ?_
    · intro w hSw; have g1 := h4.1.1; have g2 := h4.1.2; go_simp
    (try simp only [Act.put, List.setIfInBounds_toArray, List.set_cons_zero, List.set_cons_succ])
    refine wpAnyH_take (i := 16) (oi := { dst := some 22, op := Go.Op.load 9 (Go.Operand.tmp 21), type := 9, pos := "l04_bulletins.go:338", after := #[{ on := 15, ground := Go.Ground.data }], guard := none }) (v := (.string q4)) rfl (by kernel_rfl) (by kernel_rfl) (by kernel_rfl) (fun c a w h => hP c a _ _ w h) (Or.inl ⟨by rfl, ?_⟩) (by assumption) ?_
    · intro w hSw; have cc := blk_cell (hSw.l3 _ rfl).on h4.2.2; go_simp
    (try simp only [Act.put, List.setIfInBounds_toArray, List.set_cons_zero, List.set_cons_succ])
    exact st70010 hP hQ h1 h2 h3 h4 h5 h6 h7 (w.heap.size) _ hS2
  refine AllReadyH.cons (o := { dst := some 31, op := Go.Op.call { callee := Go.Callee.value (Go.Operand.func 28), args := #[Go.Operand.tmp 30], argTypes := #[33] }, type := 9, pos := "l04_bulletins.go:338", after := #[{ on := 24, ground := Go.Ground.data }, { on := 23, ground := Go.Ground.chain }], guard := none }) rfl (fun K hK => ?_) ?_
  · have rdw := hS.rd
    go_simp
    go_at_call 28
    refine (mark_any r _ rdw).mono ?_
    rintro e w1 ⟨⟨q8, rfl, h8⟩, k1, t1⟩
    have hS2 := hS.turn t1 k1
    clear k1 t1 hS rdw
    go_wp2_with fail
    refine hK.out _ _ (by first | exact hS2 | exact hS2.less1 | exact hS2.less2 | exact hS2.less3 | exact hS2.less4) (fun _ => ?_)
    clear hK K
    exact st80000 hP hQ h1 h2 h3 h4 h5 h6 h7 h8 _ hS2
  refine AllReadyH.cons (o := { dst := some 3, op := Go.Op.alloc 25, type := 0, pos := "l04_bulletins.go:338", after := #[], guard := none }) rfl (fun K hK => ?_) ?_
  · go_simp
    have hS2 : Sn r W none none none (some (w.heap.size)) (w.alloc oH) := hS.lit4
    refine hK.out _ _ (by first | exact hS2 | exact hS2.less1 | exact hS2.less2 | exact hS2.less3 | exact hS2.less4) (fun _ => ?_)
    clear hK K
    refine wpAnyH_weak (S1 := Sn r W none none none (some (w.heap.size))) (fun _ h => h.less4) _ _ _ _ ?_
    exact st70001 hP hQ h1 h2 h3 h4 h5 h6 h7 (w.heap.size) _ hS2
  exact AllReadyH.nil
end Go.Proofs.YtepofpmdkphhdaaDoor.Hd
