/- A heading drawn of a code: the region by its states (0 draws done). -/
import Derived.Test.YtepofpmdkphhdaaDoorH1
namespace Go.Proofs.YtepofpmdkphhdaaDoor.Hd
open Go.ChangeShapes Go.WideShapes Go.ChangeAt Go.RowKit
open Go.Proofs.YtepofpmdkphhdaaDoor.Rd Mk Fig Head
set_option maxHeartbeats 2000000 in
theorem st01111 {r : Nat} {W : World} {Q : Exit → Act → World → Prop} (hP : ∀ c (a : Act) d (v : Value) w, Q (.panic c) (a.put d v) w → Q (.panic c) a w) (hQ : ∀ (bx : Nat) (u6 u7 u8 u9 u10 u11 u12 u13 u14 u15 u16 u17 u18 u19 u20 u21 u22 u23 u24 u25 u26 u27 u28 u29 u30 u31 u32 : Value) (w : World), Fin r W bx w → Q .normal ⟨#[.pointer (some ⟨r, 0, none⟩), undef, .pointer (some ⟨W.heap.size, 0, none⟩), .pointer (some ⟨bx, 0, none⟩), undef, undef, u6, u7, u8, u9, u10, u11, u12, u13, u14, u15, u16, u17, u18, u19, u20, u21, u22, u23, u24, u25, u26, u27, u28, u29, u30, u31, u32, undef, undef, undef, undef, undef, undef, undef, undef, undef, undef], []⟩ w) (b1 : Nat) (b2 : Nat) (b3 : Nat) (b4 : Nat) (w : World) (hS : Sn r W (some (b1)) (some (b2)) (some (b3)) (some (b4)) w) : wpAnyH Tryd.prog .any OPS Q (Sn r W (some (b1)) (some (b2)) (some (b3)) (some (b4))) 17 #[true, true, false, false, false, true, true, false, false, false, true, false, true, true, false, false, false, true, false, false, true, false, true, false, true, false, false, true, false] ⟨#[.pointer (some ⟨r, 0, none⟩), undef, .pointer (some ⟨W.heap.size, 0, none⟩), .pointer (some ⟨b4, 0, none⟩), undef, undef, .slice (some ⟨b1, 0, none⟩) 5 5, .pointer (some ⟨r, 0, none⟩), undef, undef, undef, .slice (some ⟨b2, 0, none⟩) 3 3, .pointer (some ⟨r, 0, none⟩), undef, undef, undef, .pointer (some ⟨r, 0, none⟩), undef, .slice (some ⟨b3, 0, none⟩) 3 3, .pointer (some ⟨r, 0, none⟩), undef, undef, undef, .pointer (some ⟨r, 0, none⟩), undef, undef, .pointer (some ⟨r, 0, none⟩), undef, .pointer (some ⟨r, 0, none⟩), undef, .pointer (some ⟨r, 0, none⟩), undef, undef, undef, undef, undef, undef, undef, undef, undef, undef, undef, undef], []⟩ w := by
  refine wpAnyH_ready (rs := [2]) (by kernel_rfl) (by simp) ?_
  refine AllReadyH.cons (o := { dst := some 8, op := Go.Op.call { callee := Go.Callee.value (Go.Operand.func 13), args := #[Go.Operand.tmp 7, Go.Operand.const (Go.Value.int Go.IntKind.i64 5)], argTypes := #[33, 3] }, type := 3, pos := "l04_bulletins.go:338", after := #[{ on := 1, ground := Go.Ground.data }], guard := none }) rfl (fun K hK => ?_) ?_
  · have rdw := hS.rd
    go_simp
    go_at_call 13
    refine (below_all r _ rdw 5 (by omega) (by omega)).mono ?_
    rintro e w1 ⟨⟨z1, hz, rfl⟩, k1, t1⟩
    obtain ⟨q1, hq, hcq⟩ := kind_of z1 hz.1 hz.2
    have h1 : H1 z1 q1 := ⟨hz, hq, hcq⟩
    clear hq hcq hz
    have hS2 := hS.turn t1 k1
    clear k1 t1 hS rdw
    go_wp2_with fail
    refine hK.out _ _ (by first | exact hS2 | exact hS2.less1 | exact hS2.less2 | exact hS2.less3 | exact hS2.less4) (fun _ => ?_)
    clear hK K
    refine wpAnyH_take (i := 3) (oi := { dst := some 9, op := Go.Op.indexAddr 37 (Go.Operand.tmp 6) (Go.Operand.tmp 8), type := 0, pos := "l04_bulletins.go:338", after := #[{ on := 0, ground := Go.Ground.data }, { on := 2, ground := Go.Ground.data }], guard := none }) (v := (.pointer (some ⟨b1, z1.toNat, none⟩))) rfl (by kernel_rfl) (by kernel_rfl) (by kernel_rfl) (fun c a w h => hP c a _ _ w h) (Or.inl ⟨by rfl, ?_⟩) (by assumption) ?_
    · intro w hSw; have g1 := h1.1.1; have g2 := h1.1.2; go_simp
    (try simp only [Act.put, List.setIfInBounds_toArray, List.set_cons_zero, List.set_cons_succ])
    refine wpAnyH_take (i := 4) (oi := { dst := some 10, op := Go.Op.load 9 (Go.Operand.tmp 9), type := 9, pos := "l04_bulletins.go:338", after := #[{ on := 3, ground := Go.Ground.data }], guard := none }) (v := (.string q1)) rfl (by kernel_rfl) (by kernel_rfl) (by kernel_rfl) (fun c a w h => hP c a _ _ w h) (Or.inl ⟨by rfl, ?_⟩) (by assumption) ?_
    · intro w hSw; have cc := blk_cell (hSw.l1 _ rfl).on h1.2.2; go_simp
    (try simp only [Act.put, List.setIfInBounds_toArray, List.set_cons_zero, List.set_cons_succ])
    exact st11111 hP hQ h1 (b1) (b2) (b3) (b4) _ hS2
  exact AllReadyH.nil
set_option maxHeartbeats 2000000 in
theorem st00111 {r : Nat} {W : World} {Q : Exit → Act → World → Prop} (hP : ∀ c (a : Act) d (v : Value) w, Q (.panic c) (a.put d v) w → Q (.panic c) a w) (hQ : ∀ (bx : Nat) (u6 u7 u8 u9 u10 u11 u12 u13 u14 u15 u16 u17 u18 u19 u20 u21 u22 u23 u24 u25 u26 u27 u28 u29 u30 u31 u32 : Value) (w : World), Fin r W bx w → Q .normal ⟨#[.pointer (some ⟨r, 0, none⟩), undef, .pointer (some ⟨W.heap.size, 0, none⟩), .pointer (some ⟨bx, 0, none⟩), undef, undef, u6, u7, u8, u9, u10, u11, u12, u13, u14, u15, u16, u17, u18, u19, u20, u21, u22, u23, u24, u25, u26, u27, u28, u29, u30, u31, u32, undef, undef, undef, undef, undef, undef, undef, undef, undef, undef], []⟩ w) (b2 : Nat) (b3 : Nat) (b4 : Nat) (w : World) (hS : Sn r W none (some (b2)) (some (b3)) (some (b4)) w) : wpAnyH Tryd.prog .any OPS Q (Sn r W none (some (b2)) (some (b3)) (some (b4))) 18 #[false, true, false, false, false, true, true, false, false, false, true, false, true, true, false, false, false, true, false, false, true, false, true, false, true, false, false, true, false] ⟨#[.pointer (some ⟨r, 0, none⟩), undef, .pointer (some ⟨W.heap.size, 0, none⟩), .pointer (some ⟨b4, 0, none⟩), undef, undef, undef, .pointer (some ⟨r, 0, none⟩), undef, undef, undef, .slice (some ⟨b2, 0, none⟩) 3 3, .pointer (some ⟨r, 0, none⟩), undef, undef, undef, .pointer (some ⟨r, 0, none⟩), undef, .slice (some ⟨b3, 0, none⟩) 3 3, .pointer (some ⟨r, 0, none⟩), undef, undef, undef, .pointer (some ⟨r, 0, none⟩), undef, undef, .pointer (some ⟨r, 0, none⟩), undef, .pointer (some ⟨r, 0, none⟩), undef, .pointer (some ⟨r, 0, none⟩), undef, undef, undef, undef, undef, undef, undef, undef, undef, undef, undef, undef], []⟩ w := by
  refine wpAnyH_ready (rs := [0, 2]) (by kernel_rfl) (by simp) ?_
  refine AllReadyH.cons (o := { dst := some 6, op := Go.Op.buildSlice 37 5 #[(0, Go.Operand.const (Go.Value.string { data := #[83, 77] })), (1, Go.Operand.const (Go.Value.string { data := #[83, 73] })), (2, Go.Operand.const (Go.Value.string { data := #[85, 83] })), (3, Go.Operand.const (Go.Value.string { data := #[70, 84] })), (4, Go.Operand.const (Go.Value.string { data := #[87, 87] }))], type := 37, pos := "l04_bulletins.go:338", after := #[], guard := none }) rfl (fun K hK => ?_) ?_
  · go_simp
    have hS2 : Sn r W (some (w.heap.size)) (some (b2)) (some (b3)) (some (b4)) (w.alloc oK) := hS.lit1
    refine hK.out _ _ (by first | exact hS2 | exact hS2.less1 | exact hS2.less2 | exact hS2.less3 | exact hS2.less4) (fun _ => ?_)
    clear hK K
    refine wpAnyH_weak (S1 := Sn r W (some (w.heap.size)) (some (b2)) (some (b3)) (some (b4))) (fun _ h => h.less1) _ _ _ _ ?_
    exact st01111 hP hQ  (w.heap.size) (b2) (b3) (b4) _ hS2
  refine AllReadyH.cons (o := { dst := some 8, op := Go.Op.call { callee := Go.Callee.value (Go.Operand.func 13), args := #[Go.Operand.tmp 7, Go.Operand.const (Go.Value.int Go.IntKind.i64 5)], argTypes := #[33, 3] }, type := 3, pos := "l04_bulletins.go:338", after := #[{ on := 1, ground := Go.Ground.data }], guard := none }) rfl (fun K hK => ?_) ?_
  · have rdw := hS.rd
    go_simp
    go_at_call 13
    refine (below_all r _ rdw 5 (by omega) (by omega)).mono ?_
    rintro e w1 ⟨⟨z1, hz, rfl⟩, k1, t1⟩
    obtain ⟨q1, hq, hcq⟩ := kind_of z1 hz.1 hz.2
    have h1 : H1 z1 q1 := ⟨hz, hq, hcq⟩
    clear hq hcq hz
    have hS2 := hS.turn t1 k1
    clear k1 t1 hS rdw
    go_wp2_with fail
    refine hK.out _ _ (by first | exact hS2 | exact hS2.less1 | exact hS2.less2 | exact hS2.less3 | exact hS2.less4) (fun _ => ?_)
    clear hK K
    exact st10111 hP hQ h1 (b2) (b3) (b4) _ hS2
  exact AllReadyH.nil
set_option maxHeartbeats 2000000 in
theorem st01011 {r : Nat} {W : World} {Q : Exit → Act → World → Prop} (hP : ∀ c (a : Act) d (v : Value) w, Q (.panic c) (a.put d v) w → Q (.panic c) a w) (hQ : ∀ (bx : Nat) (u6 u7 u8 u9 u10 u11 u12 u13 u14 u15 u16 u17 u18 u19 u20 u21 u22 u23 u24 u25 u26 u27 u28 u29 u30 u31 u32 : Value) (w : World), Fin r W bx w → Q .normal ⟨#[.pointer (some ⟨r, 0, none⟩), undef, .pointer (some ⟨W.heap.size, 0, none⟩), .pointer (some ⟨bx, 0, none⟩), undef, undef, u6, u7, u8, u9, u10, u11, u12, u13, u14, u15, u16, u17, u18, u19, u20, u21, u22, u23, u24, u25, u26, u27, u28, u29, u30, u31, u32, undef, undef, undef, undef, undef, undef, undef, undef, undef, undef], []⟩ w) (b1 : Nat) (b3 : Nat) (b4 : Nat) (w : World) (hS : Sn r W (some (b1)) none (some (b3)) (some (b4)) w) : wpAnyH Tryd.prog .any OPS Q (Sn r W (some (b1)) none (some (b3)) (some (b4))) 18 #[true, true, false, false, false, false, true, false, false, false, true, false, true, true, false, false, false, true, false, false, true, false, true, false, true, false, false, true, false] ⟨#[.pointer (some ⟨r, 0, none⟩), undef, .pointer (some ⟨W.heap.size, 0, none⟩), .pointer (some ⟨b4, 0, none⟩), undef, undef, .slice (some ⟨b1, 0, none⟩) 5 5, .pointer (some ⟨r, 0, none⟩), undef, undef, undef, undef, .pointer (some ⟨r, 0, none⟩), undef, undef, undef, .pointer (some ⟨r, 0, none⟩), undef, .slice (some ⟨b3, 0, none⟩) 3 3, .pointer (some ⟨r, 0, none⟩), undef, undef, undef, .pointer (some ⟨r, 0, none⟩), undef, undef, .pointer (some ⟨r, 0, none⟩), undef, .pointer (some ⟨r, 0, none⟩), undef, .pointer (some ⟨r, 0, none⟩), undef, undef, undef, undef, undef, undef, undef, undef, undef, undef, undef, undef], []⟩ w := by
  refine wpAnyH_ready (rs := [2, 5]) (by kernel_rfl) (by simp) ?_
  refine AllReadyH.cons (o := { dst := some 8, op := Go.Op.call { callee := Go.Callee.value (Go.Operand.func 13), args := #[Go.Operand.tmp 7, Go.Operand.const (Go.Value.int Go.IntKind.i64 5)], argTypes := #[33, 3] }, type := 3, pos := "l04_bulletins.go:338", after := #[{ on := 1, ground := Go.Ground.data }], guard := none }) rfl (fun K hK => ?_) ?_
  · have rdw := hS.rd
    go_simp
    go_at_call 13
    refine (below_all r _ rdw 5 (by omega) (by omega)).mono ?_
    rintro e w1 ⟨⟨z1, hz, rfl⟩, k1, t1⟩
    obtain ⟨q1, hq, hcq⟩ := kind_of z1 hz.1 hz.2
    have h1 : H1 z1 q1 := ⟨hz, hq, hcq⟩
    clear hq hcq hz
    have hS2 := hS.turn t1 k1
    clear k1 t1 hS rdw
    go_wp2_with fail
    refine hK.out _ _ (by first | exact hS2 | exact hS2.less1 | exact hS2.less2 | exact hS2.less3 | exact hS2.less4) (fun _ => ?_)
    clear hK K
    refine wpAnyH_take (i := 3) (oi := { dst := some 9, op := Go.Op.indexAddr 37 (Go.Operand.tmp 6) (Go.Operand.tmp 8), type := 0, pos := "l04_bulletins.go:338", after := #[{ on := 0, ground := Go.Ground.data }, { on := 2, ground := Go.Ground.data }], guard := none }) (v := (.pointer (some ⟨b1, z1.toNat, none⟩))) rfl (by kernel_rfl) (by kernel_rfl) (by kernel_rfl) (fun c a w h => hP c a _ _ w h) (Or.inl ⟨by rfl, ?_⟩) (by assumption) ?_
    · intro w hSw; have g1 := h1.1.1; have g2 := h1.1.2; go_simp
    (try simp only [Act.put, List.setIfInBounds_toArray, List.set_cons_zero, List.set_cons_succ])
    refine wpAnyH_take (i := 4) (oi := { dst := some 10, op := Go.Op.load 9 (Go.Operand.tmp 9), type := 9, pos := "l04_bulletins.go:338", after := #[{ on := 3, ground := Go.Ground.data }], guard := none }) (v := (.string q1)) rfl (by kernel_rfl) (by kernel_rfl) (by kernel_rfl) (fun c a w h => hP c a _ _ w h) (Or.inl ⟨by rfl, ?_⟩) (by assumption) ?_
    · intro w hSw; have cc := blk_cell (hSw.l1 _ rfl).on h1.2.2; go_simp
    (try simp only [Act.put, List.setIfInBounds_toArray, List.set_cons_zero, List.set_cons_succ])
    exact st11011 hP hQ h1 (b1) (b3) (b4) _ hS2
  refine AllReadyH.cons (o := { dst := some 11, op := Go.Op.buildSlice 37 3 #[(0, Go.Operand.const (Go.Value.string { data := #[68, 76] })), (1, Go.Operand.const (Go.Value.string { data := #[78, 79] })), (2, Go.Operand.const (Go.Value.string { data := #[88, 88] }))], type := 37, pos := "l04_bulletins.go:338", after := #[], guard := none }) rfl (fun K hK => ?_) ?_
  · go_simp
    have hS2 : Sn r W (some (b1)) (some (w.heap.size)) (some (b3)) (some (b4)) (w.alloc oA) := hS.lit2
    refine hK.out _ _ (by first | exact hS2 | exact hS2.less1 | exact hS2.less2 | exact hS2.less3 | exact hS2.less4) (fun _ => ?_)
    clear hK K
    refine wpAnyH_weak (S1 := Sn r W (some (b1)) (some (w.heap.size)) (some (b3)) (some (b4))) (fun _ h => h.less2) _ _ _ _ ?_
    exact st01111 hP hQ  (b1) (w.heap.size) (b3) (b4) _ hS2
  exact AllReadyH.nil
set_option maxHeartbeats 2000000 in
theorem st01101 {r : Nat} {W : World} {Q : Exit → Act → World → Prop} (hP : ∀ c (a : Act) d (v : Value) w, Q (.panic c) (a.put d v) w → Q (.panic c) a w) (hQ : ∀ (bx : Nat) (u6 u7 u8 u9 u10 u11 u12 u13 u14 u15 u16 u17 u18 u19 u20 u21 u22 u23 u24 u25 u26 u27 u28 u29 u30 u31 u32 : Value) (w : World), Fin r W bx w → Q .normal ⟨#[.pointer (some ⟨r, 0, none⟩), undef, .pointer (some ⟨W.heap.size, 0, none⟩), .pointer (some ⟨bx, 0, none⟩), undef, undef, u6, u7, u8, u9, u10, u11, u12, u13, u14, u15, u16, u17, u18, u19, u20, u21, u22, u23, u24, u25, u26, u27, u28, u29, u30, u31, u32, undef, undef, undef, undef, undef, undef, undef, undef, undef, undef], []⟩ w) (b1 : Nat) (b2 : Nat) (b4 : Nat) (w : World) (hS : Sn r W (some (b1)) (some (b2)) none (some (b4)) w) : wpAnyH Tryd.prog .any OPS Q (Sn r W (some (b1)) (some (b2)) none (some (b4))) 18 #[true, true, false, false, false, true, true, false, false, false, true, false, false, true, false, false, false, true, false, false, true, false, true, false, true, false, false, true, false] ⟨#[.pointer (some ⟨r, 0, none⟩), undef, .pointer (some ⟨W.heap.size, 0, none⟩), .pointer (some ⟨b4, 0, none⟩), undef, undef, .slice (some ⟨b1, 0, none⟩) 5 5, .pointer (some ⟨r, 0, none⟩), undef, undef, undef, .slice (some ⟨b2, 0, none⟩) 3 3, .pointer (some ⟨r, 0, none⟩), undef, undef, undef, .pointer (some ⟨r, 0, none⟩), undef, undef, .pointer (some ⟨r, 0, none⟩), undef, undef, undef, .pointer (some ⟨r, 0, none⟩), undef, undef, .pointer (some ⟨r, 0, none⟩), undef, .pointer (some ⟨r, 0, none⟩), undef, .pointer (some ⟨r, 0, none⟩), undef, undef, undef, undef, undef, undef, undef, undef, undef, undef, undef, undef], []⟩ w := by
  refine wpAnyH_ready (rs := [2, 12]) (by kernel_rfl) (by simp) ?_
  refine AllReadyH.cons (o := { dst := some 8, op := Go.Op.call { callee := Go.Callee.value (Go.Operand.func 13), args := #[Go.Operand.tmp 7, Go.Operand.const (Go.Value.int Go.IntKind.i64 5)], argTypes := #[33, 3] }, type := 3, pos := "l04_bulletins.go:338", after := #[{ on := 1, ground := Go.Ground.data }], guard := none }) rfl (fun K hK => ?_) ?_
  · have rdw := hS.rd
    go_simp
    go_at_call 13
    refine (below_all r _ rdw 5 (by omega) (by omega)).mono ?_
    rintro e w1 ⟨⟨z1, hz, rfl⟩, k1, t1⟩
    obtain ⟨q1, hq, hcq⟩ := kind_of z1 hz.1 hz.2
    have h1 : H1 z1 q1 := ⟨hz, hq, hcq⟩
    clear hq hcq hz
    have hS2 := hS.turn t1 k1
    clear k1 t1 hS rdw
    go_wp2_with fail
    refine hK.out _ _ (by first | exact hS2 | exact hS2.less1 | exact hS2.less2 | exact hS2.less3 | exact hS2.less4) (fun _ => ?_)
    clear hK K
    refine wpAnyH_take (i := 3) (oi := { dst := some 9, op := Go.Op.indexAddr 37 (Go.Operand.tmp 6) (Go.Operand.tmp 8), type := 0, pos := "l04_bulletins.go:338", after := #[{ on := 0, ground := Go.Ground.data }, { on := 2, ground := Go.Ground.data }], guard := none }) (v := (.pointer (some ⟨b1, z1.toNat, none⟩))) rfl (by kernel_rfl) (by kernel_rfl) (by kernel_rfl) (fun c a w h => hP c a _ _ w h) (Or.inl ⟨by rfl, ?_⟩) (by assumption) ?_
    · intro w hSw; have g1 := h1.1.1; have g2 := h1.1.2; go_simp
    (try simp only [Act.put, List.setIfInBounds_toArray, List.set_cons_zero, List.set_cons_succ])
    refine wpAnyH_take (i := 4) (oi := { dst := some 10, op := Go.Op.load 9 (Go.Operand.tmp 9), type := 9, pos := "l04_bulletins.go:338", after := #[{ on := 3, ground := Go.Ground.data }], guard := none }) (v := (.string q1)) rfl (by kernel_rfl) (by kernel_rfl) (by kernel_rfl) (fun c a w h => hP c a _ _ w h) (Or.inl ⟨by rfl, ?_⟩) (by assumption) ?_
    · intro w hSw; have cc := blk_cell (hSw.l1 _ rfl).on h1.2.2; go_simp
    (try simp only [Act.put, List.setIfInBounds_toArray, List.set_cons_zero, List.set_cons_succ])
    exact st11101 hP hQ h1 (b1) (b2) (b4) _ hS2
  refine AllReadyH.cons (o := { dst := some 18, op := Go.Op.buildSlice 37 3 #[(0, Go.Operand.const (Go.Value.string { data := #[65, 77, 77, 67] })), (1, Go.Operand.const (Go.Value.string { data := #[69, 78, 77, 73] })), (2, Go.Operand.const (Go.Value.string { data := #[75, 49, 65, 65] }))], type := 37, pos := "l04_bulletins.go:338", after := #[], guard := none }) rfl (fun K hK => ?_) ?_
  · go_simp
    have hS2 : Sn r W (some (b1)) (some (b2)) (some (w.heap.size)) (some (b4)) (w.alloc oC) := hS.lit3
    refine hK.out _ _ (by first | exact hS2 | exact hS2.less1 | exact hS2.less2 | exact hS2.less3 | exact hS2.less4) (fun _ => ?_)
    clear hK K
    refine wpAnyH_weak (S1 := Sn r W (some (b1)) (some (b2)) (some (w.heap.size)) (some (b4))) (fun _ h => h.less3) _ _ _ _ ?_
    exact st01111 hP hQ  (b1) (b2) (w.heap.size) (b4) _ hS2
  exact AllReadyH.nil
set_option maxHeartbeats 2000000 in
theorem st01110 {r : Nat} {W : World} {Q : Exit → Act → World → Prop} (hP : ∀ c (a : Act) d (v : Value) w, Q (.panic c) (a.put d v) w → Q (.panic c) a w) (hQ : ∀ (bx : Nat) (u6 u7 u8 u9 u10 u11 u12 u13 u14 u15 u16 u17 u18 u19 u20 u21 u22 u23 u24 u25 u26 u27 u28 u29 u30 u31 u32 : Value) (w : World), Fin r W bx w → Q .normal ⟨#[.pointer (some ⟨r, 0, none⟩), undef, .pointer (some ⟨W.heap.size, 0, none⟩), .pointer (some ⟨bx, 0, none⟩), undef, undef, u6, u7, u8, u9, u10, u11, u12, u13, u14, u15, u16, u17, u18, u19, u20, u21, u22, u23, u24, u25, u26, u27, u28, u29, u30, u31, u32, undef, undef, undef, undef, undef, undef, undef, undef, undef, undef], []⟩ w) (b1 : Nat) (b2 : Nat) (b3 : Nat) (w : World) (hS : Sn r W (some (b1)) (some (b2)) (some (b3)) none w) : wpAnyH Tryd.prog .any OPS Q (Sn r W (some (b1)) (some (b2)) (some (b3)) none) 18 #[true, true, false, false, false, true, true, false, false, false, true, false, true, true, false, false, false, true, false, false, true, false, true, false, true, false, false, false, false] ⟨#[.pointer (some ⟨r, 0, none⟩), undef, .pointer (some ⟨W.heap.size, 0, none⟩), undef, undef, undef, .slice (some ⟨b1, 0, none⟩) 5 5, .pointer (some ⟨r, 0, none⟩), undef, undef, undef, .slice (some ⟨b2, 0, none⟩) 3 3, .pointer (some ⟨r, 0, none⟩), undef, undef, undef, .pointer (some ⟨r, 0, none⟩), undef, .slice (some ⟨b3, 0, none⟩) 3 3, .pointer (some ⟨r, 0, none⟩), undef, undef, undef, .pointer (some ⟨r, 0, none⟩), undef, undef, .pointer (some ⟨r, 0, none⟩), undef, .pointer (some ⟨r, 0, none⟩), undef, .pointer (some ⟨r, 0, none⟩), undef, undef, undef, undef, undef, undef, undef, undef, undef, undef, undef, undef], []⟩ w := by
  refine wpAnyH_ready (rs := [2, 27]) (by kernel_rfl) (by simp) ?_
  refine AllReadyH.cons (o := { dst := some 8, op := Go.Op.call { callee := Go.Callee.value (Go.Operand.func 13), args := #[Go.Operand.tmp 7, Go.Operand.const (Go.Value.int Go.IntKind.i64 5)], argTypes := #[33, 3] }, type := 3, pos := "l04_bulletins.go:338", after := #[{ on := 1, ground := Go.Ground.data }], guard := none }) rfl (fun K hK => ?_) ?_
  · have rdw := hS.rd
    go_simp
    go_at_call 13
    refine (below_all r _ rdw 5 (by omega) (by omega)).mono ?_
    rintro e w1 ⟨⟨z1, hz, rfl⟩, k1, t1⟩
    obtain ⟨q1, hq, hcq⟩ := kind_of z1 hz.1 hz.2
    have h1 : H1 z1 q1 := ⟨hz, hq, hcq⟩
    clear hq hcq hz
    have hS2 := hS.turn t1 k1
    clear k1 t1 hS rdw
    go_wp2_with fail
    refine hK.out _ _ (by first | exact hS2 | exact hS2.less1 | exact hS2.less2 | exact hS2.less3 | exact hS2.less4) (fun _ => ?_)
    clear hK K
    refine wpAnyH_take (i := 3) (oi := { dst := some 9, op := Go.Op.indexAddr 37 (Go.Operand.tmp 6) (Go.Operand.tmp 8), type := 0, pos := "l04_bulletins.go:338", after := #[{ on := 0, ground := Go.Ground.data }, { on := 2, ground := Go.Ground.data }], guard := none }) (v := (.pointer (some ⟨b1, z1.toNat, none⟩))) rfl (by kernel_rfl) (by kernel_rfl) (by kernel_rfl) (fun c a w h => hP c a _ _ w h) (Or.inl ⟨by rfl, ?_⟩) (by assumption) ?_
    · intro w hSw; have g1 := h1.1.1; have g2 := h1.1.2; go_simp
    (try simp only [Act.put, List.setIfInBounds_toArray, List.set_cons_zero, List.set_cons_succ])
    refine wpAnyH_take (i := 4) (oi := { dst := some 10, op := Go.Op.load 9 (Go.Operand.tmp 9), type := 9, pos := "l04_bulletins.go:338", after := #[{ on := 3, ground := Go.Ground.data }], guard := none }) (v := (.string q1)) rfl (by kernel_rfl) (by kernel_rfl) (by kernel_rfl) (fun c a w h => hP c a _ _ w h) (Or.inl ⟨by rfl, ?_⟩) (by assumption) ?_
    · intro w hSw; have cc := blk_cell (hSw.l1 _ rfl).on h1.2.2; go_simp
    (try simp only [Act.put, List.setIfInBounds_toArray, List.set_cons_zero, List.set_cons_succ])
    exact st11110 hP hQ h1 (b1) (b2) (b3) _ hS2
  refine AllReadyH.cons (o := { dst := some 3, op := Go.Op.alloc 25, type := 0, pos := "l04_bulletins.go:338", after := #[], guard := none }) rfl (fun K hK => ?_) ?_
  · go_simp
    have hS2 : Sn r W (some (b1)) (some (b2)) (some (b3)) (some (w.heap.size)) (w.alloc oH) := hS.lit4
    refine hK.out _ _ (by first | exact hS2 | exact hS2.less1 | exact hS2.less2 | exact hS2.less3 | exact hS2.less4) (fun _ => ?_)
    clear hK K
    refine wpAnyH_weak (S1 := Sn r W (some (b1)) (some (b2)) (some (b3)) (some (w.heap.size))) (fun _ h => h.less4) _ _ _ _ ?_
    exact st01111 hP hQ  (b1) (b2) (b3) (w.heap.size) _ hS2
  exact AllReadyH.nil
set_option maxHeartbeats 2000000 in
theorem st00011 {r : Nat} {W : World} {Q : Exit → Act → World → Prop} (hP : ∀ c (a : Act) d (v : Value) w, Q (.panic c) (a.put d v) w → Q (.panic c) a w) (hQ : ∀ (bx : Nat) (u6 u7 u8 u9 u10 u11 u12 u13 u14 u15 u16 u17 u18 u19 u20 u21 u22 u23 u24 u25 u26 u27 u28 u29 u30 u31 u32 : Value) (w : World), Fin r W bx w → Q .normal ⟨#[.pointer (some ⟨r, 0, none⟩), undef, .pointer (some ⟨W.heap.size, 0, none⟩), .pointer (some ⟨bx, 0, none⟩), undef, undef, u6, u7, u8, u9, u10, u11, u12, u13, u14, u15, u16, u17, u18, u19, u20, u21, u22, u23, u24, u25, u26, u27, u28, u29, u30, u31, u32, undef, undef, undef, undef, undef, undef, undef, undef, undef, undef], []⟩ w) (b3 : Nat) (b4 : Nat) (w : World) (hS : Sn r W none none (some (b3)) (some (b4)) w) : wpAnyH Tryd.prog .any OPS Q (Sn r W none none (some (b3)) (some (b4))) 19 #[false, true, false, false, false, false, true, false, false, false, true, false, true, true, false, false, false, true, false, false, true, false, true, false, true, false, false, true, false] ⟨#[.pointer (some ⟨r, 0, none⟩), undef, .pointer (some ⟨W.heap.size, 0, none⟩), .pointer (some ⟨b4, 0, none⟩), undef, undef, undef, .pointer (some ⟨r, 0, none⟩), undef, undef, undef, undef, .pointer (some ⟨r, 0, none⟩), undef, undef, undef, .pointer (some ⟨r, 0, none⟩), undef, .slice (some ⟨b3, 0, none⟩) 3 3, .pointer (some ⟨r, 0, none⟩), undef, undef, undef, .pointer (some ⟨r, 0, none⟩), undef, undef, .pointer (some ⟨r, 0, none⟩), undef, .pointer (some ⟨r, 0, none⟩), undef, .pointer (some ⟨r, 0, none⟩), undef, undef, undef, undef, undef, undef, undef, undef, undef, undef, undef, undef], []⟩ w := by
  refine wpAnyH_ready (rs := [0, 2, 5]) (by kernel_rfl) (by simp) ?_
  refine AllReadyH.cons (o := { dst := some 6, op := Go.Op.buildSlice 37 5 #[(0, Go.Operand.const (Go.Value.string { data := #[83, 77] })), (1, Go.Operand.const (Go.Value.string { data := #[83, 73] })), (2, Go.Operand.const (Go.Value.string { data := #[85, 83] })), (3, Go.Operand.const (Go.Value.string { data := #[70, 84] })), (4, Go.Operand.const (Go.Value.string { data := #[87, 87] }))], type := 37, pos := "l04_bulletins.go:338", after := #[], guard := none }) rfl (fun K hK => ?_) ?_
  · go_simp
    have hS2 : Sn r W (some (w.heap.size)) none (some (b3)) (some (b4)) (w.alloc oK) := hS.lit1
    refine hK.out _ _ (by first | exact hS2 | exact hS2.less1 | exact hS2.less2 | exact hS2.less3 | exact hS2.less4) (fun _ => ?_)
    clear hK K
    refine wpAnyH_weak (S1 := Sn r W (some (w.heap.size)) none (some (b3)) (some (b4))) (fun _ h => h.less1) _ _ _ _ ?_
    exact st01011 hP hQ  (w.heap.size) (b3) (b4) _ hS2
  refine AllReadyH.cons (o := { dst := some 8, op := Go.Op.call { callee := Go.Callee.value (Go.Operand.func 13), args := #[Go.Operand.tmp 7, Go.Operand.const (Go.Value.int Go.IntKind.i64 5)], argTypes := #[33, 3] }, type := 3, pos := "l04_bulletins.go:338", after := #[{ on := 1, ground := Go.Ground.data }], guard := none }) rfl (fun K hK => ?_) ?_
  · have rdw := hS.rd
    go_simp
    go_at_call 13
    refine (below_all r _ rdw 5 (by omega) (by omega)).mono ?_
    rintro e w1 ⟨⟨z1, hz, rfl⟩, k1, t1⟩
    obtain ⟨q1, hq, hcq⟩ := kind_of z1 hz.1 hz.2
    have h1 : H1 z1 q1 := ⟨hz, hq, hcq⟩
    clear hq hcq hz
    have hS2 := hS.turn t1 k1
    clear k1 t1 hS rdw
    go_wp2_with fail
    refine hK.out _ _ (by first | exact hS2 | exact hS2.less1 | exact hS2.less2 | exact hS2.less3 | exact hS2.less4) (fun _ => ?_)
    clear hK K
    exact st10011 hP hQ h1 (b3) (b4) _ hS2
  refine AllReadyH.cons (o := { dst := some 11, op := Go.Op.buildSlice 37 3 #[(0, Go.Operand.const (Go.Value.string { data := #[68, 76] })), (1, Go.Operand.const (Go.Value.string { data := #[78, 79] })), (2, Go.Operand.const (Go.Value.string { data := #[88, 88] }))], type := 37, pos := "l04_bulletins.go:338", after := #[], guard := none }) rfl (fun K hK => ?_) ?_
  · go_simp
    have hS2 : Sn r W none (some (w.heap.size)) (some (b3)) (some (b4)) (w.alloc oA) := hS.lit2
    refine hK.out _ _ (by first | exact hS2 | exact hS2.less1 | exact hS2.less2 | exact hS2.less3 | exact hS2.less4) (fun _ => ?_)
    clear hK K
    refine wpAnyH_weak (S1 := Sn r W none (some (w.heap.size)) (some (b3)) (some (b4))) (fun _ h => h.less2) _ _ _ _ ?_
    exact st00111 hP hQ  (w.heap.size) (b3) (b4) _ hS2
  exact AllReadyH.nil
set_option maxHeartbeats 2000000 in
theorem st00101 {r : Nat} {W : World} {Q : Exit → Act → World → Prop} (hP : ∀ c (a : Act) d (v : Value) w, Q (.panic c) (a.put d v) w → Q (.panic c) a w) (hQ : ∀ (bx : Nat) (u6 u7 u8 u9 u10 u11 u12 u13 u14 u15 u16 u17 u18 u19 u20 u21 u22 u23 u24 u25 u26 u27 u28 u29 u30 u31 u32 : Value) (w : World), Fin r W bx w → Q .normal ⟨#[.pointer (some ⟨r, 0, none⟩), undef, .pointer (some ⟨W.heap.size, 0, none⟩), .pointer (some ⟨bx, 0, none⟩), undef, undef, u6, u7, u8, u9, u10, u11, u12, u13, u14, u15, u16, u17, u18, u19, u20, u21, u22, u23, u24, u25, u26, u27, u28, u29, u30, u31, u32, undef, undef, undef, undef, undef, undef, undef, undef, undef, undef], []⟩ w) (b2 : Nat) (b4 : Nat) (w : World) (hS : Sn r W none (some (b2)) none (some (b4)) w) : wpAnyH Tryd.prog .any OPS Q (Sn r W none (some (b2)) none (some (b4))) 19 #[false, true, false, false, false, true, true, false, false, false, true, false, false, true, false, false, false, true, false, false, true, false, true, false, true, false, false, true, false] ⟨#[.pointer (some ⟨r, 0, none⟩), undef, .pointer (some ⟨W.heap.size, 0, none⟩), .pointer (some ⟨b4, 0, none⟩), undef, undef, undef, .pointer (some ⟨r, 0, none⟩), undef, undef, undef, .slice (some ⟨b2, 0, none⟩) 3 3, .pointer (some ⟨r, 0, none⟩), undef, undef, undef, .pointer (some ⟨r, 0, none⟩), undef, undef, .pointer (some ⟨r, 0, none⟩), undef, undef, undef, .pointer (some ⟨r, 0, none⟩), undef, undef, .pointer (some ⟨r, 0, none⟩), undef, .pointer (some ⟨r, 0, none⟩), undef, .pointer (some ⟨r, 0, none⟩), undef, undef, undef, undef, undef, undef, undef, undef, undef, undef, undef, undef], []⟩ w := by
  refine wpAnyH_ready (rs := [0, 2, 12]) (by kernel_rfl) (by simp) ?_
  refine AllReadyH.cons (o := { dst := some 6, op := Go.Op.buildSlice 37 5 #[(0, Go.Operand.const (Go.Value.string { data := #[83, 77] })), (1, Go.Operand.const (Go.Value.string { data := #[83, 73] })), (2, Go.Operand.const (Go.Value.string { data := #[85, 83] })), (3, Go.Operand.const (Go.Value.string { data := #[70, 84] })), (4, Go.Operand.const (Go.Value.string { data := #[87, 87] }))], type := 37, pos := "l04_bulletins.go:338", after := #[], guard := none }) rfl (fun K hK => ?_) ?_
  · go_simp
    have hS2 : Sn r W (some (w.heap.size)) (some (b2)) none (some (b4)) (w.alloc oK) := hS.lit1
    refine hK.out _ _ (by first | exact hS2 | exact hS2.less1 | exact hS2.less2 | exact hS2.less3 | exact hS2.less4) (fun _ => ?_)
    clear hK K
    refine wpAnyH_weak (S1 := Sn r W (some (w.heap.size)) (some (b2)) none (some (b4))) (fun _ h => h.less1) _ _ _ _ ?_
    exact st01101 hP hQ  (w.heap.size) (b2) (b4) _ hS2
  refine AllReadyH.cons (o := { dst := some 8, op := Go.Op.call { callee := Go.Callee.value (Go.Operand.func 13), args := #[Go.Operand.tmp 7, Go.Operand.const (Go.Value.int Go.IntKind.i64 5)], argTypes := #[33, 3] }, type := 3, pos := "l04_bulletins.go:338", after := #[{ on := 1, ground := Go.Ground.data }], guard := none }) rfl (fun K hK => ?_) ?_
  · have rdw := hS.rd
    go_simp
    go_at_call 13
    refine (below_all r _ rdw 5 (by omega) (by omega)).mono ?_
    rintro e w1 ⟨⟨z1, hz, rfl⟩, k1, t1⟩
    obtain ⟨q1, hq, hcq⟩ := kind_of z1 hz.1 hz.2
    have h1 : H1 z1 q1 := ⟨hz, hq, hcq⟩
    clear hq hcq hz
    have hS2 := hS.turn t1 k1
    clear k1 t1 hS rdw
    go_wp2_with fail
    refine hK.out _ _ (by first | exact hS2 | exact hS2.less1 | exact hS2.less2 | exact hS2.less3 | exact hS2.less4) (fun _ => ?_)
    clear hK K
    exact st10101 hP hQ h1 (b2) (b4) _ hS2
  refine AllReadyH.cons (o := { dst := some 18, op := Go.Op.buildSlice 37 3 #[(0, Go.Operand.const (Go.Value.string { data := #[65, 77, 77, 67] })), (1, Go.Operand.const (Go.Value.string { data := #[69, 78, 77, 73] })), (2, Go.Operand.const (Go.Value.string { data := #[75, 49, 65, 65] }))], type := 37, pos := "l04_bulletins.go:338", after := #[], guard := none }) rfl (fun K hK => ?_) ?_
  · go_simp
    have hS2 : Sn r W none (some (b2)) (some (w.heap.size)) (some (b4)) (w.alloc oC) := hS.lit3
    refine hK.out _ _ (by first | exact hS2 | exact hS2.less1 | exact hS2.less2 | exact hS2.less3 | exact hS2.less4) (fun _ => ?_)
    clear hK K
    refine wpAnyH_weak (S1 := Sn r W none (some (b2)) (some (w.heap.size)) (some (b4))) (fun _ h => h.less3) _ _ _ _ ?_
    exact st00111 hP hQ  (b2) (w.heap.size) (b4) _ hS2
  exact AllReadyH.nil
set_option maxHeartbeats 2000000 in
theorem st00110 {r : Nat} {W : World} {Q : Exit → Act → World → Prop} (hP : ∀ c (a : Act) d (v : Value) w, Q (.panic c) (a.put d v) w → Q (.panic c) a w) (hQ : ∀ (bx : Nat) (u6 u7 u8 u9 u10 u11 u12 u13 u14 u15 u16 u17 u18 u19 u20 u21 u22 u23 u24 u25 u26 u27 u28 u29 u30 u31 u32 : Value) (w : World), Fin r W bx w → Q .normal ⟨#[.pointer (some ⟨r, 0, none⟩), undef, .pointer (some ⟨W.heap.size, 0, none⟩), .pointer (some ⟨bx, 0, none⟩), undef, undef, u6, u7, u8, u9, u10, u11, u12, u13, u14, u15, u16, u17, u18, u19, u20, u21, u22, u23, u24, u25, u26, u27, u28, u29, u30, u31, u32, undef, undef, undef, undef, undef, undef, undef, undef, undef, undef], []⟩ w) (b2 : Nat) (b3 : Nat) (w : World) (hS : Sn r W none (some (b2)) (some (b3)) none w) : wpAnyH Tryd.prog .any OPS Q (Sn r W none (some (b2)) (some (b3)) none) 19 #[false, true, false, false, false, true, true, false, false, false, true, false, true, true, false, false, false, true, false, false, true, false, true, false, true, false, false, false, false] ⟨#[.pointer (some ⟨r, 0, none⟩), undef, .pointer (some ⟨W.heap.size, 0, none⟩), undef, undef, undef, undef, .pointer (some ⟨r, 0, none⟩), undef, undef, undef, .slice (some ⟨b2, 0, none⟩) 3 3, .pointer (some ⟨r, 0, none⟩), undef, undef, undef, .pointer (some ⟨r, 0, none⟩), undef, .slice (some ⟨b3, 0, none⟩) 3 3, .pointer (some ⟨r, 0, none⟩), undef, undef, undef, .pointer (some ⟨r, 0, none⟩), undef, undef, .pointer (some ⟨r, 0, none⟩), undef, .pointer (some ⟨r, 0, none⟩), undef, .pointer (some ⟨r, 0, none⟩), undef, undef, undef, undef, undef, undef, undef, undef, undef, undef, undef, undef], []⟩ w := by
  refine wpAnyH_ready (rs := [0, 2, 27]) (by kernel_rfl) (by simp) ?_
  refine AllReadyH.cons (o := { dst := some 6, op := Go.Op.buildSlice 37 5 #[(0, Go.Operand.const (Go.Value.string { data := #[83, 77] })), (1, Go.Operand.const (Go.Value.string { data := #[83, 73] })), (2, Go.Operand.const (Go.Value.string { data := #[85, 83] })), (3, Go.Operand.const (Go.Value.string { data := #[70, 84] })), (4, Go.Operand.const (Go.Value.string { data := #[87, 87] }))], type := 37, pos := "l04_bulletins.go:338", after := #[], guard := none }) rfl (fun K hK => ?_) ?_
  · go_simp
    have hS2 : Sn r W (some (w.heap.size)) (some (b2)) (some (b3)) none (w.alloc oK) := hS.lit1
    refine hK.out _ _ (by first | exact hS2 | exact hS2.less1 | exact hS2.less2 | exact hS2.less3 | exact hS2.less4) (fun _ => ?_)
    clear hK K
    refine wpAnyH_weak (S1 := Sn r W (some (w.heap.size)) (some (b2)) (some (b3)) none) (fun _ h => h.less1) _ _ _ _ ?_
    exact st01110 hP hQ  (w.heap.size) (b2) (b3) _ hS2
  refine AllReadyH.cons (o := { dst := some 8, op := Go.Op.call { callee := Go.Callee.value (Go.Operand.func 13), args := #[Go.Operand.tmp 7, Go.Operand.const (Go.Value.int Go.IntKind.i64 5)], argTypes := #[33, 3] }, type := 3, pos := "l04_bulletins.go:338", after := #[{ on := 1, ground := Go.Ground.data }], guard := none }) rfl (fun K hK => ?_) ?_
  · have rdw := hS.rd
    go_simp
    go_at_call 13
    refine (below_all r _ rdw 5 (by omega) (by omega)).mono ?_
    rintro e w1 ⟨⟨z1, hz, rfl⟩, k1, t1⟩
    obtain ⟨q1, hq, hcq⟩ := kind_of z1 hz.1 hz.2
    have h1 : H1 z1 q1 := ⟨hz, hq, hcq⟩
    clear hq hcq hz
    have hS2 := hS.turn t1 k1
    clear k1 t1 hS rdw
    go_wp2_with fail
    refine hK.out _ _ (by first | exact hS2 | exact hS2.less1 | exact hS2.less2 | exact hS2.less3 | exact hS2.less4) (fun _ => ?_)
    clear hK K
    exact st10110 hP hQ h1 (b2) (b3) _ hS2
  refine AllReadyH.cons (o := { dst := some 3, op := Go.Op.alloc 25, type := 0, pos := "l04_bulletins.go:338", after := #[], guard := none }) rfl (fun K hK => ?_) ?_
  · go_simp
    have hS2 : Sn r W none (some (b2)) (some (b3)) (some (w.heap.size)) (w.alloc oH) := hS.lit4
    refine hK.out _ _ (by first | exact hS2 | exact hS2.less1 | exact hS2.less2 | exact hS2.less3 | exact hS2.less4) (fun _ => ?_)
    clear hK K
    refine wpAnyH_weak (S1 := Sn r W none (some (b2)) (some (b3)) (some (w.heap.size))) (fun _ h => h.less4) _ _ _ _ ?_
    exact st00111 hP hQ  (b2) (b3) (w.heap.size) _ hS2
  exact AllReadyH.nil
set_option maxHeartbeats 2000000 in
theorem st01001 {r : Nat} {W : World} {Q : Exit → Act → World → Prop} (hP : ∀ c (a : Act) d (v : Value) w, Q (.panic c) (a.put d v) w → Q (.panic c) a w) (hQ : ∀ (bx : Nat) (u6 u7 u8 u9 u10 u11 u12 u13 u14 u15 u16 u17 u18 u19 u20 u21 u22 u23 u24 u25 u26 u27 u28 u29 u30 u31 u32 : Value) (w : World), Fin r W bx w → Q .normal ⟨#[.pointer (some ⟨r, 0, none⟩), undef, .pointer (some ⟨W.heap.size, 0, none⟩), .pointer (some ⟨bx, 0, none⟩), undef, undef, u6, u7, u8, u9, u10, u11, u12, u13, u14, u15, u16, u17, u18, u19, u20, u21, u22, u23, u24, u25, u26, u27, u28, u29, u30, u31, u32, undef, undef, undef, undef, undef, undef, undef, undef, undef, undef], []⟩ w) (b1 : Nat) (b4 : Nat) (w : World) (hS : Sn r W (some (b1)) none none (some (b4)) w) : wpAnyH Tryd.prog .any OPS Q (Sn r W (some (b1)) none none (some (b4))) 19 #[true, true, false, false, false, false, true, false, false, false, true, false, false, true, false, false, false, true, false, false, true, false, true, false, true, false, false, true, false] ⟨#[.pointer (some ⟨r, 0, none⟩), undef, .pointer (some ⟨W.heap.size, 0, none⟩), .pointer (some ⟨b4, 0, none⟩), undef, undef, .slice (some ⟨b1, 0, none⟩) 5 5, .pointer (some ⟨r, 0, none⟩), undef, undef, undef, undef, .pointer (some ⟨r, 0, none⟩), undef, undef, undef, .pointer (some ⟨r, 0, none⟩), undef, undef, .pointer (some ⟨r, 0, none⟩), undef, undef, undef, .pointer (some ⟨r, 0, none⟩), undef, undef, .pointer (some ⟨r, 0, none⟩), undef, .pointer (some ⟨r, 0, none⟩), undef, .pointer (some ⟨r, 0, none⟩), undef, undef, undef, undef, undef, undef, undef, undef, undef, undef, undef, undef], []⟩ w := by
  refine wpAnyH_ready (rs := [2, 5, 12]) (by kernel_rfl) (by simp) ?_
  refine AllReadyH.cons (o := { dst := some 8, op := Go.Op.call { callee := Go.Callee.value (Go.Operand.func 13), args := #[Go.Operand.tmp 7, Go.Operand.const (Go.Value.int Go.IntKind.i64 5)], argTypes := #[33, 3] }, type := 3, pos := "l04_bulletins.go:338", after := #[{ on := 1, ground := Go.Ground.data }], guard := none }) rfl (fun K hK => ?_) ?_
  · have rdw := hS.rd
    go_simp
    go_at_call 13
    refine (below_all r _ rdw 5 (by omega) (by omega)).mono ?_
    rintro e w1 ⟨⟨z1, hz, rfl⟩, k1, t1⟩
    obtain ⟨q1, hq, hcq⟩ := kind_of z1 hz.1 hz.2
    have h1 : H1 z1 q1 := ⟨hz, hq, hcq⟩
    clear hq hcq hz
    have hS2 := hS.turn t1 k1
    clear k1 t1 hS rdw
    go_wp2_with fail
    refine hK.out _ _ (by first | exact hS2 | exact hS2.less1 | exact hS2.less2 | exact hS2.less3 | exact hS2.less4) (fun _ => ?_)
    clear hK K
    refine wpAnyH_take (i := 3) (oi := { dst := some 9, op := Go.Op.indexAddr 37 (Go.Operand.tmp 6) (Go.Operand.tmp 8), type := 0, pos := "l04_bulletins.go:338", after := #[{ on := 0, ground := Go.Ground.data }, { on := 2, ground := Go.Ground.data }], guard := none }) (v := (.pointer (some ⟨b1, z1.toNat, none⟩))) rfl (by kernel_rfl) (by kernel_rfl) (by kernel_rfl) (fun c a w h => hP c a _ _ w h) (Or.inl ⟨by rfl, ?_⟩) (by assumption) ?_
    · intro w hSw; have g1 := h1.1.1; have g2 := h1.1.2; go_simp
    (try simp only [Act.put, List.setIfInBounds_toArray, List.set_cons_zero, List.set_cons_succ])
    refine wpAnyH_take (i := 4) (oi := { dst := some 10, op := Go.Op.load 9 (Go.Operand.tmp 9), type := 9, pos := "l04_bulletins.go:338", after := #[{ on := 3, ground := Go.Ground.data }], guard := none }) (v := (.string q1)) rfl (by kernel_rfl) (by kernel_rfl) (by kernel_rfl) (fun c a w h => hP c a _ _ w h) (Or.inl ⟨by rfl, ?_⟩) (by assumption) ?_
    · intro w hSw; have cc := blk_cell (hSw.l1 _ rfl).on h1.2.2; go_simp
    (try simp only [Act.put, List.setIfInBounds_toArray, List.set_cons_zero, List.set_cons_succ])
    exact st11001 hP hQ h1 (b1) (b4) _ hS2
  refine AllReadyH.cons (o := { dst := some 11, op := Go.Op.buildSlice 37 3 #[(0, Go.Operand.const (Go.Value.string { data := #[68, 76] })), (1, Go.Operand.const (Go.Value.string { data := #[78, 79] })), (2, Go.Operand.const (Go.Value.string { data := #[88, 88] }))], type := 37, pos := "l04_bulletins.go:338", after := #[], guard := none }) rfl (fun K hK => ?_) ?_
  · go_simp
    have hS2 : Sn r W (some (b1)) (some (w.heap.size)) none (some (b4)) (w.alloc oA) := hS.lit2
    refine hK.out _ _ (by first | exact hS2 | exact hS2.less1 | exact hS2.less2 | exact hS2.less3 | exact hS2.less4) (fun _ => ?_)
    clear hK K
    refine wpAnyH_weak (S1 := Sn r W (some (b1)) (some (w.heap.size)) none (some (b4))) (fun _ h => h.less2) _ _ _ _ ?_
    exact st01101 hP hQ  (b1) (w.heap.size) (b4) _ hS2
  refine AllReadyH.cons (o := { dst := some 18, op := Go.Op.buildSlice 37 3 #[(0, Go.Operand.const (Go.Value.string { data := #[65, 77, 77, 67] })), (1, Go.Operand.const (Go.Value.string { data := #[69, 78, 77, 73] })), (2, Go.Operand.const (Go.Value.string { data := #[75, 49, 65, 65] }))], type := 37, pos := "l04_bulletins.go:338", after := #[], guard := none }) rfl (fun K hK => ?_) ?_
  · go_simp
    have hS2 : Sn r W (some (b1)) none (some (w.heap.size)) (some (b4)) (w.alloc oC) := hS.lit3
    refine hK.out _ _ (by first | exact hS2 | exact hS2.less1 | exact hS2.less2 | exact hS2.less3 | exact hS2.less4) (fun _ => ?_)
    clear hK K
    refine wpAnyH_weak (S1 := Sn r W (some (b1)) none (some (w.heap.size)) (some (b4))) (fun _ h => h.less3) _ _ _ _ ?_
    exact st01011 hP hQ  (b1) (w.heap.size) (b4) _ hS2
  exact AllReadyH.nil
set_option maxHeartbeats 2000000 in
theorem st01010 {r : Nat} {W : World} {Q : Exit → Act → World → Prop} (hP : ∀ c (a : Act) d (v : Value) w, Q (.panic c) (a.put d v) w → Q (.panic c) a w) (hQ : ∀ (bx : Nat) (u6 u7 u8 u9 u10 u11 u12 u13 u14 u15 u16 u17 u18 u19 u20 u21 u22 u23 u24 u25 u26 u27 u28 u29 u30 u31 u32 : Value) (w : World), Fin r W bx w → Q .normal ⟨#[.pointer (some ⟨r, 0, none⟩), undef, .pointer (some ⟨W.heap.size, 0, none⟩), .pointer (some ⟨bx, 0, none⟩), undef, undef, u6, u7, u8, u9, u10, u11, u12, u13, u14, u15, u16, u17, u18, u19, u20, u21, u22, u23, u24, u25, u26, u27, u28, u29, u30, u31, u32, undef, undef, undef, undef, undef, undef, undef, undef, undef, undef], []⟩ w) (b1 : Nat) (b3 : Nat) (w : World) (hS : Sn r W (some (b1)) none (some (b3)) none w) : wpAnyH Tryd.prog .any OPS Q (Sn r W (some (b1)) none (some (b3)) none) 19 #[true, true, false, false, false, false, true, false, false, false, true, false, true, true, false, false, false, true, false, false, true, false, true, false, true, false, false, false, false] ⟨#[.pointer (some ⟨r, 0, none⟩), undef, .pointer (some ⟨W.heap.size, 0, none⟩), undef, undef, undef, .slice (some ⟨b1, 0, none⟩) 5 5, .pointer (some ⟨r, 0, none⟩), undef, undef, undef, undef, .pointer (some ⟨r, 0, none⟩), undef, undef, undef, .pointer (some ⟨r, 0, none⟩), undef, .slice (some ⟨b3, 0, none⟩) 3 3, .pointer (some ⟨r, 0, none⟩), undef, undef, undef, .pointer (some ⟨r, 0, none⟩), undef, undef, .pointer (some ⟨r, 0, none⟩), undef, .pointer (some ⟨r, 0, none⟩), undef, .pointer (some ⟨r, 0, none⟩), undef, undef, undef, undef, undef, undef, undef, undef, undef, undef, undef, undef], []⟩ w := by
  refine wpAnyH_ready (rs := [2, 5, 27]) (by kernel_rfl) (by simp) ?_
  refine AllReadyH.cons (o := { dst := some 8, op := Go.Op.call { callee := Go.Callee.value (Go.Operand.func 13), args := #[Go.Operand.tmp 7, Go.Operand.const (Go.Value.int Go.IntKind.i64 5)], argTypes := #[33, 3] }, type := 3, pos := "l04_bulletins.go:338", after := #[{ on := 1, ground := Go.Ground.data }], guard := none }) rfl (fun K hK => ?_) ?_
  · have rdw := hS.rd
    go_simp
    go_at_call 13
    refine (below_all r _ rdw 5 (by omega) (by omega)).mono ?_
    rintro e w1 ⟨⟨z1, hz, rfl⟩, k1, t1⟩
    obtain ⟨q1, hq, hcq⟩ := kind_of z1 hz.1 hz.2
    have h1 : H1 z1 q1 := ⟨hz, hq, hcq⟩
    clear hq hcq hz
    have hS2 := hS.turn t1 k1
    clear k1 t1 hS rdw
    go_wp2_with fail
    refine hK.out _ _ (by first | exact hS2 | exact hS2.less1 | exact hS2.less2 | exact hS2.less3 | exact hS2.less4) (fun _ => ?_)
    clear hK K
    refine wpAnyH_take (i := 3) (oi := { dst := some 9, op := Go.Op.indexAddr 37 (Go.Operand.tmp 6) (Go.Operand.tmp 8), type := 0, pos := "l04_bulletins.go:338", after := #[{ on := 0, ground := Go.Ground.data }, { on := 2, ground := Go.Ground.data }], guard := none }) (v := (.pointer (some ⟨b1, z1.toNat, none⟩))) rfl (by kernel_rfl) (by kernel_rfl) (by kernel_rfl) (fun c a w h => hP c a _ _ w h) (Or.inl ⟨by rfl, ?_⟩) (by assumption) ?_
    · intro w hSw; have g1 := h1.1.1; have g2 := h1.1.2; go_simp
    (try simp only [Act.put, List.setIfInBounds_toArray, List.set_cons_zero, List.set_cons_succ])
    refine wpAnyH_take (i := 4) (oi := { dst := some 10, op := Go.Op.load 9 (Go.Operand.tmp 9), type := 9, pos := "l04_bulletins.go:338", after := #[{ on := 3, ground := Go.Ground.data }], guard := none }) (v := (.string q1)) rfl (by kernel_rfl) (by kernel_rfl) (by kernel_rfl) (fun c a w h => hP c a _ _ w h) (Or.inl ⟨by rfl, ?_⟩) (by assumption) ?_
    · intro w hSw; have cc := blk_cell (hSw.l1 _ rfl).on h1.2.2; go_simp
    (try simp only [Act.put, List.setIfInBounds_toArray, List.set_cons_zero, List.set_cons_succ])
    exact st11010 hP hQ h1 (b1) (b3) _ hS2
  refine AllReadyH.cons (o := { dst := some 11, op := Go.Op.buildSlice 37 3 #[(0, Go.Operand.const (Go.Value.string { data := #[68, 76] })), (1, Go.Operand.const (Go.Value.string { data := #[78, 79] })), (2, Go.Operand.const (Go.Value.string { data := #[88, 88] }))], type := 37, pos := "l04_bulletins.go:338", after := #[], guard := none }) rfl (fun K hK => ?_) ?_
  · go_simp
    have hS2 : Sn r W (some (b1)) (some (w.heap.size)) (some (b3)) none (w.alloc oA) := hS.lit2
    refine hK.out _ _ (by first | exact hS2 | exact hS2.less1 | exact hS2.less2 | exact hS2.less3 | exact hS2.less4) (fun _ => ?_)
    clear hK K
    refine wpAnyH_weak (S1 := Sn r W (some (b1)) (some (w.heap.size)) (some (b3)) none) (fun _ h => h.less2) _ _ _ _ ?_
    exact st01110 hP hQ  (b1) (w.heap.size) (b3) _ hS2
  refine AllReadyH.cons (o := { dst := some 3, op := Go.Op.alloc 25, type := 0, pos := "l04_bulletins.go:338", after := #[], guard := none }) rfl (fun K hK => ?_) ?_
  · go_simp
    have hS2 : Sn r W (some (b1)) none (some (b3)) (some (w.heap.size)) (w.alloc oH) := hS.lit4
    refine hK.out _ _ (by first | exact hS2 | exact hS2.less1 | exact hS2.less2 | exact hS2.less3 | exact hS2.less4) (fun _ => ?_)
    clear hK K
    refine wpAnyH_weak (S1 := Sn r W (some (b1)) none (some (b3)) (some (w.heap.size))) (fun _ h => h.less4) _ _ _ _ ?_
    exact st01011 hP hQ  (b1) (b3) (w.heap.size) _ hS2
  exact AllReadyH.nil
set_option maxHeartbeats 2000000 in
theorem st01100 {r : Nat} {W : World} {Q : Exit → Act → World → Prop} (hP : ∀ c (a : Act) d (v : Value) w, Q (.panic c) (a.put d v) w → Q (.panic c) a w) (hQ : ∀ (bx : Nat) (u6 u7 u8 u9 u10 u11 u12 u13 u14 u15 u16 u17 u18 u19 u20 u21 u22 u23 u24 u25 u26 u27 u28 u29 u30 u31 u32 : Value) (w : World), Fin r W bx w → Q .normal ⟨#[.pointer (some ⟨r, 0, none⟩), undef, .pointer (some ⟨W.heap.size, 0, none⟩), .pointer (some ⟨bx, 0, none⟩), undef, undef, u6, u7, u8, u9, u10, u11, u12, u13, u14, u15, u16, u17, u18, u19, u20, u21, u22, u23, u24, u25, u26, u27, u28, u29, u30, u31, u32, undef, undef, undef, undef, undef, undef, undef, undef, undef, undef], []⟩ w) (b1 : Nat) (b2 : Nat) (w : World) (hS : Sn r W (some (b1)) (some (b2)) none none w) : wpAnyH Tryd.prog .any OPS Q (Sn r W (some (b1)) (some (b2)) none none) 19 #[true, true, false, false, false, true, true, false, false, false, true, false, false, true, false, false, false, true, false, false, true, false, true, false, true, false, false, false, false] ⟨#[.pointer (some ⟨r, 0, none⟩), undef, .pointer (some ⟨W.heap.size, 0, none⟩), undef, undef, undef, .slice (some ⟨b1, 0, none⟩) 5 5, .pointer (some ⟨r, 0, none⟩), undef, undef, undef, .slice (some ⟨b2, 0, none⟩) 3 3, .pointer (some ⟨r, 0, none⟩), undef, undef, undef, .pointer (some ⟨r, 0, none⟩), undef, undef, .pointer (some ⟨r, 0, none⟩), undef, undef, undef, .pointer (some ⟨r, 0, none⟩), undef, undef, .pointer (some ⟨r, 0, none⟩), undef, .pointer (some ⟨r, 0, none⟩), undef, .pointer (some ⟨r, 0, none⟩), undef, undef, undef, undef, undef, undef, undef, undef, undef, undef, undef, undef], []⟩ w := by
  refine wpAnyH_ready (rs := [2, 12, 27]) (by kernel_rfl) (by simp) ?_
  refine AllReadyH.cons (o := { dst := some 8, op := Go.Op.call { callee := Go.Callee.value (Go.Operand.func 13), args := #[Go.Operand.tmp 7, Go.Operand.const (Go.Value.int Go.IntKind.i64 5)], argTypes := #[33, 3] }, type := 3, pos := "l04_bulletins.go:338", after := #[{ on := 1, ground := Go.Ground.data }], guard := none }) rfl (fun K hK => ?_) ?_
  · have rdw := hS.rd
    go_simp
    go_at_call 13
    refine (below_all r _ rdw 5 (by omega) (by omega)).mono ?_
    rintro e w1 ⟨⟨z1, hz, rfl⟩, k1, t1⟩
    obtain ⟨q1, hq, hcq⟩ := kind_of z1 hz.1 hz.2
    have h1 : H1 z1 q1 := ⟨hz, hq, hcq⟩
    clear hq hcq hz
    have hS2 := hS.turn t1 k1
    clear k1 t1 hS rdw
    go_wp2_with fail
    refine hK.out _ _ (by first | exact hS2 | exact hS2.less1 | exact hS2.less2 | exact hS2.less3 | exact hS2.less4) (fun _ => ?_)
    clear hK K
    refine wpAnyH_take (i := 3) (oi := { dst := some 9, op := Go.Op.indexAddr 37 (Go.Operand.tmp 6) (Go.Operand.tmp 8), type := 0, pos := "l04_bulletins.go:338", after := #[{ on := 0, ground := Go.Ground.data }, { on := 2, ground := Go.Ground.data }], guard := none }) (v := (.pointer (some ⟨b1, z1.toNat, none⟩))) rfl (by kernel_rfl) (by kernel_rfl) (by kernel_rfl) (fun c a w h => hP c a _ _ w h) (Or.inl ⟨by rfl, ?_⟩) (by assumption) ?_
    · intro w hSw; have g1 := h1.1.1; have g2 := h1.1.2; go_simp
    (try simp only [Act.put, List.setIfInBounds_toArray, List.set_cons_zero, List.set_cons_succ])
    refine wpAnyH_take (i := 4) (oi := { dst := some 10, op := Go.Op.load 9 (Go.Operand.tmp 9), type := 9, pos := "l04_bulletins.go:338", after := #[{ on := 3, ground := Go.Ground.data }], guard := none }) (v := (.string q1)) rfl (by kernel_rfl) (by kernel_rfl) (by kernel_rfl) (fun c a w h => hP c a _ _ w h) (Or.inl ⟨by rfl, ?_⟩) (by assumption) ?_
    · intro w hSw; have cc := blk_cell (hSw.l1 _ rfl).on h1.2.2; go_simp
    (try simp only [Act.put, List.setIfInBounds_toArray, List.set_cons_zero, List.set_cons_succ])
    exact st11100 hP hQ h1 (b1) (b2) _ hS2
  refine AllReadyH.cons (o := { dst := some 18, op := Go.Op.buildSlice 37 3 #[(0, Go.Operand.const (Go.Value.string { data := #[65, 77, 77, 67] })), (1, Go.Operand.const (Go.Value.string { data := #[69, 78, 77, 73] })), (2, Go.Operand.const (Go.Value.string { data := #[75, 49, 65, 65] }))], type := 37, pos := "l04_bulletins.go:338", after := #[], guard := none }) rfl (fun K hK => ?_) ?_
  · go_simp
    have hS2 : Sn r W (some (b1)) (some (b2)) (some (w.heap.size)) none (w.alloc oC) := hS.lit3
    refine hK.out _ _ (by first | exact hS2 | exact hS2.less1 | exact hS2.less2 | exact hS2.less3 | exact hS2.less4) (fun _ => ?_)
    clear hK K
    refine wpAnyH_weak (S1 := Sn r W (some (b1)) (some (b2)) (some (w.heap.size)) none) (fun _ h => h.less3) _ _ _ _ ?_
    exact st01110 hP hQ  (b1) (b2) (w.heap.size) _ hS2
  refine AllReadyH.cons (o := { dst := some 3, op := Go.Op.alloc 25, type := 0, pos := "l04_bulletins.go:338", after := #[], guard := none }) rfl (fun K hK => ?_) ?_
  · go_simp
    have hS2 : Sn r W (some (b1)) (some (b2)) none (some (w.heap.size)) (w.alloc oH) := hS.lit4
    refine hK.out _ _ (by first | exact hS2 | exact hS2.less1 | exact hS2.less2 | exact hS2.less3 | exact hS2.less4) (fun _ => ?_)
    clear hK K
    refine wpAnyH_weak (S1 := Sn r W (some (b1)) (some (b2)) none (some (w.heap.size))) (fun _ h => h.less4) _ _ _ _ ?_
    exact st01101 hP hQ  (b1) (b2) (w.heap.size) _ hS2
  exact AllReadyH.nil
set_option maxHeartbeats 2000000 in
theorem st00001 {r : Nat} {W : World} {Q : Exit → Act → World → Prop} (hP : ∀ c (a : Act) d (v : Value) w, Q (.panic c) (a.put d v) w → Q (.panic c) a w) (hQ : ∀ (bx : Nat) (u6 u7 u8 u9 u10 u11 u12 u13 u14 u15 u16 u17 u18 u19 u20 u21 u22 u23 u24 u25 u26 u27 u28 u29 u30 u31 u32 : Value) (w : World), Fin r W bx w → Q .normal ⟨#[.pointer (some ⟨r, 0, none⟩), undef, .pointer (some ⟨W.heap.size, 0, none⟩), .pointer (some ⟨bx, 0, none⟩), undef, undef, u6, u7, u8, u9, u10, u11, u12, u13, u14, u15, u16, u17, u18, u19, u20, u21, u22, u23, u24, u25, u26, u27, u28, u29, u30, u31, u32, undef, undef, undef, undef, undef, undef, undef, undef, undef, undef], []⟩ w) (b4 : Nat) (w : World) (hS : Sn r W none none none (some (b4)) w) : wpAnyH Tryd.prog .any OPS Q (Sn r W none none none (some (b4))) 20 #[false, true, false, false, false, false, true, false, false, false, true, false, false, true, false, false, false, true, false, false, true, false, true, false, true, false, false, true, false] ⟨#[.pointer (some ⟨r, 0, none⟩), undef, .pointer (some ⟨W.heap.size, 0, none⟩), .pointer (some ⟨b4, 0, none⟩), undef, undef, undef, .pointer (some ⟨r, 0, none⟩), undef, undef, undef, undef, .pointer (some ⟨r, 0, none⟩), undef, undef, undef, .pointer (some ⟨r, 0, none⟩), undef, undef, .pointer (some ⟨r, 0, none⟩), undef, undef, undef, .pointer (some ⟨r, 0, none⟩), undef, undef, .pointer (some ⟨r, 0, none⟩), undef, .pointer (some ⟨r, 0, none⟩), undef, .pointer (some ⟨r, 0, none⟩), undef, undef, undef, undef, undef, undef, undef, undef, undef, undef, undef, undef], []⟩ w := by
  refine wpAnyH_ready (rs := [0, 2, 5, 12]) (by kernel_rfl) (by simp) ?_
  refine AllReadyH.cons (o := { dst := some 6, op := Go.Op.buildSlice 37 5 #[(0, Go.Operand.const (Go.Value.string { data := #[83, 77] })), (1, Go.Operand.const (Go.Value.string { data := #[83, 73] })), (2, Go.Operand.const (Go.Value.string { data := #[85, 83] })), (3, Go.Operand.const (Go.Value.string { data := #[70, 84] })), (4, Go.Operand.const (Go.Value.string { data := #[87, 87] }))], type := 37, pos := "l04_bulletins.go:338", after := #[], guard := none }) rfl (fun K hK => ?_) ?_
  · go_simp
    have hS2 : Sn r W (some (w.heap.size)) none none (some (b4)) (w.alloc oK) := hS.lit1
    refine hK.out _ _ (by first | exact hS2 | exact hS2.less1 | exact hS2.less2 | exact hS2.less3 | exact hS2.less4) (fun _ => ?_)
    clear hK K
    refine wpAnyH_weak (S1 := Sn r W (some (w.heap.size)) none none (some (b4))) (fun _ h => h.less1) _ _ _ _ ?_
    exact st01001 hP hQ  (w.heap.size) (b4) _ hS2
  refine AllReadyH.cons (o := { dst := some 8, op := Go.Op.call { callee := Go.Callee.value (Go.Operand.func 13), args := #[Go.Operand.tmp 7, Go.Operand.const (Go.Value.int Go.IntKind.i64 5)], argTypes := #[33, 3] }, type := 3, pos := "l04_bulletins.go:338", after := #[{ on := 1, ground := Go.Ground.data }], guard := none }) rfl (fun K hK => ?_) ?_
  · have rdw := hS.rd
    go_simp
    go_at_call 13
    refine (below_all r _ rdw 5 (by omega) (by omega)).mono ?_
    rintro e w1 ⟨⟨z1, hz, rfl⟩, k1, t1⟩
    obtain ⟨q1, hq, hcq⟩ := kind_of z1 hz.1 hz.2
    have h1 : H1 z1 q1 := ⟨hz, hq, hcq⟩
    clear hq hcq hz
    have hS2 := hS.turn t1 k1
    clear k1 t1 hS rdw
    go_wp2_with fail
    refine hK.out _ _ (by first | exact hS2 | exact hS2.less1 | exact hS2.less2 | exact hS2.less3 | exact hS2.less4) (fun _ => ?_)
    clear hK K
    exact st10001 hP hQ h1 (b4) _ hS2
  refine AllReadyH.cons (o := { dst := some 11, op := Go.Op.buildSlice 37 3 #[(0, Go.Operand.const (Go.Value.string { data := #[68, 76] })), (1, Go.Operand.const (Go.Value.string { data := #[78, 79] })), (2, Go.Operand.const (Go.Value.string { data := #[88, 88] }))], type := 37, pos := "l04_bulletins.go:338", after := #[], guard := none }) rfl (fun K hK => ?_) ?_
  · go_simp
    have hS2 : Sn r W none (some (w.heap.size)) none (some (b4)) (w.alloc oA) := hS.lit2
    refine hK.out _ _ (by first | exact hS2 | exact hS2.less1 | exact hS2.less2 | exact hS2.less3 | exact hS2.less4) (fun _ => ?_)
    clear hK K
    refine wpAnyH_weak (S1 := Sn r W none (some (w.heap.size)) none (some (b4))) (fun _ h => h.less2) _ _ _ _ ?_
    exact st00101 hP hQ  (w.heap.size) (b4) _ hS2
  refine AllReadyH.cons (o := { dst := some 18, op := Go.Op.buildSlice 37 3 #[(0, Go.Operand.const (Go.Value.string { data := #[65, 77, 77, 67] })), (1, Go.Operand.const (Go.Value.string { data := #[69, 78, 77, 73] })), (2, Go.Operand.const (Go.Value.string { data := #[75, 49, 65, 65] }))], type := 37, pos := "l04_bulletins.go:338", after := #[], guard := none }) rfl (fun K hK => ?_) ?_
  · go_simp
    have hS2 : Sn r W none none (some (w.heap.size)) (some (b4)) (w.alloc oC) := hS.lit3
    refine hK.out _ _ (by first | exact hS2 | exact hS2.less1 | exact hS2.less2 | exact hS2.less3 | exact hS2.less4) (fun _ => ?_)
    clear hK K
    refine wpAnyH_weak (S1 := Sn r W none none (some (w.heap.size)) (some (b4))) (fun _ h => h.less3) _ _ _ _ ?_
    exact st00011 hP hQ  (w.heap.size) (b4) _ hS2
  exact AllReadyH.nil
set_option maxHeartbeats 2000000 in
theorem st00010 {r : Nat} {W : World} {Q : Exit → Act → World → Prop} (hP : ∀ c (a : Act) d (v : Value) w, Q (.panic c) (a.put d v) w → Q (.panic c) a w) (hQ : ∀ (bx : Nat) (u6 u7 u8 u9 u10 u11 u12 u13 u14 u15 u16 u17 u18 u19 u20 u21 u22 u23 u24 u25 u26 u27 u28 u29 u30 u31 u32 : Value) (w : World), Fin r W bx w → Q .normal ⟨#[.pointer (some ⟨r, 0, none⟩), undef, .pointer (some ⟨W.heap.size, 0, none⟩), .pointer (some ⟨bx, 0, none⟩), undef, undef, u6, u7, u8, u9, u10, u11, u12, u13, u14, u15, u16, u17, u18, u19, u20, u21, u22, u23, u24, u25, u26, u27, u28, u29, u30, u31, u32, undef, undef, undef, undef, undef, undef, undef, undef, undef, undef], []⟩ w) (b3 : Nat) (w : World) (hS : Sn r W none none (some (b3)) none w) : wpAnyH Tryd.prog .any OPS Q (Sn r W none none (some (b3)) none) 20 #[false, true, false, false, false, false, true, false, false, false, true, false, true, true, false, false, false, true, false, false, true, false, true, false, true, false, false, false, false] ⟨#[.pointer (some ⟨r, 0, none⟩), undef, .pointer (some ⟨W.heap.size, 0, none⟩), undef, undef, undef, undef, .pointer (some ⟨r, 0, none⟩), undef, undef, undef, undef, .pointer (some ⟨r, 0, none⟩), undef, undef, undef, .pointer (some ⟨r, 0, none⟩), undef, .slice (some ⟨b3, 0, none⟩) 3 3, .pointer (some ⟨r, 0, none⟩), undef, undef, undef, .pointer (some ⟨r, 0, none⟩), undef, undef, .pointer (some ⟨r, 0, none⟩), undef, .pointer (some ⟨r, 0, none⟩), undef, .pointer (some ⟨r, 0, none⟩), undef, undef, undef, undef, undef, undef, undef, undef, undef, undef, undef, undef], []⟩ w := by
  refine wpAnyH_ready (rs := [0, 2, 5, 27]) (by kernel_rfl) (by simp) ?_
  refine AllReadyH.cons (o := { dst := some 6, op := Go.Op.buildSlice 37 5 #[(0, Go.Operand.const (Go.Value.string { data := #[83, 77] })), (1, Go.Operand.const (Go.Value.string { data := #[83, 73] })), (2, Go.Operand.const (Go.Value.string { data := #[85, 83] })), (3, Go.Operand.const (Go.Value.string { data := #[70, 84] })), (4, Go.Operand.const (Go.Value.string { data := #[87, 87] }))], type := 37, pos := "l04_bulletins.go:338", after := #[], guard := none }) rfl (fun K hK => ?_) ?_
  · go_simp
    have hS2 : Sn r W (some (w.heap.size)) none (some (b3)) none (w.alloc oK) := hS.lit1
    refine hK.out _ _ (by first | exact hS2 | exact hS2.less1 | exact hS2.less2 | exact hS2.less3 | exact hS2.less4) (fun _ => ?_)
    clear hK K
    refine wpAnyH_weak (S1 := Sn r W (some (w.heap.size)) none (some (b3)) none) (fun _ h => h.less1) _ _ _ _ ?_
    exact st01010 hP hQ  (w.heap.size) (b3) _ hS2
  refine AllReadyH.cons (o := { dst := some 8, op := Go.Op.call { callee := Go.Callee.value (Go.Operand.func 13), args := #[Go.Operand.tmp 7, Go.Operand.const (Go.Value.int Go.IntKind.i64 5)], argTypes := #[33, 3] }, type := 3, pos := "l04_bulletins.go:338", after := #[{ on := 1, ground := Go.Ground.data }], guard := none }) rfl (fun K hK => ?_) ?_
  · have rdw := hS.rd
    go_simp
    go_at_call 13
    refine (below_all r _ rdw 5 (by omega) (by omega)).mono ?_
    rintro e w1 ⟨⟨z1, hz, rfl⟩, k1, t1⟩
    obtain ⟨q1, hq, hcq⟩ := kind_of z1 hz.1 hz.2
    have h1 : H1 z1 q1 := ⟨hz, hq, hcq⟩
    clear hq hcq hz
    have hS2 := hS.turn t1 k1
    clear k1 t1 hS rdw
    go_wp2_with fail
    refine hK.out _ _ (by first | exact hS2 | exact hS2.less1 | exact hS2.less2 | exact hS2.less3 | exact hS2.less4) (fun _ => ?_)
    clear hK K
    exact st10010 hP hQ h1 (b3) _ hS2
  refine AllReadyH.cons (o := { dst := some 11, op := Go.Op.buildSlice 37 3 #[(0, Go.Operand.const (Go.Value.string { data := #[68, 76] })), (1, Go.Operand.const (Go.Value.string { data := #[78, 79] })), (2, Go.Operand.const (Go.Value.string { data := #[88, 88] }))], type := 37, pos := "l04_bulletins.go:338", after := #[], guard := none }) rfl (fun K hK => ?_) ?_
  · go_simp
    have hS2 : Sn r W none (some (w.heap.size)) (some (b3)) none (w.alloc oA) := hS.lit2
    refine hK.out _ _ (by first | exact hS2 | exact hS2.less1 | exact hS2.less2 | exact hS2.less3 | exact hS2.less4) (fun _ => ?_)
    clear hK K
    refine wpAnyH_weak (S1 := Sn r W none (some (w.heap.size)) (some (b3)) none) (fun _ h => h.less2) _ _ _ _ ?_
    exact st00110 hP hQ  (w.heap.size) (b3) _ hS2
  refine AllReadyH.cons (o := { dst := some 3, op := Go.Op.alloc 25, type := 0, pos := "l04_bulletins.go:338", after := #[], guard := none }) rfl (fun K hK => ?_) ?_
  · go_simp
    have hS2 : Sn r W none none (some (b3)) (some (w.heap.size)) (w.alloc oH) := hS.lit4
    refine hK.out _ _ (by first | exact hS2 | exact hS2.less1 | exact hS2.less2 | exact hS2.less3 | exact hS2.less4) (fun _ => ?_)
    clear hK K
    refine wpAnyH_weak (S1 := Sn r W none none (some (b3)) (some (w.heap.size))) (fun _ h => h.less4) _ _ _ _ ?_
    exact st00011 hP hQ  (b3) (w.heap.size) _ hS2
  exact AllReadyH.nil
set_option maxHeartbeats 2000000 in
theorem st00100 {r : Nat} {W : World} {Q : Exit → Act → World → Prop} (hP : ∀ c (a : Act) d (v : Value) w, Q (.panic c) (a.put d v) w → Q (.panic c) a w) (hQ : ∀ (bx : Nat) (u6 u7 u8 u9 u10 u11 u12 u13 u14 u15 u16 u17 u18 u19 u20 u21 u22 u23 u24 u25 u26 u27 u28 u29 u30 u31 u32 : Value) (w : World), Fin r W bx w → Q .normal ⟨#[.pointer (some ⟨r, 0, none⟩), undef, .pointer (some ⟨W.heap.size, 0, none⟩), .pointer (some ⟨bx, 0, none⟩), undef, undef, u6, u7, u8, u9, u10, u11, u12, u13, u14, u15, u16, u17, u18, u19, u20, u21, u22, u23, u24, u25, u26, u27, u28, u29, u30, u31, u32, undef, undef, undef, undef, undef, undef, undef, undef, undef, undef], []⟩ w) (b2 : Nat) (w : World) (hS : Sn r W none (some (b2)) none none w) : wpAnyH Tryd.prog .any OPS Q (Sn r W none (some (b2)) none none) 20 #[false, true, false, false, false, true, true, false, false, false, true, false, false, true, false, false, false, true, false, false, true, false, true, false, true, false, false, false, false] ⟨#[.pointer (some ⟨r, 0, none⟩), undef, .pointer (some ⟨W.heap.size, 0, none⟩), undef, undef, undef, undef, .pointer (some ⟨r, 0, none⟩), undef, undef, undef, .slice (some ⟨b2, 0, none⟩) 3 3, .pointer (some ⟨r, 0, none⟩), undef, undef, undef, .pointer (some ⟨r, 0, none⟩), undef, undef, .pointer (some ⟨r, 0, none⟩), undef, undef, undef, .pointer (some ⟨r, 0, none⟩), undef, undef, .pointer (some ⟨r, 0, none⟩), undef, .pointer (some ⟨r, 0, none⟩), undef, .pointer (some ⟨r, 0, none⟩), undef, undef, undef, undef, undef, undef, undef, undef, undef, undef, undef, undef], []⟩ w := by
  refine wpAnyH_ready (rs := [0, 2, 12, 27]) (by kernel_rfl) (by simp) ?_
  refine AllReadyH.cons (o := { dst := some 6, op := Go.Op.buildSlice 37 5 #[(0, Go.Operand.const (Go.Value.string { data := #[83, 77] })), (1, Go.Operand.const (Go.Value.string { data := #[83, 73] })), (2, Go.Operand.const (Go.Value.string { data := #[85, 83] })), (3, Go.Operand.const (Go.Value.string { data := #[70, 84] })), (4, Go.Operand.const (Go.Value.string { data := #[87, 87] }))], type := 37, pos := "l04_bulletins.go:338", after := #[], guard := none }) rfl (fun K hK => ?_) ?_
  · go_simp
    have hS2 : Sn r W (some (w.heap.size)) (some (b2)) none none (w.alloc oK) := hS.lit1
    refine hK.out _ _ (by first | exact hS2 | exact hS2.less1 | exact hS2.less2 | exact hS2.less3 | exact hS2.less4) (fun _ => ?_)
    clear hK K
    refine wpAnyH_weak (S1 := Sn r W (some (w.heap.size)) (some (b2)) none none) (fun _ h => h.less1) _ _ _ _ ?_
    exact st01100 hP hQ  (w.heap.size) (b2) _ hS2
  refine AllReadyH.cons (o := { dst := some 8, op := Go.Op.call { callee := Go.Callee.value (Go.Operand.func 13), args := #[Go.Operand.tmp 7, Go.Operand.const (Go.Value.int Go.IntKind.i64 5)], argTypes := #[33, 3] }, type := 3, pos := "l04_bulletins.go:338", after := #[{ on := 1, ground := Go.Ground.data }], guard := none }) rfl (fun K hK => ?_) ?_
  · have rdw := hS.rd
    go_simp
    go_at_call 13
    refine (below_all r _ rdw 5 (by omega) (by omega)).mono ?_
    rintro e w1 ⟨⟨z1, hz, rfl⟩, k1, t1⟩
    obtain ⟨q1, hq, hcq⟩ := kind_of z1 hz.1 hz.2
    have h1 : H1 z1 q1 := ⟨hz, hq, hcq⟩
    clear hq hcq hz
    have hS2 := hS.turn t1 k1
    clear k1 t1 hS rdw
    go_wp2_with fail
    refine hK.out _ _ (by first | exact hS2 | exact hS2.less1 | exact hS2.less2 | exact hS2.less3 | exact hS2.less4) (fun _ => ?_)
    clear hK K
    exact st10100 hP hQ h1 (b2) _ hS2
  refine AllReadyH.cons (o := { dst := some 18, op := Go.Op.buildSlice 37 3 #[(0, Go.Operand.const (Go.Value.string { data := #[65, 77, 77, 67] })), (1, Go.Operand.const (Go.Value.string { data := #[69, 78, 77, 73] })), (2, Go.Operand.const (Go.Value.string { data := #[75, 49, 65, 65] }))], type := 37, pos := "l04_bulletins.go:338", after := #[], guard := none }) rfl (fun K hK => ?_) ?_
  · go_simp
    have hS2 : Sn r W none (some (b2)) (some (w.heap.size)) none (w.alloc oC) := hS.lit3
    refine hK.out _ _ (by first | exact hS2 | exact hS2.less1 | exact hS2.less2 | exact hS2.less3 | exact hS2.less4) (fun _ => ?_)
    clear hK K
    refine wpAnyH_weak (S1 := Sn r W none (some (b2)) (some (w.heap.size)) none) (fun _ h => h.less3) _ _ _ _ ?_
    exact st00110 hP hQ  (b2) (w.heap.size) _ hS2
  refine AllReadyH.cons (o := { dst := some 3, op := Go.Op.alloc 25, type := 0, pos := "l04_bulletins.go:338", after := #[], guard := none }) rfl (fun K hK => ?_) ?_
  · go_simp
    have hS2 : Sn r W none (some (b2)) none (some (w.heap.size)) (w.alloc oH) := hS.lit4
    refine hK.out _ _ (by first | exact hS2 | exact hS2.less1 | exact hS2.less2 | exact hS2.less3 | exact hS2.less4) (fun _ => ?_)
    clear hK K
    refine wpAnyH_weak (S1 := Sn r W none (some (b2)) none (some (w.heap.size))) (fun _ h => h.less4) _ _ _ _ ?_
    exact st00101 hP hQ  (b2) (w.heap.size) _ hS2
  exact AllReadyH.nil
set_option maxHeartbeats 2000000 in
theorem st01000 {r : Nat} {W : World} {Q : Exit → Act → World → Prop} (hP : ∀ c (a : Act) d (v : Value) w, Q (.panic c) (a.put d v) w → Q (.panic c) a w) (hQ : ∀ (bx : Nat) (u6 u7 u8 u9 u10 u11 u12 u13 u14 u15 u16 u17 u18 u19 u20 u21 u22 u23 u24 u25 u26 u27 u28 u29 u30 u31 u32 : Value) (w : World), Fin r W bx w → Q .normal ⟨#[.pointer (some ⟨r, 0, none⟩), undef, .pointer (some ⟨W.heap.size, 0, none⟩), .pointer (some ⟨bx, 0, none⟩), undef, undef, u6, u7, u8, u9, u10, u11, u12, u13, u14, u15, u16, u17, u18, u19, u20, u21, u22, u23, u24, u25, u26, u27, u28, u29, u30, u31, u32, undef, undef, undef, undef, undef, undef, undef, undef, undef, undef], []⟩ w) (b1 : Nat) (w : World) (hS : Sn r W (some (b1)) none none none w) : wpAnyH Tryd.prog .any OPS Q (Sn r W (some (b1)) none none none) 20 #[true, true, false, false, false, false, true, false, false, false, true, false, false, true, false, false, false, true, false, false, true, false, true, false, true, false, false, false, false] ⟨#[.pointer (some ⟨r, 0, none⟩), undef, .pointer (some ⟨W.heap.size, 0, none⟩), undef, undef, undef, .slice (some ⟨b1, 0, none⟩) 5 5, .pointer (some ⟨r, 0, none⟩), undef, undef, undef, undef, .pointer (some ⟨r, 0, none⟩), undef, undef, undef, .pointer (some ⟨r, 0, none⟩), undef, undef, .pointer (some ⟨r, 0, none⟩), undef, undef, undef, .pointer (some ⟨r, 0, none⟩), undef, undef, .pointer (some ⟨r, 0, none⟩), undef, .pointer (some ⟨r, 0, none⟩), undef, .pointer (some ⟨r, 0, none⟩), undef, undef, undef, undef, undef, undef, undef, undef, undef, undef, undef, undef], []⟩ w := by
  refine wpAnyH_ready (rs := [2, 5, 12, 27]) (by kernel_rfl) (by simp) ?_
  refine AllReadyH.cons (o := { dst := some 8, op := Go.Op.call { callee := Go.Callee.value (Go.Operand.func 13), args := #[Go.Operand.tmp 7, Go.Operand.const (Go.Value.int Go.IntKind.i64 5)], argTypes := #[33, 3] }, type := 3, pos := "l04_bulletins.go:338", after := #[{ on := 1, ground := Go.Ground.data }], guard := none }) rfl (fun K hK => ?_) ?_
  · have rdw := hS.rd
    go_simp
    go_at_call 13
    refine (below_all r _ rdw 5 (by omega) (by omega)).mono ?_
    rintro e w1 ⟨⟨z1, hz, rfl⟩, k1, t1⟩
    obtain ⟨q1, hq, hcq⟩ := kind_of z1 hz.1 hz.2
    have h1 : H1 z1 q1 := ⟨hz, hq, hcq⟩
    clear hq hcq hz
    have hS2 := hS.turn t1 k1
    clear k1 t1 hS rdw
    go_wp2_with fail
    refine hK.out _ _ (by first | exact hS2 | exact hS2.less1 | exact hS2.less2 | exact hS2.less3 | exact hS2.less4) (fun _ => ?_)
    clear hK K
    refine wpAnyH_take (i := 3) (oi := { dst := some 9, op := Go.Op.indexAddr 37 (Go.Operand.tmp 6) (Go.Operand.tmp 8), type := 0, pos := "l04_bulletins.go:338", after := #[{ on := 0, ground := Go.Ground.data }, { on := 2, ground := Go.Ground.data }], guard := none }) (v := (.pointer (some ⟨b1, z1.toNat, none⟩))) rfl (by kernel_rfl) (by kernel_rfl) (by kernel_rfl) (fun c a w h => hP c a _ _ w h) (Or.inl ⟨by rfl, ?_⟩) (by assumption) ?_
    · intro w hSw; have g1 := h1.1.1; have g2 := h1.1.2; go_simp
    (try simp only [Act.put, List.setIfInBounds_toArray, List.set_cons_zero, List.set_cons_succ])
    refine wpAnyH_take (i := 4) (oi := { dst := some 10, op := Go.Op.load 9 (Go.Operand.tmp 9), type := 9, pos := "l04_bulletins.go:338", after := #[{ on := 3, ground := Go.Ground.data }], guard := none }) (v := (.string q1)) rfl (by kernel_rfl) (by kernel_rfl) (by kernel_rfl) (fun c a w h => hP c a _ _ w h) (Or.inl ⟨by rfl, ?_⟩) (by assumption) ?_
    · intro w hSw; have cc := blk_cell (hSw.l1 _ rfl).on h1.2.2; go_simp
    (try simp only [Act.put, List.setIfInBounds_toArray, List.set_cons_zero, List.set_cons_succ])
    exact st11000 hP hQ h1 (b1) _ hS2
  refine AllReadyH.cons (o := { dst := some 11, op := Go.Op.buildSlice 37 3 #[(0, Go.Operand.const (Go.Value.string { data := #[68, 76] })), (1, Go.Operand.const (Go.Value.string { data := #[78, 79] })), (2, Go.Operand.const (Go.Value.string { data := #[88, 88] }))], type := 37, pos := "l04_bulletins.go:338", after := #[], guard := none }) rfl (fun K hK => ?_) ?_
  · go_simp
    have hS2 : Sn r W (some (b1)) (some (w.heap.size)) none none (w.alloc oA) := hS.lit2
    refine hK.out _ _ (by first | exact hS2 | exact hS2.less1 | exact hS2.less2 | exact hS2.less3 | exact hS2.less4) (fun _ => ?_)
    clear hK K
    refine wpAnyH_weak (S1 := Sn r W (some (b1)) (some (w.heap.size)) none none) (fun _ h => h.less2) _ _ _ _ ?_
    exact st01100 hP hQ  (b1) (w.heap.size) _ hS2
  refine AllReadyH.cons (o := { dst := some 18, op := Go.Op.buildSlice 37 3 #[(0, Go.Operand.const (Go.Value.string { data := #[65, 77, 77, 67] })), (1, Go.Operand.const (Go.Value.string { data := #[69, 78, 77, 73] })), (2, Go.Operand.const (Go.Value.string { data := #[75, 49, 65, 65] }))], type := 37, pos := "l04_bulletins.go:338", after := #[], guard := none }) rfl (fun K hK => ?_) ?_
  · go_simp
    have hS2 : Sn r W (some (b1)) none (some (w.heap.size)) none (w.alloc oC) := hS.lit3
    refine hK.out _ _ (by first | exact hS2 | exact hS2.less1 | exact hS2.less2 | exact hS2.less3 | exact hS2.less4) (fun _ => ?_)
    clear hK K
    refine wpAnyH_weak (S1 := Sn r W (some (b1)) none (some (w.heap.size)) none) (fun _ h => h.less3) _ _ _ _ ?_
    exact st01010 hP hQ  (b1) (w.heap.size) _ hS2
  refine AllReadyH.cons (o := { dst := some 3, op := Go.Op.alloc 25, type := 0, pos := "l04_bulletins.go:338", after := #[], guard := none }) rfl (fun K hK => ?_) ?_
  · go_simp
    have hS2 : Sn r W (some (b1)) none none (some (w.heap.size)) (w.alloc oH) := hS.lit4
    refine hK.out _ _ (by first | exact hS2 | exact hS2.less1 | exact hS2.less2 | exact hS2.less3 | exact hS2.less4) (fun _ => ?_)
    clear hK K
    refine wpAnyH_weak (S1 := Sn r W (some (b1)) none none (some (w.heap.size))) (fun _ h => h.less4) _ _ _ _ ?_
    exact st01001 hP hQ  (b1) (w.heap.size) _ hS2
  exact AllReadyH.nil
set_option maxHeartbeats 2000000 in
theorem st00000 {r : Nat} {W : World} {Q : Exit → Act → World → Prop} (hP : ∀ c (a : Act) d (v : Value) w, Q (.panic c) (a.put d v) w → Q (.panic c) a w) (hQ : ∀ (bx : Nat) (u6 u7 u8 u9 u10 u11 u12 u13 u14 u15 u16 u17 u18 u19 u20 u21 u22 u23 u24 u25 u26 u27 u28 u29 u30 u31 u32 : Value) (w : World), Fin r W bx w → Q .normal ⟨#[.pointer (some ⟨r, 0, none⟩), undef, .pointer (some ⟨W.heap.size, 0, none⟩), .pointer (some ⟨bx, 0, none⟩), undef, undef, u6, u7, u8, u9, u10, u11, u12, u13, u14, u15, u16, u17, u18, u19, u20, u21, u22, u23, u24, u25, u26, u27, u28, u29, u30, u31, u32, undef, undef, undef, undef, undef, undef, undef, undef, undef, undef], []⟩ w) (w : World) (hS : Sn r W none none none none w) : wpAnyH Tryd.prog .any OPS Q (Sn r W none none none none) 21 #[false, true, false, false, false, false, true, false, false, false, true, false, false, true, false, false, false, true, false, false, true, false, true, false, true, false, false, false, false] ⟨#[.pointer (some ⟨r, 0, none⟩), undef, .pointer (some ⟨W.heap.size, 0, none⟩), undef, undef, undef, undef, .pointer (some ⟨r, 0, none⟩), undef, undef, undef, undef, .pointer (some ⟨r, 0, none⟩), undef, undef, undef, .pointer (some ⟨r, 0, none⟩), undef, undef, .pointer (some ⟨r, 0, none⟩), undef, undef, undef, .pointer (some ⟨r, 0, none⟩), undef, undef, .pointer (some ⟨r, 0, none⟩), undef, .pointer (some ⟨r, 0, none⟩), undef, .pointer (some ⟨r, 0, none⟩), undef, undef, undef, undef, undef, undef, undef, undef, undef, undef, undef, undef], []⟩ w := by
  refine wpAnyH_ready (rs := [0, 2, 5, 12, 27]) (by kernel_rfl) (by simp) ?_
  refine AllReadyH.cons (o := { dst := some 6, op := Go.Op.buildSlice 37 5 #[(0, Go.Operand.const (Go.Value.string { data := #[83, 77] })), (1, Go.Operand.const (Go.Value.string { data := #[83, 73] })), (2, Go.Operand.const (Go.Value.string { data := #[85, 83] })), (3, Go.Operand.const (Go.Value.string { data := #[70, 84] })), (4, Go.Operand.const (Go.Value.string { data := #[87, 87] }))], type := 37, pos := "l04_bulletins.go:338", after := #[], guard := none }) rfl (fun K hK => ?_) ?_
  · go_simp
    have hS2 : Sn r W (some (w.heap.size)) none none none (w.alloc oK) := hS.lit1
    refine hK.out _ _ (by first | exact hS2 | exact hS2.less1 | exact hS2.less2 | exact hS2.less3 | exact hS2.less4) (fun _ => ?_)
    clear hK K
    refine wpAnyH_weak (S1 := Sn r W (some (w.heap.size)) none none none) (fun _ h => h.less1) _ _ _ _ ?_
    exact st01000 hP hQ  (w.heap.size) _ hS2
  refine AllReadyH.cons (o := { dst := some 8, op := Go.Op.call { callee := Go.Callee.value (Go.Operand.func 13), args := #[Go.Operand.tmp 7, Go.Operand.const (Go.Value.int Go.IntKind.i64 5)], argTypes := #[33, 3] }, type := 3, pos := "l04_bulletins.go:338", after := #[{ on := 1, ground := Go.Ground.data }], guard := none }) rfl (fun K hK => ?_) ?_
  · have rdw := hS.rd
    go_simp
    go_at_call 13
    refine (below_all r _ rdw 5 (by omega) (by omega)).mono ?_
    rintro e w1 ⟨⟨z1, hz, rfl⟩, k1, t1⟩
    obtain ⟨q1, hq, hcq⟩ := kind_of z1 hz.1 hz.2
    have h1 : H1 z1 q1 := ⟨hz, hq, hcq⟩
    clear hq hcq hz
    have hS2 := hS.turn t1 k1
    clear k1 t1 hS rdw
    go_wp2_with fail
    refine hK.out _ _ (by first | exact hS2 | exact hS2.less1 | exact hS2.less2 | exact hS2.less3 | exact hS2.less4) (fun _ => ?_)
    clear hK K
    exact st10000 hP hQ h1 _ hS2
  refine AllReadyH.cons (o := { dst := some 11, op := Go.Op.buildSlice 37 3 #[(0, Go.Operand.const (Go.Value.string { data := #[68, 76] })), (1, Go.Operand.const (Go.Value.string { data := #[78, 79] })), (2, Go.Operand.const (Go.Value.string { data := #[88, 88] }))], type := 37, pos := "l04_bulletins.go:338", after := #[], guard := none }) rfl (fun K hK => ?_) ?_
  · go_simp
    have hS2 : Sn r W none (some (w.heap.size)) none none (w.alloc oA) := hS.lit2
    refine hK.out _ _ (by first | exact hS2 | exact hS2.less1 | exact hS2.less2 | exact hS2.less3 | exact hS2.less4) (fun _ => ?_)
    clear hK K
    refine wpAnyH_weak (S1 := Sn r W none (some (w.heap.size)) none none) (fun _ h => h.less2) _ _ _ _ ?_
    exact st00100 hP hQ  (w.heap.size) _ hS2
  refine AllReadyH.cons (o := { dst := some 18, op := Go.Op.buildSlice 37 3 #[(0, Go.Operand.const (Go.Value.string { data := #[65, 77, 77, 67] })), (1, Go.Operand.const (Go.Value.string { data := #[69, 78, 77, 73] })), (2, Go.Operand.const (Go.Value.string { data := #[75, 49, 65, 65] }))], type := 37, pos := "l04_bulletins.go:338", after := #[], guard := none }) rfl (fun K hK => ?_) ?_
  · go_simp
    have hS2 : Sn r W none none (some (w.heap.size)) none (w.alloc oC) := hS.lit3
    refine hK.out _ _ (by first | exact hS2 | exact hS2.less1 | exact hS2.less2 | exact hS2.less3 | exact hS2.less4) (fun _ => ?_)
    clear hK K
    refine wpAnyH_weak (S1 := Sn r W none none (some (w.heap.size)) none) (fun _ h => h.less3) _ _ _ _ ?_
    exact st00010 hP hQ  (w.heap.size) _ hS2
  refine AllReadyH.cons (o := { dst := some 3, op := Go.Op.alloc 25, type := 0, pos := "l04_bulletins.go:338", after := #[], guard := none }) rfl (fun K hK => ?_) ?_
  · go_simp
    have hS2 : Sn r W none none none (some (w.heap.size)) (w.alloc oH) := hS.lit4
    refine hK.out _ _ (by first | exact hS2 | exact hS2.less1 | exact hS2.less2 | exact hS2.less3 | exact hS2.less4) (fun _ => ?_)
    clear hK K
    refine wpAnyH_weak (S1 := Sn r W none none none (some (w.heap.size))) (fun _ h => h.less4) _ _ _ _ ?_
    exact st00001 hP hQ  (w.heap.size) _ hS2
  exact AllReadyH.nil
end Go.Proofs.YtepofpmdkphhdaaDoor.Hd
