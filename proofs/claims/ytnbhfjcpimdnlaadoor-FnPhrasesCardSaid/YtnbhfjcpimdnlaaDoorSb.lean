/- A text, a phrase or not, drawn of a code. -/
import Derived.Test.YtnbhfjcpimdnlaaDoorSa
namespace Go.Proofs.YtnbhfjcpimdnlaaDoor.Ph
open Go.ChangeShapes Go.WideShapes Go.ChangeAt Go.RowKit
open Go.Proofs.YtnbhfjcpimdnlaaDoor.Rd (Turn Rd Drawn below_any once_any below_all open_any)
theorem wpAnyH_weak {P : Program} {md : Region.Mode} {ops : Array Oper} {Q : Exit → Act → World → Prop} {S1 S : World → Prop} (h : ∀ w, S1 w → S w) : ∀ (fuel : Nat) (listed : Array Bool) (a : Act) (w : World), wpAnyH P md ops Q S1 fuel listed a w → wpAnyH P md ops Q S fuel listed a w
  | 0, _, _, _, H => H
  | fuel + 1, _, _, _, H => ⟨H.1, fun i hi => wpOp_mono (fun a' w' h' => ⟨h _ h'.1, wpAnyH_weak h fuel _ a' w' h'.2⟩) (H.2 i hi)⟩
theorem blk_cell {w : World} {b i : Nat} {l : List Value} {t : TypeId} {v : Value} (h : w.heap[b]? = some (.cells l.toArray t)) (hl : l[i]? = some v) : w.cell? ⟨b, i, none⟩ = some v := by
  simp [World.cell?, h, hl]
abbrev OPR : Array Oper := #[{ dst := some 23, op := Go.Op.move (Go.Operand.tmp 6), type := 9, pos := "l23_tongues.go:165", after := #[], guard := none }, { dst := some 24, op := Go.Op.move (Go.Operand.tmp 7), type := 3, pos := "l23_tongues.go:165", after := #[], guard := none }, { dst := some 25, op := Go.Op.slice 9 (Go.Operand.tmp 23) none (some (Go.Operand.tmp 24)) none, type := 9, pos := "l23_tongues.go:165", after := #[{ on := 0, ground := Go.Ground.data }, { on := 1, ground := Go.Ground.data }], guard := none }, { dst := some 26, op := Go.Op.buildSlice 59 6 #[(0, Go.Operand.const (Go.Value.string { data := #[48] })), (1, Go.Operand.const (Go.Value.string { data := #[32] })), (2, Go.Operand.const (Go.Value.string { data := #[49] })), (3, Go.Operand.const (Go.Value.string { data := #[46] })), (4, Go.Operand.const (Go.Value.string { data := #[115] })), (5, Go.Operand.const (Go.Value.string { data := #[] }))], type := 59, pos := "l23_tongues.go:165", after := #[], guard := none }, { dst := some 27, op := Go.Op.move (Go.Operand.tmp 4), type := 51, pos := "l23_tongues.go:165", after := #[], guard := none }, { dst := some 28, op := Go.Op.call { callee := Go.Callee.value (Go.Operand.func 25), args := #[Go.Operand.tmp 27, Go.Operand.const (Go.Value.int Go.IntKind.i64 6)], argTypes := #[51, 3] }, type := 3, pos := "l23_tongues.go:165", after := #[{ on := 4, ground := Go.Ground.data }], guard := none }, { dst := some 29, op := Go.Op.indexAddr 59 (Go.Operand.tmp 26) (Go.Operand.tmp 28), type := 0, pos := "l23_tongues.go:165", after := #[{ on := 3, ground := Go.Ground.data }, { on := 5, ground := Go.Ground.data }], guard := none }, { dst := some 30, op := Go.Op.load 9 (Go.Operand.tmp 29), type := 9, pos := "l23_tongues.go:165", after := #[{ on := 6, ground := Go.Ground.data }], guard := none }, { dst := some 31, op := Go.Op.binOp Go.BinOp.add 9 (Go.Operand.tmp 25) (Go.Operand.tmp 30) 9, type := 9, pos := "l23_tongues.go:165", after := #[{ on := 2, ground := Go.Ground.data }, { on := 7, ground := Go.Ground.data }], guard := none }, { dst := some 32, op := Go.Op.move (Go.Operand.tmp 6), type := 9, pos := "l23_tongues.go:165", after := #[], guard := none }, { dst := some 33, op := Go.Op.move (Go.Operand.tmp 7), type := 3, pos := "l23_tongues.go:165", after := #[], guard := none }, { dst := some 34, op := Go.Op.move (Go.Operand.tmp 4), type := 51, pos := "l23_tongues.go:165", after := #[], guard := none }, { dst := some 35, op := Go.Op.call { callee := Go.Callee.value (Go.Operand.func 25), args := #[Go.Operand.tmp 34, Go.Operand.const (Go.Value.int Go.IntKind.i64 2)], argTypes := #[51, 3] }, type := 3, pos := "l23_tongues.go:165", after := #[{ on := 11, ground := Go.Ground.data }, { on := 5, ground := Go.Ground.chain }], guard := none }, { dst := some 36, op := Go.Op.binOp Go.BinOp.add 3 (Go.Operand.tmp 33) (Go.Operand.tmp 35) 3, type := 3, pos := "l23_tongues.go:165", after := #[{ on := 10, ground := Go.Ground.data }, { on := 12, ground := Go.Ground.data }], guard := none }, { dst := some 37, op := Go.Op.slice 9 (Go.Operand.tmp 32) (some (Go.Operand.tmp 36)) none none, type := 9, pos := "l23_tongues.go:165", after := #[{ on := 9, ground := Go.Ground.data }, { on := 13, ground := Go.Ground.data }], guard := none }, { dst := some 38, op := Go.Op.binOp Go.BinOp.add 9 (Go.Operand.tmp 31) (Go.Operand.tmp 37) 9, type := 9, pos := "l23_tongues.go:165", after := #[{ on := 8, ground := Go.Ground.data }, { on := 14, ground := Go.Ground.data }], guard := none }, { dst := some 6, op := Go.Op.assign (Go.Operand.tmp 38), type := 9, pos := "l23_tongues.go:165", after := #[{ on := 15, ground := Go.Ground.data }, { on := 12, ground := Go.Ground.chain }, { on := 0, ground := Go.Ground.phase }, { on := 1, ground := Go.Ground.phase }, { on := 2, ground := Go.Ground.phase }, { on := 3, ground := Go.Ground.phase }, { on := 4, ground := Go.Ground.phase }, { on := 5, ground := Go.Ground.phase }, { on := 6, ground := Go.Ground.phase }, { on := 7, ground := Go.Ground.phase }, { on := 8, ground := Go.Ground.phase }, { on := 9, ground := Go.Ground.phase }, { on := 10, ground := Go.Ground.phase }, { on := 11, ground := Go.Ground.phase }, { on := 12, ground := Go.Ground.phase }, { on := 13, ground := Go.Ground.phase }, { on := 14, ground := Go.Ground.phase }, { on := 15, ground := Go.Ground.phase }], guard := none }]
abbrev WP : List Value := [.string ⟨#[48]⟩, .string ⟨#[32]⟩, .string ⟨#[49]⟩, .string ⟨#[46]⟩, .string ⟨#[115]⟩, .string ⟨#[]⟩]
abbrev oP : Obj := .cells #[.string ⟨#[48]⟩, .string ⟨#[32]⟩, .string ⟨#[49]⟩, .string ⟨#[46]⟩, .string ⟨#[115]⟩, .string ⟨#[]⟩] 9
def G1 (z : Int) (q : ByteArray) : Prop := (0 ≤ z ∧ z < 6) ∧ q.size ≤ 2 ∧ WP[z.toNat]? = some (.string q)
theorem piece_of (z : Int) (h0 : 0 ≤ z) (h1 : z < 6) : ∃ q : ByteArray, q.size ≤ 2 ∧ WP[z.toNat]? = some (.string q) := by
  have : z = 0 ∨ z = 1 ∨ z = 2 ∨ z = 3 ∨ z = 4 ∨ z = 5 := by omega
  rcases this with rfl | rfl | rfl | rfl | rfl | rfl
  all_goals exact ⟨_, by decide, rfl⟩
theorem ext_le (s : ByteArray) (a b : Nat) : (s.extract a b).size ≤ s.size := by rw [ByteArray.size_extract]; omega
structure LP (r : Nat) (wx : World) (b : Nat) : Prop where
  on : wx.heap[b]? = some oP
  hb : b ≠ r
structure Gn (r : Nat) (W : World) (o1 : Option Nat) (w : World) : Prop where
  rd : Rd r w
  tn : Turn r W w
  l1 : ∀ b, o1 = some b → LP r w b
  lt : r < W.heap.size
theorem Gn.turn {r : Nat} {W w w' : World} {o1 : Option Nat} (h : Gn r W o1 w) (t : Turn r w w') (k : Rd r w') : Gn r W o1 w' := ⟨k, h.tn.trans t, fun b e => ⟨blk_turn (h.l1 b e).on t (h.l1 b e).hb, (h.l1 b e).hb⟩, h.lt⟩
theorem Gn.lit {r : Nat} {W w : World} {o1 : Option Nat} (h : Gn r W o1 w) : Gn r W (some w.heap.size) (w.alloc oP) :=
  ⟨h.rd.kept ((Below.refl (r + 1) w).alloc (by have := h.rd.lt; omega) _) (by omega), h.tn.alloc h.lt _, fun b e => by cases e; exact ⟨heap_alloc_new w _, by have := h.rd.lt; omega⟩, h.lt⟩
theorem Gn.less {r : Nat} {W w : World} {o1 : Option Nat} (h : Gn r W o1 w) : Gn r W none w := ⟨h.rd, h.tn, (fun b e => by cases e), h.lt⟩
set_option maxHeartbeats 2000000 in
theorem rt21 {r : Nat} {W : World} {Q : Exit → Act → World → Prop} {x0 x1 x2 x3 x5 x8 x9 x10 x11 x12 x13 x14 x15 x16 x17 x18 x19 x20 x21 x22 : Value} {s : ByteArray} {i : Int} (_hP : ∀ c (a : Act) d (v : Value) w, Q (.panic c) (a.put d v) w → Q (.panic c) a w) (hQ : ∀ (o u23 u24 u25 u26 u27 u28 u29 u30 u31 u32 u33 u34 u35 u36 u37 u38 : Value) (w : World), (∃ t : ByteArray, o = .string t ∧ t.size ≤ 1000) → Rd r w → Turn r W w → Q .normal ⟨#[x0, x1, x2, x3, .pointer (some ⟨r, 0, none⟩), x5, o, .int .i64 i, x8, x9, x10, x11, x12, x13, x14, x15, x16, x17, x18, x19, x20, x21, x22, u23, u24, u25, u26, u27, u28, u29, u30, u31, u32, u33, u34, u35, u36, u37, u38, undef, undef, undef, undef, undef, undef], []⟩ w) (_hi : 0 ≤ i ∧ i < s.size) (hs : s.size ≤ 200) {z1 : Int} {q : ByteArray} (h1 : G1 z1 q) {z2 : Int} (_h2 : 0 ≤ z2 ∧ z2 < 2) (b1 : Nat) (w : World) (hS : Gn r W (some (b1)) w) : wpAnyH Tryd.prog .any OPR Q (Gn r W (some (b1))) 0 #[true, true, true, true, true, true, true, true, true, true, true, true, true, true, true, true, true] ⟨#[x0, x1, x2, x3, .pointer (some ⟨r, 0, none⟩), x5, .string (s.extract 0 i.toNat ++ q ++ s.extract (i + z2).toNat s.size), .int .i64 i, x8, x9, x10, x11, x12, x13, x14, x15, x16, x17, x18, x19, x20, x21, x22, .string s, .int .i64 i, .string (s.extract 0 i.toNat), .slice (some ⟨b1, 0, none⟩) 6 6, .pointer (some ⟨r, 0, none⟩), .int .i64 z1, .pointer (some ⟨b1, z1.toNat, none⟩), .string q, .string (s.extract 0 i.toNat ++ q), .string s, .int .i64 i, .pointer (some ⟨r, 0, none⟩), .int .i64 z2, .int .i64 (i + z2), .string (s.extract (i + z2).toNat s.size), .string (s.extract 0 i.toNat ++ q ++ s.extract (i + z2).toNat s.size), undef, undef, undef, undef, undef, undef], []⟩ w := by
  refine wpAnyH_done (by kernel_rfl) ?_ _
  exact hQ _ _ _ _ _ _ _ _ _ _ _ _ _ _ _ _ _ _ ⟨_, rfl, by rw [ByteArray.size_append, ByteArray.size_append]; have := ext_le s 0 i.toNat; have := ext_le s (i + z2).toNat s.size; have := h1.2.1; omega⟩ hS.rd hS.tn
set_option maxHeartbeats 2000000 in
theorem rt20 {r : Nat} {W : World} {Q : Exit → Act → World → Prop} {x0 x1 x2 x3 x5 x8 x9 x10 x11 x12 x13 x14 x15 x16 x17 x18 x19 x20 x21 x22 : Value} {s : ByteArray} {i : Int} (hP : ∀ c (a : Act) d (v : Value) w, Q (.panic c) (a.put d v) w → Q (.panic c) a w) (hQ : ∀ (o u23 u24 u25 u26 u27 u28 u29 u30 u31 u32 u33 u34 u35 u36 u37 u38 : Value) (w : World), (∃ t : ByteArray, o = .string t ∧ t.size ≤ 1000) → Rd r w → Turn r W w → Q .normal ⟨#[x0, x1, x2, x3, .pointer (some ⟨r, 0, none⟩), x5, o, .int .i64 i, x8, x9, x10, x11, x12, x13, x14, x15, x16, x17, x18, x19, x20, x21, x22, u23, u24, u25, u26, u27, u28, u29, u30, u31, u32, u33, u34, u35, u36, u37, u38, undef, undef, undef, undef, undef, undef], []⟩ w) (hi : 0 ≤ i ∧ i < s.size) (hs : s.size ≤ 200) {z1 : Int} {q : ByteArray} (h1 : G1 z1 q) {z2 : Int} (h2 : 0 ≤ z2 ∧ z2 < 2) (w : World) (hS : Gn r W none w) : wpAnyH Tryd.prog .any OPR Q (Gn r W none) 6 #[true, true, true, false, true, true, false, false, false, true, true, true, true, true, true, false, false] ⟨#[x0, x1, x2, x3, .pointer (some ⟨r, 0, none⟩), x5, .string s, .int .i64 i, x8, x9, x10, x11, x12, x13, x14, x15, x16, x17, x18, x19, x20, x21, x22, .string s, .int .i64 i, .string (s.extract 0 i.toNat), undef, .pointer (some ⟨r, 0, none⟩), .int .i64 z1, undef, undef, undef, .string s, .int .i64 i, .pointer (some ⟨r, 0, none⟩), .int .i64 z2, .int .i64 (i + z2), .string (s.extract (i + z2).toNat s.size), undef, undef, undef, undef, undef, undef, undef], []⟩ w := by
  refine wpAnyH_ready (rs := [3]) (by kernel_rfl) (by simp) ?_
  refine AllReadyH.cons (o := { dst := some 26, op := Go.Op.buildSlice 59 6 #[(0, Go.Operand.const (Go.Value.string { data := #[48] })), (1, Go.Operand.const (Go.Value.string { data := #[32] })), (2, Go.Operand.const (Go.Value.string { data := #[49] })), (3, Go.Operand.const (Go.Value.string { data := #[46] })), (4, Go.Operand.const (Go.Value.string { data := #[115] })), (5, Go.Operand.const (Go.Value.string { data := #[] }))], type := 59, pos := "l23_tongues.go:165", after := #[], guard := none }) rfl (fun K hK => ?_) ?_
  · go_simp
    have hS2 : Gn r W (some (w.heap.size)) (w.alloc oP) := hS.lit
    refine hK.out _ _ (by first | exact hS2 | exact hS2.less) (fun _ => ?_)
    clear hK K
    refine wpAnyH_weak (S1 := Gn r W (some (w.heap.size))) (fun _ h => h.less) _ _ _ _ ?_
    refine wpAnyH_take (i := 6) (oi := { dst := some 29, op := Go.Op.indexAddr 59 (Go.Operand.tmp 26) (Go.Operand.tmp 28), type := 0, pos := "l23_tongues.go:165", after := #[{ on := 3, ground := Go.Ground.data }, { on := 5, ground := Go.Ground.data }], guard := none }) (v := (.pointer (some ⟨w.heap.size, z1.toNat, none⟩))) rfl (by kernel_rfl) (by kernel_rfl) (by kernel_rfl) (fun c a w h => hP c a _ _ w h) (Or.inl ⟨by rfl, ?_⟩) (by assumption) ?_
    · intro w hSw
      have g1 := h1.1.1; have g2 := h1.1.2
      go_simp
    (try simp only [Act.put, List.setIfInBounds_toArray, List.set_cons_zero, List.set_cons_succ])
    refine wpAnyH_take (i := 7) (oi := { dst := some 30, op := Go.Op.load 9 (Go.Operand.tmp 29), type := 9, pos := "l23_tongues.go:165", after := #[{ on := 6, ground := Go.Ground.data }], guard := none }) (v := (.string q)) rfl (by kernel_rfl) (by kernel_rfl) (by kernel_rfl) (fun c a w h => hP c a _ _ w h) (Or.inl ⟨by rfl, ?_⟩) (by assumption) ?_
    · intro w hSw
      have cc := blk_cell (hSw.l1 _ rfl).on h1.2.2
      go_simp
    (try simp only [Act.put, List.setIfInBounds_toArray, List.set_cons_zero, List.set_cons_succ])
    refine wpAnyH_take (i := 8) (oi := { dst := some 31, op := Go.Op.binOp Go.BinOp.add 9 (Go.Operand.tmp 25) (Go.Operand.tmp 30) 9, type := 9, pos := "l23_tongues.go:165", after := #[{ on := 2, ground := Go.Ground.data }, { on := 7, ground := Go.Ground.data }], guard := none }) (v := (.string (s.extract 0 i.toNat ++ q))) rfl (by kernel_rfl) (by kernel_rfl) (by kernel_rfl) (fun c a w h => hP c a _ _ w h) (Or.inl ⟨by rfl, ?_⟩) (by assumption) ?_
    · intro w hSw
      have uu := h1.2.1
      go_simp
      omega
    (try simp only [Act.put, List.setIfInBounds_toArray, List.set_cons_zero, List.set_cons_succ])
    refine wpAnyH_take (i := 15) (oi := { dst := some 38, op := Go.Op.binOp Go.BinOp.add 9 (Go.Operand.tmp 31) (Go.Operand.tmp 37) 9, type := 9, pos := "l23_tongues.go:165", after := #[{ on := 8, ground := Go.Ground.data }, { on := 14, ground := Go.Ground.data }], guard := none }) (v := (.string (s.extract 0 i.toNat ++ q ++ s.extract (i + z2).toNat s.size))) rfl (by kernel_rfl) (by kernel_rfl) (by kernel_rfl) (fun c a w h => hP c a _ _ w h) (Or.inl ⟨by rfl, ?_⟩) (by assumption) ?_
    · intro w hSw
      have uu := h1.2.1
      go_simp
      omega
    (try simp only [Act.put, List.setIfInBounds_toArray, List.set_cons_zero, List.set_cons_succ])
    refine wpAnyH_take (i := 16) (oi := { dst := some 6, op := Go.Op.assign (Go.Operand.tmp 38), type := 9, pos := "l23_tongues.go:165", after := #[{ on := 15, ground := Go.Ground.data }, { on := 12, ground := Go.Ground.chain }, { on := 0, ground := Go.Ground.phase }, { on := 1, ground := Go.Ground.phase }, { on := 2, ground := Go.Ground.phase }, { on := 3, ground := Go.Ground.phase }, { on := 4, ground := Go.Ground.phase }, { on := 5, ground := Go.Ground.phase }, { on := 6, ground := Go.Ground.phase }, { on := 7, ground := Go.Ground.phase }, { on := 8, ground := Go.Ground.phase }, { on := 9, ground := Go.Ground.phase }, { on := 10, ground := Go.Ground.phase }, { on := 11, ground := Go.Ground.phase }, { on := 12, ground := Go.Ground.phase }, { on := 13, ground := Go.Ground.phase }, { on := 14, ground := Go.Ground.phase }, { on := 15, ground := Go.Ground.phase }], guard := none }) (v := (.string (s.extract 0 i.toNat ++ q ++ s.extract (i + z2).toNat s.size))) rfl (by kernel_rfl) (by kernel_rfl) (by kernel_rfl) (fun c a w h => hP c a _ _ w h) (Or.inl ⟨by rfl, ?_⟩) (by assumption) ?_
    · intro w hSw
      go_simp
    (try simp only [Act.put, List.setIfInBounds_toArray, List.set_cons_zero, List.set_cons_succ])
    exact rt21 hP hQ hi hs h1 h2 (w.heap.size) _ hS2
  exact AllReadyH.nil
set_option maxHeartbeats 2000000 in
theorem rt11 {r : Nat} {W : World} {Q : Exit → Act → World → Prop} {x0 x1 x2 x3 x5 x8 x9 x10 x11 x12 x13 x14 x15 x16 x17 x18 x19 x20 x21 x22 : Value} {s : ByteArray} {i : Int} (hP : ∀ c (a : Act) d (v : Value) w, Q (.panic c) (a.put d v) w → Q (.panic c) a w) (hQ : ∀ (o u23 u24 u25 u26 u27 u28 u29 u30 u31 u32 u33 u34 u35 u36 u37 u38 : Value) (w : World), (∃ t : ByteArray, o = .string t ∧ t.size ≤ 1000) → Rd r w → Turn r W w → Q .normal ⟨#[x0, x1, x2, x3, .pointer (some ⟨r, 0, none⟩), x5, o, .int .i64 i, x8, x9, x10, x11, x12, x13, x14, x15, x16, x17, x18, x19, x20, x21, x22, u23, u24, u25, u26, u27, u28, u29, u30, u31, u32, u33, u34, u35, u36, u37, u38, undef, undef, undef, undef, undef, undef], []⟩ w) (hi : 0 ≤ i ∧ i < s.size) (hs : s.size ≤ 200) {z1 : Int} {q : ByteArray} (h1 : G1 z1 q) (b1 : Nat) (w : World) (hS : Gn r W (some (b1)) w) : wpAnyH Tryd.prog .any OPR Q (Gn r W (some (b1))) 5 #[true, true, true, true, true, true, true, true, true, true, true, true, false, false, false, false, false] ⟨#[x0, x1, x2, x3, .pointer (some ⟨r, 0, none⟩), x5, .string s, .int .i64 i, x8, x9, x10, x11, x12, x13, x14, x15, x16, x17, x18, x19, x20, x21, x22, .string s, .int .i64 i, .string (s.extract 0 i.toNat), .slice (some ⟨b1, 0, none⟩) 6 6, .pointer (some ⟨r, 0, none⟩), .int .i64 z1, .pointer (some ⟨b1, z1.toNat, none⟩), .string q, .string (s.extract 0 i.toNat ++ q), .string s, .int .i64 i, .pointer (some ⟨r, 0, none⟩), undef, undef, undef, undef, undef, undef, undef, undef, undef, undef], []⟩ w := by
  refine wpAnyH_ready (rs := [12]) (by kernel_rfl) (by simp) ?_
  refine AllReadyH.cons (o := { dst := some 35, op := Go.Op.call { callee := Go.Callee.value (Go.Operand.func 25), args := #[Go.Operand.tmp 34, Go.Operand.const (Go.Value.int Go.IntKind.i64 2)], argTypes := #[51, 3] }, type := 3, pos := "l23_tongues.go:165", after := #[{ on := 11, ground := Go.Ground.data }, { on := 5, ground := Go.Ground.chain }], guard := none }) rfl (fun K hK => ?_) ?_
  · have rdw := hS.rd
    go_simp
    go_at_call 25
    refine (below_all r _ rdw 2 (by omega) (by omega)).mono ?_
    rintro e w1 ⟨⟨z2, hz, rfl⟩, k1, t1⟩
    have h2 := hz
    clear hz
    have hS2 := hS.turn t1 k1
    clear k1 t1 hS rdw
    go_wp2_with fail
    refine hK.out _ _ (by first | exact hS2 | exact hS2.less) (fun _ => ?_)
    clear hK K
    refine wpAnyH_take (i := 13) (oi := { dst := some 36, op := Go.Op.binOp Go.BinOp.add 3 (Go.Operand.tmp 33) (Go.Operand.tmp 35) 3, type := 3, pos := "l23_tongues.go:165", after := #[{ on := 10, ground := Go.Ground.data }, { on := 12, ground := Go.Ground.data }], guard := none }) (v := (.int .i64 (i + z2))) rfl (by kernel_rfl) (by kernel_rfl) (by kernel_rfl) (fun c a w h => hP c a _ _ w h) (Or.inl ⟨by rfl, ?_⟩) (by assumption) ?_
    · intro w hSw
      have J : IntKind.i64.wrap (i + z2) = i + z2 := IntWalk.i64_in _ (by have := h2.1; have := h2.2; have := hi.1; have := hi.2; omega)
      go_simp
    (try simp only [Act.put, List.setIfInBounds_toArray, List.set_cons_zero, List.set_cons_succ])
    refine wpAnyH_take (i := 14) (oi := { dst := some 37, op := Go.Op.slice 9 (Go.Operand.tmp 32) (some (Go.Operand.tmp 36)) none none, type := 9, pos := "l23_tongues.go:165", after := #[{ on := 9, ground := Go.Ground.data }, { on := 13, ground := Go.Ground.data }], guard := none }) (v := (.string (s.extract (i + z2).toNat s.size))) rfl (by kernel_rfl) (by kernel_rfl) (by kernel_rfl) (fun c a w h => hP c a _ _ w h) (Or.inl ⟨by rfl, ?_⟩) (by assumption) ?_
    · intro w hSw
      have g1 : 0 ≤ i + z2 := by have := h2.1; have := hi.1; omega
      have g2 : ¬ ((s.size : Int) < i + z2) := by have := h2.2; have := hi.2; omega
      have g3 : i + z2 ≤ (s.size : Int) := by have := h2.2; have := hi.2; omega
      go_simp
    (try simp only [Act.put, List.setIfInBounds_toArray, List.set_cons_zero, List.set_cons_succ])
    refine wpAnyH_take (i := 15) (oi := { dst := some 38, op := Go.Op.binOp Go.BinOp.add 9 (Go.Operand.tmp 31) (Go.Operand.tmp 37) 9, type := 9, pos := "l23_tongues.go:165", after := #[{ on := 8, ground := Go.Ground.data }, { on := 14, ground := Go.Ground.data }], guard := none }) (v := (.string (s.extract 0 i.toNat ++ q ++ s.extract (i + z2).toNat s.size))) rfl (by kernel_rfl) (by kernel_rfl) (by kernel_rfl) (fun c a w h => hP c a _ _ w h) (Or.inl ⟨by rfl, ?_⟩) (by assumption) ?_
    · intro w hSw
      have uu := h1.2.1
      go_simp
      omega
    (try simp only [Act.put, List.setIfInBounds_toArray, List.set_cons_zero, List.set_cons_succ])
    refine wpAnyH_take (i := 16) (oi := { dst := some 6, op := Go.Op.assign (Go.Operand.tmp 38), type := 9, pos := "l23_tongues.go:165", after := #[{ on := 15, ground := Go.Ground.data }, { on := 12, ground := Go.Ground.chain }, { on := 0, ground := Go.Ground.phase }, { on := 1, ground := Go.Ground.phase }, { on := 2, ground := Go.Ground.phase }, { on := 3, ground := Go.Ground.phase }, { on := 4, ground := Go.Ground.phase }, { on := 5, ground := Go.Ground.phase }, { on := 6, ground := Go.Ground.phase }, { on := 7, ground := Go.Ground.phase }, { on := 8, ground := Go.Ground.phase }, { on := 9, ground := Go.Ground.phase }, { on := 10, ground := Go.Ground.phase }, { on := 11, ground := Go.Ground.phase }, { on := 12, ground := Go.Ground.phase }, { on := 13, ground := Go.Ground.phase }, { on := 14, ground := Go.Ground.phase }, { on := 15, ground := Go.Ground.phase }], guard := none }) (v := (.string (s.extract 0 i.toNat ++ q ++ s.extract (i + z2).toNat s.size))) rfl (by kernel_rfl) (by kernel_rfl) (by kernel_rfl) (fun c a w h => hP c a _ _ w h) (Or.inl ⟨by rfl, ?_⟩) (by assumption) ?_
    · intro w hSw
      go_simp
    (try simp only [Act.put, List.setIfInBounds_toArray, List.set_cons_zero, List.set_cons_succ])
    exact rt21 hP hQ hi hs h1 h2 (b1) _ hS2
  exact AllReadyH.nil
set_option maxHeartbeats 2000000 in
theorem rt10 {r : Nat} {W : World} {Q : Exit → Act → World → Prop} {x0 x1 x2 x3 x5 x8 x9 x10 x11 x12 x13 x14 x15 x16 x17 x18 x19 x20 x21 x22 : Value} {s : ByteArray} {i : Int} (hP : ∀ c (a : Act) d (v : Value) w, Q (.panic c) (a.put d v) w → Q (.panic c) a w) (hQ : ∀ (o u23 u24 u25 u26 u27 u28 u29 u30 u31 u32 u33 u34 u35 u36 u37 u38 : Value) (w : World), (∃ t : ByteArray, o = .string t ∧ t.size ≤ 1000) → Rd r w → Turn r W w → Q .normal ⟨#[x0, x1, x2, x3, .pointer (some ⟨r, 0, none⟩), x5, o, .int .i64 i, x8, x9, x10, x11, x12, x13, x14, x15, x16, x17, x18, x19, x20, x21, x22, u23, u24, u25, u26, u27, u28, u29, u30, u31, u32, u33, u34, u35, u36, u37, u38, undef, undef, undef, undef, undef, undef], []⟩ w) (hi : 0 ≤ i ∧ i < s.size) (hs : s.size ≤ 200) {z1 : Int} {q : ByteArray} (h1 : G1 z1 q) (w : World) (hS : Gn r W none w) : wpAnyH Tryd.prog .any OPR Q (Gn r W none) 9 #[true, true, true, false, true, true, false, false, false, true, true, true, false, false, false, false, false] ⟨#[x0, x1, x2, x3, .pointer (some ⟨r, 0, none⟩), x5, .string s, .int .i64 i, x8, x9, x10, x11, x12, x13, x14, x15, x16, x17, x18, x19, x20, x21, x22, .string s, .int .i64 i, .string (s.extract 0 i.toNat), undef, .pointer (some ⟨r, 0, none⟩), .int .i64 z1, undef, undef, undef, .string s, .int .i64 i, .pointer (some ⟨r, 0, none⟩), undef, undef, undef, undef, undef, undef, undef, undef, undef, undef], []⟩ w := by
  refine wpAnyH_ready (rs := [3, 12]) (by kernel_rfl) (by simp) ?_
  refine AllReadyH.cons (o := { dst := some 26, op := Go.Op.buildSlice 59 6 #[(0, Go.Operand.const (Go.Value.string { data := #[48] })), (1, Go.Operand.const (Go.Value.string { data := #[32] })), (2, Go.Operand.const (Go.Value.string { data := #[49] })), (3, Go.Operand.const (Go.Value.string { data := #[46] })), (4, Go.Operand.const (Go.Value.string { data := #[115] })), (5, Go.Operand.const (Go.Value.string { data := #[] }))], type := 59, pos := "l23_tongues.go:165", after := #[], guard := none }) rfl (fun K hK => ?_) ?_
  · go_simp
    have hS2 : Gn r W (some (w.heap.size)) (w.alloc oP) := hS.lit
    refine hK.out _ _ (by first | exact hS2 | exact hS2.less) (fun _ => ?_)
    clear hK K
    refine wpAnyH_weak (S1 := Gn r W (some (w.heap.size))) (fun _ h => h.less) _ _ _ _ ?_
    refine wpAnyH_take (i := 6) (oi := { dst := some 29, op := Go.Op.indexAddr 59 (Go.Operand.tmp 26) (Go.Operand.tmp 28), type := 0, pos := "l23_tongues.go:165", after := #[{ on := 3, ground := Go.Ground.data }, { on := 5, ground := Go.Ground.data }], guard := none }) (v := (.pointer (some ⟨w.heap.size, z1.toNat, none⟩))) rfl (by kernel_rfl) (by kernel_rfl) (by kernel_rfl) (fun c a w h => hP c a _ _ w h) (Or.inl ⟨by rfl, ?_⟩) (by assumption) ?_
    · intro w hSw
      have g1 := h1.1.1; have g2 := h1.1.2
      go_simp
    (try simp only [Act.put, List.setIfInBounds_toArray, List.set_cons_zero, List.set_cons_succ])
    refine wpAnyH_take (i := 7) (oi := { dst := some 30, op := Go.Op.load 9 (Go.Operand.tmp 29), type := 9, pos := "l23_tongues.go:165", after := #[{ on := 6, ground := Go.Ground.data }], guard := none }) (v := (.string q)) rfl (by kernel_rfl) (by kernel_rfl) (by kernel_rfl) (fun c a w h => hP c a _ _ w h) (Or.inl ⟨by rfl, ?_⟩) (by assumption) ?_
    · intro w hSw
      have cc := blk_cell (hSw.l1 _ rfl).on h1.2.2
      go_simp
    (try simp only [Act.put, List.setIfInBounds_toArray, List.set_cons_zero, List.set_cons_succ])
    refine wpAnyH_take (i := 8) (oi := { dst := some 31, op := Go.Op.binOp Go.BinOp.add 9 (Go.Operand.tmp 25) (Go.Operand.tmp 30) 9, type := 9, pos := "l23_tongues.go:165", after := #[{ on := 2, ground := Go.Ground.data }, { on := 7, ground := Go.Ground.data }], guard := none }) (v := (.string (s.extract 0 i.toNat ++ q))) rfl (by kernel_rfl) (by kernel_rfl) (by kernel_rfl) (fun c a w h => hP c a _ _ w h) (Or.inl ⟨by rfl, ?_⟩) (by assumption) ?_
    · intro w hSw
      have uu := h1.2.1
      go_simp
      omega
    (try simp only [Act.put, List.setIfInBounds_toArray, List.set_cons_zero, List.set_cons_succ])
    exact rt11 hP hQ hi hs h1 (w.heap.size) _ hS2
  refine AllReadyH.cons (o := { dst := some 35, op := Go.Op.call { callee := Go.Callee.value (Go.Operand.func 25), args := #[Go.Operand.tmp 34, Go.Operand.const (Go.Value.int Go.IntKind.i64 2)], argTypes := #[51, 3] }, type := 3, pos := "l23_tongues.go:165", after := #[{ on := 11, ground := Go.Ground.data }, { on := 5, ground := Go.Ground.chain }], guard := none }) rfl (fun K hK => ?_) ?_
  · have rdw := hS.rd
    go_simp
    go_at_call 25
    refine (below_all r _ rdw 2 (by omega) (by omega)).mono ?_
    rintro e w1 ⟨⟨z2, hz, rfl⟩, k1, t1⟩
    have h2 := hz
    clear hz
    have hS2 := hS.turn t1 k1
    clear k1 t1 hS rdw
    go_wp2_with fail
    refine hK.out _ _ (by first | exact hS2 | exact hS2.less) (fun _ => ?_)
    clear hK K
    refine wpAnyH_take (i := 13) (oi := { dst := some 36, op := Go.Op.binOp Go.BinOp.add 3 (Go.Operand.tmp 33) (Go.Operand.tmp 35) 3, type := 3, pos := "l23_tongues.go:165", after := #[{ on := 10, ground := Go.Ground.data }, { on := 12, ground := Go.Ground.data }], guard := none }) (v := (.int .i64 (i + z2))) rfl (by kernel_rfl) (by kernel_rfl) (by kernel_rfl) (fun c a w h => hP c a _ _ w h) (Or.inl ⟨by rfl, ?_⟩) (by assumption) ?_
    · intro w hSw
      have J : IntKind.i64.wrap (i + z2) = i + z2 := IntWalk.i64_in _ (by have := h2.1; have := h2.2; have := hi.1; have := hi.2; omega)
      go_simp
    (try simp only [Act.put, List.setIfInBounds_toArray, List.set_cons_zero, List.set_cons_succ])
    refine wpAnyH_take (i := 14) (oi := { dst := some 37, op := Go.Op.slice 9 (Go.Operand.tmp 32) (some (Go.Operand.tmp 36)) none none, type := 9, pos := "l23_tongues.go:165", after := #[{ on := 9, ground := Go.Ground.data }, { on := 13, ground := Go.Ground.data }], guard := none }) (v := (.string (s.extract (i + z2).toNat s.size))) rfl (by kernel_rfl) (by kernel_rfl) (by kernel_rfl) (fun c a w h => hP c a _ _ w h) (Or.inl ⟨by rfl, ?_⟩) (by assumption) ?_
    · intro w hSw
      have g1 : 0 ≤ i + z2 := by have := h2.1; have := hi.1; omega
      have g2 : ¬ ((s.size : Int) < i + z2) := by have := h2.2; have := hi.2; omega
      have g3 : i + z2 ≤ (s.size : Int) := by have := h2.2; have := hi.2; omega
      go_simp
    (try simp only [Act.put, List.setIfInBounds_toArray, List.set_cons_zero, List.set_cons_succ])
    exact rt20 hP hQ hi hs h1 h2 _ hS2
  exact AllReadyH.nil
set_option maxHeartbeats 2000000 in
theorem rt01 {r : Nat} {W : World} {Q : Exit → Act → World → Prop} {x0 x1 x2 x3 x5 x8 x9 x10 x11 x12 x13 x14 x15 x16 x17 x18 x19 x20 x21 x22 : Value} {s : ByteArray} {i : Int} (hP : ∀ c (a : Act) d (v : Value) w, Q (.panic c) (a.put d v) w → Q (.panic c) a w) (hQ : ∀ (o u23 u24 u25 u26 u27 u28 u29 u30 u31 u32 u33 u34 u35 u36 u37 u38 : Value) (w : World), (∃ t : ByteArray, o = .string t ∧ t.size ≤ 1000) → Rd r w → Turn r W w → Q .normal ⟨#[x0, x1, x2, x3, .pointer (some ⟨r, 0, none⟩), x5, o, .int .i64 i, x8, x9, x10, x11, x12, x13, x14, x15, x16, x17, x18, x19, x20, x21, x22, u23, u24, u25, u26, u27, u28, u29, u30, u31, u32, u33, u34, u35, u36, u37, u38, undef, undef, undef, undef, undef, undef], []⟩ w) (hi : 0 ≤ i ∧ i < s.size) (hs : s.size ≤ 200) (b1 : Nat) (w : World) (hS : Gn r W (some (b1)) w) : wpAnyH Tryd.prog .any OPR Q (Gn r W (some (b1))) 9 #[true, true, true, true, true, false, false, false, false, true, true, true, false, false, false, false, false] ⟨#[x0, x1, x2, x3, .pointer (some ⟨r, 0, none⟩), x5, .string s, .int .i64 i, x8, x9, x10, x11, x12, x13, x14, x15, x16, x17, x18, x19, x20, x21, x22, .string s, .int .i64 i, .string (s.extract 0 i.toNat), .slice (some ⟨b1, 0, none⟩) 6 6, .pointer (some ⟨r, 0, none⟩), undef, undef, undef, undef, .string s, .int .i64 i, .pointer (some ⟨r, 0, none⟩), undef, undef, undef, undef, undef, undef, undef, undef, undef, undef], []⟩ w := by
  refine wpAnyH_ready (rs := [5]) (by kernel_rfl) (by simp) ?_
  refine AllReadyH.cons (o := { dst := some 28, op := Go.Op.call { callee := Go.Callee.value (Go.Operand.func 25), args := #[Go.Operand.tmp 27, Go.Operand.const (Go.Value.int Go.IntKind.i64 6)], argTypes := #[51, 3] }, type := 3, pos := "l23_tongues.go:165", after := #[{ on := 4, ground := Go.Ground.data }], guard := none }) rfl (fun K hK => ?_) ?_
  · have rdw := hS.rd
    go_simp
    go_at_call 25
    refine (below_all r _ rdw 6 (by omega) (by omega)).mono ?_
    rintro e w1 ⟨⟨z1, hz, rfl⟩, k1, t1⟩
    obtain ⟨q, hq, hcq⟩ := piece_of z1 hz.1 hz.2
    have h1 : G1 z1 q := ⟨hz, hq, hcq⟩
    clear hq hcq hz
    have hS2 := hS.turn t1 k1
    clear k1 t1 hS rdw
    go_wp2_with fail
    refine hK.out _ _ (by first | exact hS2 | exact hS2.less) (fun _ => ?_)
    clear hK K
    refine wpAnyH_take (i := 6) (oi := { dst := some 29, op := Go.Op.indexAddr 59 (Go.Operand.tmp 26) (Go.Operand.tmp 28), type := 0, pos := "l23_tongues.go:165", after := #[{ on := 3, ground := Go.Ground.data }, { on := 5, ground := Go.Ground.data }], guard := none }) (v := (.pointer (some ⟨b1, z1.toNat, none⟩))) rfl (by kernel_rfl) (by kernel_rfl) (by kernel_rfl) (fun c a w h => hP c a _ _ w h) (Or.inl ⟨by rfl, ?_⟩) (by assumption) ?_
    · intro w hSw
      have g1 := h1.1.1; have g2 := h1.1.2
      go_simp
    (try simp only [Act.put, List.setIfInBounds_toArray, List.set_cons_zero, List.set_cons_succ])
    refine wpAnyH_take (i := 7) (oi := { dst := some 30, op := Go.Op.load 9 (Go.Operand.tmp 29), type := 9, pos := "l23_tongues.go:165", after := #[{ on := 6, ground := Go.Ground.data }], guard := none }) (v := (.string q)) rfl (by kernel_rfl) (by kernel_rfl) (by kernel_rfl) (fun c a w h => hP c a _ _ w h) (Or.inl ⟨by rfl, ?_⟩) (by assumption) ?_
    · intro w hSw
      have cc := blk_cell (hSw.l1 _ rfl).on h1.2.2
      go_simp
    (try simp only [Act.put, List.setIfInBounds_toArray, List.set_cons_zero, List.set_cons_succ])
    refine wpAnyH_take (i := 8) (oi := { dst := some 31, op := Go.Op.binOp Go.BinOp.add 9 (Go.Operand.tmp 25) (Go.Operand.tmp 30) 9, type := 9, pos := "l23_tongues.go:165", after := #[{ on := 2, ground := Go.Ground.data }, { on := 7, ground := Go.Ground.data }], guard := none }) (v := (.string (s.extract 0 i.toNat ++ q))) rfl (by kernel_rfl) (by kernel_rfl) (by kernel_rfl) (fun c a w h => hP c a _ _ w h) (Or.inl ⟨by rfl, ?_⟩) (by assumption) ?_
    · intro w hSw
      have uu := h1.2.1
      go_simp
      omega
    (try simp only [Act.put, List.setIfInBounds_toArray, List.set_cons_zero, List.set_cons_succ])
    exact rt11 hP hQ hi hs h1 (b1) _ hS2
  exact AllReadyH.nil
set_option maxHeartbeats 2000000 in
theorem rt00 {r : Nat} {W : World} {Q : Exit → Act → World → Prop} {x0 x1 x2 x3 x5 x8 x9 x10 x11 x12 x13 x14 x15 x16 x17 x18 x19 x20 x21 x22 : Value} {s : ByteArray} {i : Int} (hP : ∀ c (a : Act) d (v : Value) w, Q (.panic c) (a.put d v) w → Q (.panic c) a w) (hQ : ∀ (o u23 u24 u25 u26 u27 u28 u29 u30 u31 u32 u33 u34 u35 u36 u37 u38 : Value) (w : World), (∃ t : ByteArray, o = .string t ∧ t.size ≤ 1000) → Rd r w → Turn r W w → Q .normal ⟨#[x0, x1, x2, x3, .pointer (some ⟨r, 0, none⟩), x5, o, .int .i64 i, x8, x9, x10, x11, x12, x13, x14, x15, x16, x17, x18, x19, x20, x21, x22, u23, u24, u25, u26, u27, u28, u29, u30, u31, u32, u33, u34, u35, u36, u37, u38, undef, undef, undef, undef, undef, undef], []⟩ w) (hi : 0 ≤ i ∧ i < s.size) (hs : s.size ≤ 200) (w : World) (hS : Gn r W none w) : wpAnyH Tryd.prog .any OPR Q (Gn r W none) 10 #[true, true, true, false, true, false, false, false, false, true, true, true, false, false, false, false, false] ⟨#[x0, x1, x2, x3, .pointer (some ⟨r, 0, none⟩), x5, .string s, .int .i64 i, x8, x9, x10, x11, x12, x13, x14, x15, x16, x17, x18, x19, x20, x21, x22, .string s, .int .i64 i, .string (s.extract 0 i.toNat), undef, .pointer (some ⟨r, 0, none⟩), undef, undef, undef, undef, .string s, .int .i64 i, .pointer (some ⟨r, 0, none⟩), undef, undef, undef, undef, undef, undef, undef, undef, undef, undef], []⟩ w := by
  refine wpAnyH_ready (rs := [3, 5]) (by kernel_rfl) (by simp) ?_
  refine AllReadyH.cons (o := { dst := some 26, op := Go.Op.buildSlice 59 6 #[(0, Go.Operand.const (Go.Value.string { data := #[48] })), (1, Go.Operand.const (Go.Value.string { data := #[32] })), (2, Go.Operand.const (Go.Value.string { data := #[49] })), (3, Go.Operand.const (Go.Value.string { data := #[46] })), (4, Go.Operand.const (Go.Value.string { data := #[115] })), (5, Go.Operand.const (Go.Value.string { data := #[] }))], type := 59, pos := "l23_tongues.go:165", after := #[], guard := none }) rfl (fun K hK => ?_) ?_
  · go_simp
    have hS2 : Gn r W (some (w.heap.size)) (w.alloc oP) := hS.lit
    refine hK.out _ _ (by first | exact hS2 | exact hS2.less) (fun _ => ?_)
    clear hK K
    refine wpAnyH_weak (S1 := Gn r W (some (w.heap.size))) (fun _ h => h.less) _ _ _ _ ?_
    exact rt01 hP hQ hi hs (w.heap.size) _ hS2
  refine AllReadyH.cons (o := { dst := some 28, op := Go.Op.call { callee := Go.Callee.value (Go.Operand.func 25), args := #[Go.Operand.tmp 27, Go.Operand.const (Go.Value.int Go.IntKind.i64 6)], argTypes := #[51, 3] }, type := 3, pos := "l23_tongues.go:165", after := #[{ on := 4, ground := Go.Ground.data }], guard := none }) rfl (fun K hK => ?_) ?_
  · have rdw := hS.rd
    go_simp
    go_at_call 25
    refine (below_all r _ rdw 6 (by omega) (by omega)).mono ?_
    rintro e w1 ⟨⟨z1, hz, rfl⟩, k1, t1⟩
    obtain ⟨q, hq, hcq⟩ := piece_of z1 hz.1 hz.2
    have h1 : G1 z1 q := ⟨hz, hq, hcq⟩
    clear hq hcq hz
    have hS2 := hS.turn t1 k1
    clear k1 t1 hS rdw
    go_wp2_with fail
    refine hK.out _ _ (by first | exact hS2 | exact hS2.less) (fun _ => ?_)
    clear hK K
    exact rt10 hP hQ hi hs h1 _ hS2
  exact AllReadyH.nil
set_option maxRecDepth 20000 in
set_option maxHeartbeats 4000000 in
theorem drawr_any (a : Option Addr) (n0 cap : Nat) (w : World) (hc : Go.Proofs.YtnbhfjcpimdnlaaDoor.Rd.Code w a n0 cap) (hn0 : n0 ≤ 1048576) : Calls Tryd.prog 12 #[.slice a n0 cap] w fun e w' => (∃ (x : ByteArray) (t : Int), e = .returned (.tuple #[.string x, .int .i64 t]) ∧ x.size ≤ 1000 ∧ 0 ≤ t ∧ t ≤ 5) ∧ Below w.heap.size w w' := by
  have OP : Hid (Calls Tryd.prog 23 #[.slice a n0 cap] w fun e w' => e = .returned (.pointer (some ⟨w.heap.size, 0, none⟩)) ∧ w' = w.alloc (.cells #[.slice a n0 cap, .int .i64 0] 66)) := open_any _ a n0 cap rfl w
  have K0 : Rd w.heap.size (w.alloc (.cells #[.slice a n0 cap, .int .i64 0] 66)) := Go.Proofs.YtnbhfjcpimdnlaaDoor.Rd.Rd.new hc hn0 (Below.refl _ _)
  have B0 : Below w.heap.size w (w.alloc (.cells #[.slice a n0 cap, .int .i64 0] 66)) := (Below.refl _ _).alloc (Nat.le_refl _) _
  generalize hw1 : w.alloc (.cells #[.slice a n0 cap, .int .i64 0] 66) = w1 at *
  clear hc hw1
  go_enter Tryd.func12, Tryd.ntmps12
  go_wp2_with fail
  refine OP.out.mono ?_
  rintro e w1' ⟨rfl, hw⟩
  have hw' := hw.symm
  subst hw'
  clear OP
  obtain ⟨r, hrr⟩ : ∃ r, r = w.heap.size := ⟨_, rfl⟩
  have BT : Hid (∀ w', Turn r w1 w' → Below w.heap.size w w') := fun w' t => B0.trans (by rw [← hrr]; exact t.bel)
  rw [← hrr] at K0 ⊢
  have HRR : Hid (r = w.heap.size) := hrr
  have RL : Hid (r < w1.heap.size) := K0.lt
  have RL : Hid (r < w1.heap.size) := K0.lt
  clear hrr B0
  go_wp2_with fail
  refine (below_any r _ K0 3 (by omega) (by omega)).mono ?_
  rintro e wa ⟨⟨m, ⟨hm1, hm2⟩, rfl⟩, ka, ta⟩
  go_wp2_with fail
  refine (say_any r _ ka).mono ?_
  rintro e w2 ⟨⟨d, f, l, k, p, rfl, hz⟩, k2, t2'⟩
  have t2 := ta.trans t2'
  have t3 : (1 + m) = 1 ∨ (1 + m) = 2 ∨ (1 + m) = 3 := by omega
  have hi3 : inn (1 + m) 1 3 = true := inn3.2 t3
  have C6 : Hid (∀ w, Calls Tryd.prog 10 #[.agg #[.int .i64 d, .int .i64 f, .int .i64 l, .int .i64 k, .int .i64 p], .int .i64 (1 + m)] w fun e w' => e = .returned (.string ⟨(phr (1 + m) d f l k p).toArray⟩) ∧ Below w.heap.size w w') := fun W => (by
    have := sphrase_any d f l k p (1 + m) W
    unfold ans at this
    rwa [hz, hi3, if_pos (by rfl)] at this)
  obtain ⟨s, hs⟩ : ∃ s : ByteArray, s = ⟨(phr (1 + m) d f l k p).toArray⟩ := ⟨_, rfl⟩
  have l1 : 1 ≤ s.size := by rw [hs]; simp [ByteArray.size, phr]; omega
  have l2 : s.size ≤ 200 := by rw [hs]; have := phr_len (1 + m) d f l k p t3 (sok_sk hz); simpa [ByteArray.size] using this
  have C7 : Hid (∀ w, Calls Tryd.prog 10 #[.agg #[.int .i64 d, .int .i64 f, .int .i64 l, .int .i64 k, .int .i64 p], .int .i64 (1 + m)] w fun e w' => e = .returned (.string s) ∧ Below w.heap.size w w') := (by rw [hs]; exact C6)
  clear C6 hs hz t3 hi3
  go_wp2_with fail
  refine (C7.out _).mono ?_
  rintro e w3 ⟨rfl, b3⟩
  have k3 : Rd r w3 := k2.kept b3 k2.lt
  have t3 : Turn r w1 w3 := t2.trans (Turn.of b3 (Nat.le_refl _) (Nat.le_of_lt k2.lt))
  clear k2 t2 t2' b3 C7 K0 ka ta
  go_wp2_with fail
  refine (once_any r _ k3 3 (by omega) (by omega)).mono ?_
  rintro e w4 ⟨⟨b, rfl⟩, k4, t4⟩
  have K4 : Hid (Rd r w4) := k4
  have T4 : Hid (Turn r w1 w4) := t3.trans t4
  clear k3 t3 k4 t4
  go_upto_if 18 with fail
  go_cut [6] (fun x wx => (∃ t : ByteArray, x = .string t ∧ t.size ≤ 1000) ∧ Hid (Rd r wx) ∧ Hid (Turn r w1 wx))
  case first =>
    cases b
    · go_wp2_with fail
      go_meet
      exact ⟨⟨s, rfl, by omega⟩, K4, T4⟩
    · have CB : Hid (Calls Tryd.prog 25 #[.pointer (some ⟨r, 0, none⟩), .int .i64 s.size] w4 (Drawn r w4 fun u => 0 ≤ u ∧ u < s.size)) := below_all r _ K4.out s.size l1 (by omega)
      go_wp2_with fail
      refine CB.out.mono ?_
      rintro e w5 ⟨⟨i, hi, rfl⟩, k5, t5⟩
      have G0 : Gn r w1 none w5.drew := ⟨k5.drewN 1, (T4.out.trans t5).drewN 1, (fun b e => by cases e), RL.out⟩
      clear k5 t5 CB
      go_upto_region 6 with fail
      refine wp_region_held_drew (S := Gn r w1 none) (by kernel_rfl) G0 (fun hS => ?_)
      refine wpAnyH_take (i := 0) (oi := { dst := some 23, op := Go.Op.move (Go.Operand.tmp 6), type := 9, pos := "l23_tongues.go:165", after := #[], guard := none }) (v := (.string s)) rfl (by kernel_rfl) (by kernel_rfl) (by kernel_rfl) (fun c a w h => h) (Or.inl ⟨by rfl, ?_⟩) (by assumption) ?_
      · intro w hSw
        go_simp
      (try simp only [Act.put, List.setIfInBounds_toArray, List.set_cons_zero, List.set_cons_succ])
      refine wpAnyH_take (i := 1) (oi := { dst := some 24, op := Go.Op.move (Go.Operand.tmp 7), type := 3, pos := "l23_tongues.go:165", after := #[], guard := none }) (v := (.int .i64 i)) rfl (by kernel_rfl) (by kernel_rfl) (by kernel_rfl) (fun c a w h => h) (Or.inl ⟨by rfl, ?_⟩) (by assumption) ?_
      · intro w hSw
        go_simp
      (try simp only [Act.put, List.setIfInBounds_toArray, List.set_cons_zero, List.set_cons_succ])
      refine wpAnyH_take (i := 2) (oi := { dst := some 25, op := Go.Op.slice 9 (Go.Operand.tmp 23) none (some (Go.Operand.tmp 24)) none, type := 9, pos := "l23_tongues.go:165", after := #[{ on := 0, ground := Go.Ground.data }, { on := 1, ground := Go.Ground.data }], guard := none }) (v := (.string (s.extract 0 i.toNat))) rfl (by kernel_rfl) (by kernel_rfl) (by kernel_rfl) (fun c a w h => h) (Or.inl ⟨by rfl, ?_⟩) (by assumption) ?_
      · intro w hSw
        have g1 := hi.1; have g2 := hi.2; have g3 : ¬ ((s.size : Int) < i) := by omega
        go_simp
      (try simp only [Act.put, List.setIfInBounds_toArray, List.set_cons_zero, List.set_cons_succ])
      refine wpAnyH_take (i := 4) (oi := { dst := some 27, op := Go.Op.move (Go.Operand.tmp 4), type := 51, pos := "l23_tongues.go:165", after := #[], guard := none }) (v := (.pointer (some ⟨r, 0, none⟩))) rfl (by kernel_rfl) (by kernel_rfl) (by kernel_rfl) (fun c a w h => h) (Or.inl ⟨by rfl, ?_⟩) (by assumption) ?_
      · intro w hSw
        go_simp
      (try simp only [Act.put, List.setIfInBounds_toArray, List.set_cons_zero, List.set_cons_succ])
      refine wpAnyH_take (i := 9) (oi := { dst := some 32, op := Go.Op.move (Go.Operand.tmp 6), type := 9, pos := "l23_tongues.go:165", after := #[], guard := none }) (v := (.string s)) rfl (by kernel_rfl) (by kernel_rfl) (by kernel_rfl) (fun c a w h => h) (Or.inl ⟨by rfl, ?_⟩) (by assumption) ?_
      · intro w hSw
        go_simp
      (try simp only [Act.put, List.setIfInBounds_toArray, List.set_cons_zero, List.set_cons_succ])
      refine wpAnyH_take (i := 10) (oi := { dst := some 33, op := Go.Op.move (Go.Operand.tmp 7), type := 3, pos := "l23_tongues.go:165", after := #[], guard := none }) (v := (.int .i64 i)) rfl (by kernel_rfl) (by kernel_rfl) (by kernel_rfl) (fun c a w h => h) (Or.inl ⟨by rfl, ?_⟩) (by assumption) ?_
      · intro w hSw
        go_simp
      (try simp only [Act.put, List.setIfInBounds_toArray, List.set_cons_zero, List.set_cons_succ])
      refine wpAnyH_take (i := 11) (oi := { dst := some 34, op := Go.Op.move (Go.Operand.tmp 4), type := 51, pos := "l23_tongues.go:165", after := #[], guard := none }) (v := (.pointer (some ⟨r, 0, none⟩))) rfl (by kernel_rfl) (by kernel_rfl) (by kernel_rfl) (fun c a w h => h) (Or.inl ⟨by rfl, ?_⟩) (by assumption) ?_
      · intro w hSw
        go_simp
      (try simp only [Act.put, List.setIfInBounds_toArray, List.set_cons_zero, List.set_cons_succ])
      refine rt00 (fun _ _ d _ _ h => by cases d <;> exact h) ?_ hi l2 _ hS
      intro o u23 u24 u25 u26 u27 u28 u29 u30 u31 u32 u33 u34 u35 u36 u37 u38 w9 ho k9 t9
      obtain ⟨t, rfl, ht⟩ := ho
      have H9 : Hid (Rd r w9 ∧ Turn r w1 w9) := ⟨k9, t9⟩
      clear k9 t9
      go_wp2_with fail
      go_meet
      exact ⟨⟨t, rfl, ht⟩, H9.out.1, H9.out.2⟩
  case rest =>
    obtain ⟨⟨t, rfl, ht⟩, K5, T5⟩ := hcut
    clear K4 T4
    go_wp2_with fail
    refine (once_any r _ K5.out 9 (by omega) (by omega)).mono ?_
    rintro e w6 ⟨⟨b, rfl⟩, k6, t6⟩
    have T6 : Hid (Turn r w1 w6) := T5.out.trans t6
    have K6 : Hid (Rd r w6) := k6
    clear k6 t6 K5 T5
    cases b
    · go_wp2_with fail
      go_ret2
      exact ⟨⟨t, 1 + m, rfl, ht, by omega, by omega⟩, BT.out _ T6.out⟩
    · go_wp2_with fail
      refine (below_any r _ K6.out 5 (by omega) (by omega)).mono ?_
      rintro e w7 ⟨⟨y, ⟨hy1, hy2⟩, rfl⟩, k7, t7⟩
      have T7 : Hid (Turn r w1 w7) := T6.out.trans t7
      clear k7 t7
      go_wp2_with fail
      go_ret2
      exact ⟨⟨t, y, rfl, ht, by omega, by omega⟩, BT.out _ T7.out⟩
end Go.Proofs.YtnbhfjcpimdnlaaDoor.Ph
