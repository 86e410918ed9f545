/- ReadPhrase of the program. -/
import Derived.Test.YtnbhfjcpimdnlaaDoorRq
import Derived.Test.YtnbhfjcpimdnlaaDoorPd
import Derived.Laws.Rows
namespace Go.Proofs.YtnbhfjcpimdnlaaDoor.Ph
open Go.ChangeShapes Go.WideShapes Go.ChangeAt Go.RowKit
open Go.Proofs.YtnbhfjcpimdnlaaDoor.Rd (Turn)
theorem size42 (C : Array Value) (hC : C.size = 20) : (Tryd.prog.info? 42).map (·.size) = some C.size := by rw [hC]; kernel_rfl
theorem below_of {B b : Nat} {w w1 w2 : World} (h : Below B w w1) (t : Turn b w1 w2) (hb : B ≤ b) : Below B w w2 := h.trans (t.bel.mono hb)
set_option maxHeartbeats 1000000 in
set_option maxRecDepth 20000 in
theorem iread_none (C : Array Value) (x : ByteArray) (t : Int) (w : World) (hC : C.size = 20) (hC1 : C.all (·.oneCell') = true)
    (TC : Hid (∀ X, Calls Tryd.prog 18 #[] X fun e w' => ∃ g, e = .returned (.map (some g)) ∧ Below X.heap.size X w' ∧ (Instr.lookup 44 (.map (some g)) (.int .i64 t) true).run Tryd.prog w' = .ok (.tuple #[.agg C, .bool false]) w')) :
    Calls Tryd.prog 6 #[.string x, .int .i64 t] w fun e w' => e = .returned (.tuple #[.agg #[.int .i64 0, .int .i64 0, .int .i64 0, .int .i64 0, .int .i64 0], .bool false]) ∧ Below w.heap.size w w' := by
  have hst := store_row C hC hC1
  obtain ⟨w0, hw0⟩ : ∃ w0, w0 = w.alloc (.cells #[.int .i64 0, .int .i64 0, .int .i64 0, .int .i64 0, .int .i64 0] 23) := ⟨_, rfl⟩
  have HW : Hid (w0 = w.alloc (.cells #[.int .i64 0, .int .i64 0, .int .i64 0, .int .i64 0, .int .i64 0] 23)) := hw0
  have B0 : Hid (Below w.heap.size w w0) := (by show Below _ _ _; rw [hw0]; exact (Below.refl _ _).alloc (Nat.le_refl _) _)
  have A0 : Hid (SY w0 w.heap.size 0 0 0 0 0) := (by show SY _ _ _ _ _ _ _; rw [hw0]; exact heap_alloc_new w _)
  clear hw0
  go_enter Tryd.func6, Tryd.ntmps6
  go_upto_region 1 with fail
  rw [← HW.out]
  go_wp2_with fail
  refine (TC.out _).mono ?_
  rintro e w1 ⟨gm, rfl, hb1, hlk⟩
  obtain ⟨w2, hw2⟩ : ∃ w2, w2 = w1.alloc (.cells C 42) := ⟨_, rfl⟩
  have HW2 : Hid (w2 = w1.alloc (.cells C 42)) := hw2
  have b12 : Below w0.heap.size w0 w2 := by rw [hw2]; exact hb1.alloc hb1.size _
  have B2 : Hid (Below w.heap.size w w2) := B0.out.trans (b12.mono B0.out.size)
  have A2 : SY w2 w.heap.size 0 0 0 0 0 := A0.out.on b12 A0.out.lt
  obtain ⟨a0, a1, a2, a3, a4, af⟩ := A2.cells
  clear hb1 b12 hw2
  go_upto_region 2 with fail
  rw [← HW2.out]
  clear hlk HW2 TC hst
  have g0 := af 0; have g1 := af 1; have g2 := af 2; have g3 := af 3; have g4 := af 4
  have BE : Hid (Below w.heap.size w (((((w2.setCell ⟨w.heap.size, 0, none⟩ (.int .i64 0)).setCell ⟨w.heap.size, 1, none⟩ (.int .i64 0)).setCell ⟨w.heap.size, 2, none⟩ (.int .i64 0)).setCell ⟨w.heap.size, 3, none⟩ (.int .i64 0)).setCell ⟨w.heap.size, 4, none⟩ (.int .i64 0))) := ((((B2.out.setCell (p := ⟨w.heap.size, 0, none⟩) (Nat.le_refl _) _).setCell (p := ⟨w.heap.size, 1, none⟩) (Nat.le_refl _) _).setCell (p := ⟨w.heap.size, 2, none⟩) (Nat.le_refl _) _).setCell (p := ⟨w.heap.size, 3, none⟩) (Nat.le_refl _) _).setCell (p := ⟨w.heap.size, 4, none⟩) (Nat.le_refl _) _
  clear af A2
  go_wp2_with fail
  refine bodyPost_ret (v := .tuple #[.agg #[.int .i64 0, .int .i64 0, .int .i64 0, .int .i64 0, .int .i64 0], .bool false]) (by simp [results, Tryd.results6, go_sem, a0, a1, a2, a3, a4]) rfl ⟨rfl, ?_⟩
  first | exact BE.out | exact B2.out
set_option maxHeartbeats 4000000 in
set_option maxRecDepth 20000 in
theorem iread_some (C : Array Value) (x A : ByteArray) (XW XQ XR : List UInt8) (XF : Bool) (t d f l r p : Int) (w : World) (hT : Tb w) (hC : C.size = 20) (hC1 : C.all (·.oneCell') = true)
    (TC : Hid (∀ X, Calls Tryd.prog 18 #[] X fun e w' => ∃ g, e = .returned (.map (some g)) ∧ Below X.heap.size X w' ∧ (Instr.lookup 44 (.map (some g)) (.int .i64 t) true).run Tryd.prog w' = .ok (.tuple #[.agg C, .bool true]) w'))
    (CT : Hid (∀ X, Tb X → Calls Tryd.prog 19 #[.string x, .string ⟨#[46, 32]⟩] X fun e w' => e = .returned (.tuple #[.string ⟨XW.toArray⟩, .string ⟨XQ.toArray⟩, .bool XF]) ∧ Below X.heap.size X w'))
    (TS : Hid (∀ X, Calls Tryd.prog 22 #[.string ⟨XQ.toArray⟩, .string ⟨#[46]⟩] X fun e w' => e = .returned (.string ⟨XR.toArray⟩) ∧ w' = X))
    (WC : Hid (∀ X b, Tb X → 1 < b → SY X b 0 0 0 0 0 → Calls Tryd.prog 20 #[.agg C, .string ⟨XW.toArray⟩, .pointer (some ⟨b, 0, none⟩)] X fun e w' => (∃ v, e = .returned v) ∧ SY w' b d f l 0 0 ∧ Turn b X w'))
    (RC : Hid (∀ X b, Tb X → 1 < b → SY X b d f l 0 0 → Calls Tryd.prog 21 #[.agg C, .string ⟨XR.toArray⟩, .pointer (some ⟨b, 0, none⟩)] X fun e w' => (∃ v, e = .returned v) ∧ SY w' b d f l r p ∧ Turn b X w'))
    (PC : Hid (∀ X, Tb X → Calls Tryd.prog 11 #[.agg #[.int .i64 d, .int .i64 f, .int .i64 l, .int .i64 r, .int .i64 p], .int .i64 t] X fun e w' => e = .returned (.string A) ∧ Below X.heap.size X w')) :
    Calls Tryd.prog 6 #[.string x, .int .i64 t] w fun e w' => e = .returned (.tuple #[if A = x then .agg #[.int .i64 d, .int .i64 f, .int .i64 l, .int .i64 r, .int .i64 p] else .agg #[.int .i64 0, .int .i64 0, .int .i64 0, .int .i64 0, .int .i64 0], .bool (decide (A = x))]) ∧ Below w.heap.size w w' := by
  have hst := store_row C hC hC1
  have HLD0 : Hid (∀ gl w', w'.heap[gl]? = some (.cells C 42) → (Instr.loadAt 42 (.pointer (some ⟨gl, 0, none⟩))).run Tryd.prog w' = .ok (.agg C) w') := fun gl w' h => load_at gl C hC w' h
  have SZ := size42 C hC
  obtain ⟨w0, hw0⟩ : ∃ w0, w0 = w.alloc (.cells #[.int .i64 0, .int .i64 0, .int .i64 0, .int .i64 0, .int .i64 0] 23) := ⟨_, rfl⟩
  have HW : Hid (w0 = w.alloc (.cells #[.int .i64 0, .int .i64 0, .int .i64 0, .int .i64 0, .int .i64 0] 23)) := hw0
  have B0 : Hid (Below w.heap.size w w0) := (by show Below _ _ _; rw [hw0]; exact (Below.refl _ _).alloc (Nat.le_refl _) _)
  have A0 : Hid (SY w0 w.heap.size 0 0 0 0 0) := (by show SY _ _ _ _ _ _ _; rw [hw0]; exact heap_alloc_new w _)
  have TK : Hid (∀ w', Below w.heap.size w w' → Tb w') := fun w' hb => hT.keep hb
  have sz1 : 1 < w.heap.size := hT.2.1
  clear hw0 hT
  obtain ⟨q, hq⟩ : ∃ q, decide (A = x) = q := ⟨_, rfl⟩
  have NE : (A.toList == x.toList) = q := by
    rw [← hq]
    by_cases e : A = x
    · simp [e]
    · have : A.toList ≠ x.toList := fun h => e (by
        rw [Lib.toList_data, Lib.toList_data] at h
        apply WideShapes.bytes_inj
        exact h)
      simp [e, this]
  have EQ : Hid ((if A = x then (.agg #[.int .i64 d, .int .i64 f, .int .i64 l, .int .i64 r, .int .i64 p] : Value) else .agg #[.int .i64 0, .int .i64 0, .int .i64 0, .int .i64 0, .int .i64 0]) = if q = true then (.agg #[.int .i64 d, .int .i64 f, .int .i64 l, .int .i64 r, .int .i64 p] : Value) else .agg #[.int .i64 0, .int .i64 0, .int .i64 0, .int .i64 0, .int .i64 0]) := (by show _ = _; rw [← hq]; simp)
  rw [EQ.out, hq]
  clear EQ hq
  go_enter Tryd.func6, Tryd.ntmps6
  go_upto_region 1 with fail
  rw [← HW.out]
  go_wp2_with fail
  refine (TC.out _).mono ?_
  rintro e w1 ⟨gm, rfl, hb1, hlk⟩
  obtain ⟨w2, hw2⟩ : ∃ w2, w2 = w1.alloc (.cells C 42) := ⟨_, rfl⟩
  have HW2 : Hid (w2 = w1.alloc (.cells C 42)) := hw2
  have b12 : Below w0.heap.size w0 w2 := by rw [hw2]; exact hb1.alloc hb1.size _
  have B2 : Hid (Below w.heap.size w w2) := B0.out.trans (b12.mono B0.out.size)
  have A2 : Hid (SY w2 w.heap.size 0 0 0 0 0) := A0.out.on b12 A0.out.lt
  have L2 : Hid (w2.heap[w1.heap.size]? = some (.cells C 42)) := (by show _ = _; rw [hw2]; exact heap_alloc_last w1 _)
  have gl0 : w.heap.size < w1.heap.size := Nat.lt_of_lt_of_le A0.out.lt hb1.size
  clear hb1 b12 hw2 A0 B0 HW
  go_upto_region 2 with fail
  rw [← HW2.out]
  clear hlk HW2 TC hst
  generalize w1.heap.size = gl at *
  go_wp2_with fail
  refine (CT.out _ (TK.out _ B2.out)).mono ?_
  rintro e w3 ⟨rfl, b3⟩
  obtain ⟨w4, hw4⟩ : ∃ w4, w4 = w3.alloc (.cells #[.int .i64 0, .int .i64 0, .int .i64 0, .int .i64 0, .int .i64 0] 23) := ⟨_, rfl⟩
  have HW4 : Hid (w4 = w3.alloc (.cells #[.int .i64 0, .int .i64 0, .int .i64 0, .int .i64 0, .int .i64 0] 23)) := hw4
  have b24 : Below w2.heap.size w2 w4 := by rw [hw4]; exact b3.alloc b3.size _
  have B4 : Hid (Below w.heap.size w w4) := B2.out.trans (b24.mono B2.out.size)
  have A4 : Hid (SY w4 w.heap.size 0 0 0 0 0) := A2.out.on b24 A2.out.lt
  have L4 : Hid (w4.heap[gl]? = some (.cells C 42)) := (b24.block gl (lt_of_block L2.out)).trans L2.out
  have S4 : Hid (SY w4 w3.heap.size 0 0 0 0 0) := (by show SY _ _ _ _ _ _ _; rw [hw4]; exact heap_alloc_new w3 _)
  have bl : gl < w3.heap.size := Nat.lt_of_lt_of_le (lt_of_block L2.out) b3.size
  clear b3 hw4 b24 A2 B2 L2 CT
  go_upto_region 6 with fail
  rw [← HW4.out]
  clear HW4
  generalize w3.heap.size = b at *
  have b1 : 1 < b := by omega
  have gb : gl ≠ b := by omega
  have ab : w.heap.size ≠ b := by omega
  go_wp2_with (refine wpList_load_row rfl 42 _ rfl gl rfl 42 C (0, 0) _ L4.out Tryd.underlying42 rfl SZ ?_)
  refine (WC.out w4 b (TK.out _ B4.out) b1 S4.out).mono ?_
  rintro e w5 ⟨⟨v, rfl⟩, S5, t5⟩
  have B5 : Hid (Below w.heap.size w w5) := below_of B4.out t5 (by omega)
  have A5 : Hid (SY w5 w.heap.size 0 0 0 0 0) := blk_turn A4.out t5 ab
  have L5 : Hid (w5.heap[gl]? = some (.cells C 42)) := blk_turn L4.out t5 gb
  have S5' : Hid (SY w5 b d f l 0 0) := S5
  clear t5 S5 A4 B4 L4 S4 WC
  have HLD : Hid (∀ w', w'.heap[gl]? = some (.cells C 42) → (Instr.loadAt 42 (.pointer (some ⟨gl, 0, none⟩))).run Tryd.prog w' = .ok (.agg C) w') := fun w' h => HLD0.out gl w' h
  go_upto_region 7 with fail
  refine wp_region_held_drew (S := fun w' => w'.heap[gl]? = some (.cells C 42)) (by kernel_rfl) L5.out (fun hHeld => ?_)
  refine wpAnyH_take (i := 0) (oi := { dst := some 30, op := Go.Op.load 42 (Go.Operand.tmp 6), type := 42, pos := "l23_tongues.go:62", after := #[], guard := none }) (v := ?_) rfl (by kernel_rfl) (by kernel_rfl) (by kernel_rfl) (fun _ _ _ h => h) (Or.inl ⟨by rfl, ?_⟩) (by assumption) ?_
  rotate_left 1
  · (intro w hSw; have hq := HLD.out w hSw; show ((Instr.loadAt 42 (.pointer (some ⟨gl, 0, none⟩))) >>= fun v => pure (Next.value v)).run Tryd.prog w = _; rw [Sem.run_bind, hq]; rfl)
  try simp only [Act.put, List.setIfInBounds_toArray, List.set_cons_zero, List.set_cons_succ]
  refine wpAnyH_take (i := 1) (oi := { dst := some 31, op := Go.Op.move (Go.Operand.tmp 9), type := 9, pos := "l23_tongues.go:62", after := #[], guard := none }) (v := ?_) rfl (by kernel_rfl) (by kernel_rfl) (by kernel_rfl) (fun _ _ _ h => h) (Or.inl ⟨by rfl, ?_⟩) (by assumption) ?_
  rotate_left 1
  · (intro w hSw; skip; go_simp); all_goals (with_reducible rfl)
  try simp only [Act.put, List.setIfInBounds_toArray, List.set_cons_zero, List.set_cons_succ]
  refine wpAnyH_ready (rs := [2]) (by kernel_rfl) (by simp) ?_
  refine AllReadyH.cons (o := { dst := some 32, op := Go.Op.call { callee := Go.Callee.value (Go.Operand.func 22), args := #[Go.Operand.tmp 31, Go.Operand.const (Go.Value.string { data := #[46] })], argTypes := #[9, 9] }, type := 9, pos := "l23_tongues.go:62", after := #[{ on := 1, ground := Go.Ground.data }], guard := none }) rfl (fun K hK => ?_) AllReadyH.nil
  go_simp
  refine (TS.out w5.drew).mono ?_
  rintro e w6 ⟨rfl, hw6⟩
  have B6 : Hid (Below w.heap.size w w6) := (by show Below _ _ _; rw [hw6]; exact B5.out.drew)
  have A6 : Hid (SY w6 w.heap.size 0 0 0 0 0) := (by show SY _ _ _ _ _ _ _; rw [hw6]; exact A5.out)
  have L6 : Hid (w6.heap[gl]? = some (.cells C 42)) := (by show _ = _; rw [hw6]; exact L5.out)
  have S6 : Hid (SY w6 b d f l 0 0) := (by show SY _ _ _ _ _ _ _; rw [hw6]; exact S5'.out)
  clear hw6 A5 B5 L5 S5' TS
  go_wp2_with fail
  refine hK.out _ _ L6.out (fun hHeld2 => ?_)
  clear hK K hHeld
  have hHeld := hHeld2
  clear hHeld2
  try simp only [Act.put, List.setIfInBounds_toArray, List.set_cons_zero, List.set_cons_succ]
  refine wpAnyH_ready (rs := [3]) (by kernel_rfl) (by simp) ?_
  refine AllReadyH.cons (o := { dst := some 33, op := Go.Op.call { callee := Go.Callee.value (Go.Operand.func 21), args := #[Go.Operand.tmp 30, Go.Operand.tmp 32, Go.Operand.tmp 11], argTypes := #[42, 9, 49] }, type := 0, pos := "l23_tongues.go:62", after := #[{ on := 0, ground := Go.Ground.data }, { on := 2, ground := Go.Ground.data }, { on := 2, ground := Go.Ground.chain }], guard := none }) rfl (fun K hK => ?_) AllReadyH.nil
  go_simp
  refine (RC.out w6 b (TK.out _ B6.out) b1 S6.out).mono ?_
  rintro e w7 ⟨⟨v', rfl⟩, S7, t7⟩
  have B7 : Hid (Below w.heap.size w w7) := below_of B6.out t7 (by omega)
  have A7 : Hid (SY w7 w.heap.size 0 0 0 0 0) := blk_turn A6.out t7 ab
  have L7 : Hid (w7.heap[gl]? = some (.cells C 42)) := blk_turn L6.out t7 gb
  have S7' : Hid (SY w7 b d f l r p) := S7
  clear t7 S7 A6 B6 L6 S6 RC
  go_wp2_with fail
  refine hK.out _ _ L7.out (fun hHeld2 => ?_)
  clear hK K hHeld hHeld2
  try simp only [Act.put, List.setIfInBounds_toArray, List.set_cons_zero, List.set_cons_succ]
  refine wpAnyH_done (by kernel_rfl) ?_ _
  obtain ⟨c0, c1, c2, c3, c4, -⟩ := S7'.out.cells
  go_wp2_with fail
  refine (PC.out _ (TK.out _ B7.out)).mono ?_
  rintro e w8 ⟨rfl, b8⟩
  have B8 : Hid (Below w.heap.size w w8) := B7.out.trans (b8.mono B7.out.size)
  have A8 : SY w8 w.heap.size 0 0 0 0 0 := A7.out.on b8 A7.out.lt
  have S8 : SY w8 b d f l r p := S7'.out.on b8 S7'.out.lt
  clear b8 c0 c1 c2 c3 c4 A7 B7 L7 S7' PC
  obtain ⟨a0, a1, a2, a3, a4, af⟩ := A8.cells
  have g0 := af 0; have g1 := af 1; have g2 := af 2; have g3 := af 3; have g4 := af 4
  obtain ⟨c0, c1, c2, c3, c4, -⟩ := S8.cells
  have BE : Hid (∀ y0 y1 y2 y3 y4 : Value, Below w.heap.size w (((((w8.setCell ⟨w.heap.size, 0, none⟩ y0).setCell ⟨w.heap.size, 1, none⟩ y1).setCell ⟨w.heap.size, 2, none⟩ y2).setCell ⟨w.heap.size, 3, none⟩ y3).setCell ⟨w.heap.size, 4, none⟩ y4)) := fun y0 y1 y2 y3 y4 => ((((B8.out.setCell (p := ⟨w.heap.size, 0, none⟩) (Nat.le_refl _) _).setCell (p := ⟨w.heap.size, 1, none⟩) (Nat.le_refl _) _).setCell (p := ⟨w.heap.size, 2, none⟩) (Nat.le_refl _) _).setCell (p := ⟨w.heap.size, 3, none⟩) (Nat.le_refl _) _).setCell (p := ⟨w.heap.size, 4, none⟩) (Nat.le_refl _) _
  clear af A8 S8
  cases q
  · replace NE : (A.toList == x.toList) = false := NE
    go_wp2_with fail
    refine bodyPost_ret (v := .tuple #[.agg #[.int .i64 0, .int .i64 0, .int .i64 0, .int .i64 0, .int .i64 0], .bool false]) (by simp [results, Tryd.results6, go_sem, a0, a1, a2, a3, a4]) rfl ⟨rfl, ?_⟩
    first | exact BE.out _ _ _ _ _ | exact B8.out
  · replace NE : (A.toList == x.toList) = true := NE
    go_wp2_with fail
    refine bodyPost_ret (v := .tuple #[.agg #[.int .i64 d, .int .i64 f, .int .i64 l, .int .i64 r, .int .i64 p], .bool true]) (by simp [results, Tryd.results6, go_sem, a0, a1, a2, a3, a4]) rfl ⟨rfl, ?_⟩
    exact BE.out _ _ _ _ _
end Go.Proofs.YtnbhfjcpimdnlaaDoor.Ph
