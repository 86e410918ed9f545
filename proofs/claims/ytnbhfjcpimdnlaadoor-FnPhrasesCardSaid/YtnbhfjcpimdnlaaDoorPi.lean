/- Phrase of the program. -/
import Derived.Test.YtnbhfjcpimdnlaaDoorPt
import Derived.Deep.RegionHeld3
import Derived.Deep.WholeRow
namespace Go.Proofs.YtnbhfjcpimdnlaaDoor.Ph
open Go.ChangeShapes Go.WideShapes Go.ChangeAt Go.RowKit
def BS (w : World) (g : Nat) (d f l r p : Int) : Prop := w.cell? ⟨g, 0, none⟩ = some (.int .i64 d) ∧ w.cell? ⟨g, 1, none⟩ = some (.int .i64 f) ∧ w.cell? ⟨g, 2, none⟩ = some (.int .i64 l) ∧ w.cell? ⟨g, 3, none⟩ = some (.int .i64 r) ∧ w.cell? ⟨g, 4, none⟩ = some (.int .i64 p)
theorem BS.on {w w' : World} {B g : Nat} {d f l r p : Int} (h : BS w g d f l r p) (hb : Below B w w') (hg : g < B) : BS w' g d f l r p := by
  obtain ⟨h0, h1, h2, h3, h4⟩ := h
  exact ⟨(hb.cell (p := ⟨g, 0, none⟩) hg).trans h0, (hb.cell (p := ⟨g, 1, none⟩) hg).trans h1, (hb.cell (p := ⟨g, 2, none⟩) hg).trans h2, (hb.cell (p := ⟨g, 3, none⟩) hg).trans h3, (hb.cell (p := ⟨g, 4, none⟩) hg).trans h4⟩
theorem load_row (gl : Nat) (C : Array Value) (hC : C.size = 20) (w : World) (h : w.heap[gl]? = some (.cells C 42)) : (loadCellsFrom ⟨gl, 0, none⟩ 0 20 #[]).run Tryd.prog w = .ok C w := by
  have := run_loadCells_list (P := Tryd.prog) w ⟨gl, 0, none⟩ C.toList (fun j v hv => by
    have hadd : (⟨gl, 0, none⟩ : Addr).add j = ⟨gl, j, none⟩ := by unfold Addr.add; split <;> simp_all
    rw [hadd, cell_of_row _ _ j C 42 (0, 0) h]
    simpa using hv)
  rw [← hC]
  simpa [loadCells] using this
theorem load_at (gl : Nat) (C : Array Value) (hC : C.size = 20) (w : World) (h : w.heap[gl]? = some (.cells C 42)) : (Instr.loadAt 42 (.pointer (some ⟨gl, 0, none⟩))).run Tryd.prog w = .ok (.agg C) w := by
  have hl := load_row gl C hC w h
  have hag : (isAgg 42).run Tryd.prog w = .ok true w := by kernel_rfl
  simp only [Instr.loadAt, Instr.sureAddr, Sem.run_bind, Sem.run_pure, Result.andThen]
  unfold loadVar
  simp only [Sem.run_bind, hag, Result.andThen, loadCells]
  simp [hl]
theorem store_row (C : Array Value) (hC : C.size = 20) (h1 : C.all (·.oneCell') = true) (W : World) : (storeCells ⟨W.heap.size, 0, none⟩ C.toList 0).run Tryd.prog (W.alloc (.cells #[.string ⟨#[]⟩, .string ⟨#[]⟩, .string ⟨#[]⟩, .string ⟨#[]⟩, .string ⟨#[]⟩, .string ⟨#[]⟩, .string ⟨#[]⟩, .string ⟨#[]⟩, .string ⟨#[]⟩, .string ⟨#[]⟩, .string ⟨#[]⟩, .string ⟨#[]⟩, .string ⟨#[]⟩, .string ⟨#[]⟩, .string ⟨#[]⟩, .string ⟨#[]⟩, .string ⟨#[]⟩, .string ⟨#[]⟩, .string ⟨#[]⟩, .string ⟨#[]⟩] 42)) = .ok () (W.alloc (.cells C 42)) :=
  run_storeCells_new (P := Tryd.prog) W 42 #[.string ⟨#[]⟩, .string ⟨#[]⟩, .string ⟨#[]⟩, .string ⟨#[]⟩, .string ⟨#[]⟩, .string ⟨#[]⟩, .string ⟨#[]⟩, .string ⟨#[]⟩, .string ⟨#[]⟩, .string ⟨#[]⟩, .string ⟨#[]⟩, .string ⟨#[]⟩, .string ⟨#[]⟩, .string ⟨#[]⟩, .string ⟨#[]⟩, .string ⟨#[]⟩, .string ⟨#[]⟩, .string ⟨#[]⟩, .string ⟨#[]⟩, .string ⟨#[]⟩] C (by rw [hC]; kernel_rfl) (by rw [hC]; rfl) h1
set_option maxHeartbeats 2000000 in
set_option maxRecDepth 20000 in
theorem iphrase_yes (C : Array Value) (WT RT : List UInt8) (d f l r p t : Int) (w : World) (hC : C.size = 20) (hC1 : C.all (·.oneCell') = true) (hlen : WT.length + RT.length ≤ 4000)
    (TC : Hid (∀ X, Calls Tryd.prog 18 #[] X fun e w' => ∃ g, e = .returned (.map (some g)) ∧ Below X.heap.size X w' ∧ (Instr.lookup 44 (.map (some g)) (.int .i64 t) true).run Tryd.prog w' = .ok (.tuple #[.agg C, .bool true]) w'))
    (OC : Hid (∀ X, Calls Tryd.prog 27 #[.agg #[.int .i64 d, .int .i64 f, .int .i64 l, .int .i64 r, .int .i64 p]] X fun e w' => e = .returned (.bool true) ∧ Below X.heap.size X w'))
    (WC : Hid (∀ X, Below w.heap.size w X → Calls Tryd.prog 29 #[.agg C, .agg #[.int .i64 d, .int .i64 f, .int .i64 l, .int .i64 r, .int .i64 p]] X fun e w' => e = .returned (.string ⟨WT.toArray⟩) ∧ Below X.heap.size X w'))
    (RC : Hid (∀ X, Below w.heap.size w X → Calls Tryd.prog 30 #[.agg C, .agg #[.int .i64 d, .int .i64 f, .int .i64 l, .int .i64 r, .int .i64 p]] X fun e w' => e = .returned (.string ⟨RT.toArray⟩) ∧ Below X.heap.size X w')) :
    Calls Tryd.prog 11 #[.agg #[.int .i64 d, .int .i64 f, .int .i64 l, .int .i64 r, .int .i64 p], .int .i64 t] w fun e w' => e = .returned (.string ⟨(WT ++ [46, 32] ++ RT ++ [46]).toArray⟩) ∧ Below w.heap.size w w' := by
  obtain ⟨R, hR⟩ : ∃ R, R = WT ++ [46, 32] ++ RT ++ [46] := ⟨_, rfl⟩
  rw [← hR]
  have J4 : Hid (∀ X : World, Calls Tryd.prog 28 #[.slice (some ⟨X.heap.size, 0, none⟩) 4 4] (X.alloc (.cells #[.string ⟨WT.toArray⟩, .string ⟨#[46, 32]⟩, .string ⟨RT.toArray⟩, .string ⟨#[46]⟩] 9)) fun e w' => e = .returned (.string ⟨R.toArray⟩) ∧ Below (X.alloc (.cells #[.string ⟨WT.toArray⟩, .string ⟨#[46, 32]⟩, .string ⟨RT.toArray⟩, .string ⟨#[46]⟩] 9)).heap.size (X.alloc (.cells #[.string ⟨WT.toArray⟩, .string ⟨#[46, 32]⟩, .string ⟨RT.toArray⟩, .string ⟨#[46]⟩] 9)) w') := fun X => (by rw [hR]; exact join4 WT [46, 32] RT [46] X (by simp; omega))
  have hst := store_row C hC hC1
  have HLD0 : Hid (∀ gl w', w'.heap[gl]? = some (.cells C 42) → (Instr.loadAt 42 (.pointer (some ⟨gl, 0, none⟩))).run Tryd.prog w' = .ok (.agg C) w') := fun gl w' h => load_at gl C hC w' h
  clear hR
  obtain ⟨w0, hw0⟩ : ∃ w0, w0 = w.alloc (.cells #[.int .i64 d, .int .i64 f, .int .i64 l, .int .i64 r, .int .i64 p] 23) := ⟨_, rfl⟩
  have HW : Hid (w0 = w.alloc (.cells #[.int .i64 d, .int .i64 f, .int .i64 l, .int .i64 r, .int .i64 p] 23)) := hw0
  have B0 : Hid (Below w.heap.size w w0) := (by show Below _ _ _; rw [hw0]; exact (Below.refl _ _).alloc (Nat.le_refl _) _)
  have Z0 : Hid (w.heap.size < w0.heap.size) := (by show _ < _; rw [hw0]; simp)
  have S0 : Hid (BS w0 w.heap.size d f l r p) := (by show BS _ _ _ _ _ _ _; rw [hw0]; unfold BS; simp [go_sem])
  clear hw0
  go_enter Tryd.func11, Tryd.ntmps11
  go_upto_region 1 with fail
  rw [← HW.out]
  go_wp2_with fail
  refine (TC.out _).mono ?_
  rintro e w1 ⟨gm, rfl, hb1, hlk⟩
  obtain ⟨w2, hw2⟩ : ∃ w2, w2 = w1.alloc (.cells C 42) := ⟨_, rfl⟩
  have HW2 : Hid (w2 = w1.alloc (.cells C 42)) := hw2
  have b12 : Below w0.heap.size w0 w2 := by rw [hw2]; exact hb1.alloc hb1.size _
  have B2 : Hid (Below w.heap.size w w2) := B0.out.trans (b12.mono B0.out.size)
  have S2 : Hid (BS w2 w.heap.size d f l r p) := S0.out.on b12 Z0.out
  have Z2 : Hid (w.heap.size < w2.heap.size ∧ w1.heap.size < w2.heap.size) := ⟨Nat.lt_of_lt_of_le Z0.out b12.size, by rw [hw2]; simp⟩
  have L2 : Hid (w2.heap[w1.heap.size]? = some (.cells C 42)) := (by show _ = _; rw [hw2]; exact heap_alloc_last w1 _)
  clear hb1 b12 hw2
  go_upto_region 2 with fail
  rw [← HW2.out]
  clear hlk HW2 TC hst
  generalize w1.heap.size = gl at *
  obtain ⟨y0, y1, y2, y3, y4⟩ := S2.out
  go_wp2_with fail
  refine (OC.out _).mono ?_
  rintro e w3 ⟨rfl, hb3⟩
  clear y0 y1 y2 y3 y4
  have B3 : Hid (Below w.heap.size w w3) := B2.out.trans (hb3.mono B2.out.size)
  have S3 : Hid (BS w3 w.heap.size d f l r p) := S2.out.on hb3 Z2.out.1
  have L3 : Hid (w3.heap[gl]? = some (.cells C 42)) := (hb3.block gl Z2.out.2).trans L2.out
  have z3 : w.heap.size < w3.heap.size := Nat.lt_of_lt_of_le Z2.out.1 hb3.size
  have z3' : gl < w3.heap.size := Nat.lt_of_lt_of_le Z2.out.2 hb3.size
  have HLD : Hid (∀ w', w'.heap[gl]? = some (.cells C 42) → (Instr.loadAt 42 (.pointer (some ⟨gl, 0, none⟩))).run Tryd.prog w' = .ok (.agg C) w') := fun w' h => HLD0.out gl w' h
  clear hb3 B2 S2 L2 Z2 OC B0 S0 Z0 HW HLD0
  go_upto_region 4 with fail
  have BD : Below w.heap.size w w3.drew := B3.out.drew
  refine wp_region_held_drew (S := fun w' => w'.heap[gl]? = some (.cells C 42) ∧ BS w' w.heap.size d f l r p) (by kernel_rfl) ⟨L3.out, S3.out⟩ (fun hHeld => ?_)
  refine wpAnyH_take (i := 0) (oi := { dst := some 20, op := Go.Op.load 42 (Go.Operand.tmp 5), type := 42, pos := "l23_tongues.go:51", after := #[], guard := none }) (v := ?_) rfl (by kernel_rfl) (by kernel_rfl) (by kernel_rfl) (fun _ _ _ h => h) (Or.inl ⟨by rfl, ?_⟩) (by assumption) ?_
  rotate_left 1
  · (intro w hSw; have hq := HLD.out w hSw.1; show ((Instr.loadAt 42 (.pointer (some ⟨gl, 0, none⟩))) >>= fun v => pure (Next.value v)).run Tryd.prog w = _; rw [Sem.run_bind, hq]; rfl)
  try simp only [Act.put, List.setIfInBounds_toArray, List.set_cons_zero, List.set_cons_succ]
  refine wpAnyH_take (i := 1) (oi := { dst := some 21, op := Go.Op.load 23 (Go.Operand.tmp 2), type := 23, pos := "l23_tongues.go:51", after := #[], guard := none }) (v := ?_) rfl (by kernel_rfl) (by kernel_rfl) (by kernel_rfl) (fun _ _ _ h => h) (Or.inl ⟨by rfl, ?_⟩) (by assumption) ?_
  rotate_left 1
  · (intro w hSw; obtain ⟨y0, y1, y2, y3, y4⟩ := hSw.2; go_simp); all_goals (with_reducible rfl)
  try simp only [Act.put, List.setIfInBounds_toArray, List.set_cons_zero, List.set_cons_succ]
  refine wpAnyH_take (i := 3) (oi := { dst := some 23, op := Go.Op.load 42 (Go.Operand.tmp 5), type := 42, pos := "l23_tongues.go:51", after := #[], guard := none }) (v := ?_) rfl (by kernel_rfl) (by kernel_rfl) (by kernel_rfl) (fun _ _ _ h => h) (Or.inl ⟨by rfl, ?_⟩) (by assumption) ?_
  rotate_left 1
  · (intro w hSw; have hq := HLD.out w hSw.1; show ((Instr.loadAt 42 (.pointer (some ⟨gl, 0, none⟩))) >>= fun v => pure (Next.value v)).run Tryd.prog w = _; rw [Sem.run_bind, hq]; rfl)
  try simp only [Act.put, List.setIfInBounds_toArray, List.set_cons_zero, List.set_cons_succ]
  refine wpAnyH_take (i := 4) (oi := { dst := some 24, op := Go.Op.load 23 (Go.Operand.tmp 2), type := 23, pos := "l23_tongues.go:51", after := #[], guard := none }) (v := ?_) rfl (by kernel_rfl) (by kernel_rfl) (by kernel_rfl) (fun _ _ _ h => h) (Or.inl ⟨by rfl, ?_⟩) (by assumption) ?_
  rotate_left 1
  · (intro w hSw; obtain ⟨y0, y1, y2, y3, y4⟩ := hSw.2; go_simp); all_goals (with_reducible rfl)
  try simp only [Act.put, List.setIfInBounds_toArray, List.set_cons_zero, List.set_cons_succ]
  refine wpAnyH_ready (rs := [2]) (by kernel_rfl) (by simp) ?_
  refine AllReadyH.cons (o := { dst := some 22, op := Go.Op.call { callee := Go.Callee.value (Go.Operand.func 29), args := #[Go.Operand.tmp 20, Go.Operand.tmp 21], argTypes := #[42, 23] }, type := 9, pos := "l23_tongues.go:51", after := #[{ on := 0, ground := Go.Ground.data }, { on := 1, ground := Go.Ground.data }], guard := none }) rfl (fun K hK => ?_) AllReadyH.nil
  go_simp
  refine (WC.out w3.drew BD).mono ?_
  rintro e w4 ⟨rfl, hb4⟩
  have D4 : Below w3.heap.size w3 w4 := (Below.refl _ _).drew.trans (hb4.mono (by simp))
  have B4 : Below w.heap.size w w4 := B3.out.trans (D4.mono B3.out.size)
  go_wp2_with fail
  refine hK.out _ _ (⟨(D4.block gl z3').trans L3.out, S3.out.on D4 z3⟩) (fun hHeld2 => ?_)
  clear hK K hHeld
  have hHeld := hHeld2
  clear hHeld2
  try simp only [Act.put, List.setIfInBounds_toArray, List.set_cons_zero, List.set_cons_succ]
  refine wpAnyH_ready (rs := [5]) (by kernel_rfl) (by simp) ?_
  refine AllReadyH.cons (o := { dst := some 25, op := Go.Op.call { callee := Go.Callee.value (Go.Operand.func 30), args := #[Go.Operand.tmp 23, Go.Operand.tmp 24], argTypes := #[42, 23] }, type := 9, pos := "l23_tongues.go:51", after := #[{ on := 3, ground := Go.Ground.data }, { on := 4, ground := Go.Ground.data }, { on := 2, ground := Go.Ground.chain }], guard := none }) rfl (fun K hK => ?_) AllReadyH.nil
  go_simp
  refine (RC.out w4 B4).mono ?_
  rintro e w5 ⟨rfl, hb5⟩
  have D5 : Below w3.heap.size w3 w5 := D4.trans (hb5.mono D4.size)
  go_wp2_with fail
  refine hK.out _ _ (⟨(D5.block gl z3').trans L3.out, S3.out.on D5 z3⟩) (fun hHeld2 => ?_)
  clear hK K hHeld
  have hHeld := hHeld2
  clear hHeld2
  try simp only [Act.put, List.setIfInBounds_toArray, List.set_cons_zero, List.set_cons_succ]
  have DA : Below w3.heap.size w3 (w5.alloc (.cells #[.string ⟨WT.toArray⟩, .string ⟨#[46, 32]⟩, .string ⟨RT.toArray⟩, .string ⟨#[46]⟩] 9)) := D5.alloc D5.size _
  refine wpAnyH_ready (rs := [6]) (by kernel_rfl) (by simp) ?_
  refine AllReadyH.cons (o := { dst := some 26, op := Go.Op.buildSlice 59 4 #[(0, Go.Operand.tmp 22), (1, Go.Operand.const (Go.Value.string { data := #[46, 32] })), (2, Go.Operand.tmp 25), (3, Go.Operand.const (Go.Value.string { data := #[46] }))], type := 59, pos := "l23_tongues.go:51", after := #[{ on := 2, ground := Go.Ground.data }, { on := 5, ground := Go.Ground.data }], guard := none }) rfl (fun K hK => ?_) AllReadyH.nil
  go_simp
  refine hK.out _ _ (⟨(DA.block gl z3').trans L3.out, S3.out.on DA z3⟩) (fun hHeld2 => ?_)
  clear hK K hHeld
  have hHeld := hHeld2
  clear hHeld2
  try simp only [Act.put, List.setIfInBounds_toArray, List.set_cons_zero, List.set_cons_succ]
  refine wpAnyH_ready (rs := [7]) (by kernel_rfl) (by simp) ?_
  refine AllReadyH.cons (o := { dst := some 27, op := Go.Op.call { callee := Go.Callee.value (Go.Operand.func 28), args := #[Go.Operand.tmp 26], argTypes := #[59] }, type := 9, pos := "l23_tongues.go:51", after := #[{ on := 6, ground := Go.Ground.data }, { on := 5, ground := Go.Ground.chain }], guard := none }) rfl (fun K hK => ?_) AllReadyH.nil
  go_simp
  refine (J4.out w5).mono ?_
  rintro e w6 ⟨rfl, hb6⟩
  have D6 : Below w3.heap.size w3 w6 := DA.trans (hb6.mono DA.size)
  have B6 : Hid (Below w.heap.size w w6) := B3.out.trans (D6.mono B3.out.size)
  go_wp2_with fail
  refine hK.out _ _ (⟨(D6.block gl z3').trans L3.out, S3.out.on D6 z3⟩) (fun hHeld2 => ?_)
  clear hK K hHeld
  have hHeld := hHeld2
  clear hHeld2
  try simp only [Act.put, List.setIfInBounds_toArray, List.set_cons_zero, List.set_cons_succ]
  refine wpAnyH_take (i := 8) (oi := { dst := some 4, op := Go.Op.assign (Go.Operand.tmp 27), type := 9, pos := "l23_tongues.go:51", after := #[{ on := 7, ground := Go.Ground.data }, { on := 7, ground := Go.Ground.chain }, { on := 0, ground := Go.Ground.phase }, { on := 1, ground := Go.Ground.phase }, { on := 2, ground := Go.Ground.phase }, { on := 3, ground := Go.Ground.phase }, { on := 4, ground := Go.Ground.phase }, { on := 5, ground := Go.Ground.phase }, { on := 6, ground := Go.Ground.phase }, { on := 7, ground := Go.Ground.phase }], guard := none }) (v := ?_) rfl (by kernel_rfl) (by kernel_rfl) (by kernel_rfl) (fun _ _ _ h => h) (Or.inl ⟨by rfl, ?_⟩) (by assumption) ?_
  rotate_left 1
  · (intro w hSw; skip; go_simp); all_goals (with_reducible rfl)
  try simp only [Act.put, List.setIfInBounds_toArray, List.set_cons_zero, List.set_cons_succ]
  refine wpAnyH_done (by kernel_rfl) ?_ _
  clear hHeld
  go_wp2_with fail
  go_ret
  exact ⟨rfl, B6.out⟩
end Go.Proofs.YtnbhfjcpimdnlaaDoor.Ph
