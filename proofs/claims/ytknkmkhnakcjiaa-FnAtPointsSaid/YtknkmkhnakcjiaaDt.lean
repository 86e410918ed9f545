/- DrawAt. -/
import Derived.Test.YtknkmkhnakcjiaaDh
namespace Go.Proofs.Ytknkmkhnakcjiaa.Gd
open Go.ChangeShapes Go.WideShapes Go.ChangeAt Go.RowKit
open Go.Proofs.Ytknkmkhnakcjiaa.Rd Go.Proofs.Ytknkmkhnakcjiaa.Flt Go.Proofs.Ytknkmkhnakcjiaa.Fls
/-- what DrawAt keeps -/
structure DQ (r A g lo : Nat) (w wx : World) (x0 x1 x2 x3 x4 : Int) (v : Value) (M : List Nat) : Prop where
  rd : Rd r wx
  bl : Below w.heap.size w wx
  ab : GB wx A 0 0 0 0 0
  gb : GB wx g x0 x1 x2 x3 x4
  fr : FR lo wx v M
theorem DQ.turn {r A g lo : Nat} {w wx w' : World} {x0 x1 x2 x3 x4 : Int} {v : Value} {M : List Nat} (h : DQ r A g lo w wx x0 x1 x2 x3 x4 v M) (t : Turn r wx w') (k : Rd r w') (hA : A ≠ r) (hg : g ≠ r) (hl : r < lo) (hr : w.heap.size ≤ r) : DQ r A g lo w w' x0 x1 x2 x3 x4 v M :=
  ⟨k, Turn.below h.bl hr t, h.ab.turn t hA, h.gb.turn t hg, h.fr.turn t hl⟩
theorem DQ.drew {r A g lo : Nat} {w wx : World} {x0 x1 x2 x3 x4 : Int} {v : Value} {M : List Nat} (h : DQ r A g lo w wx x0 x1 x2 x3 x4 v M) : DQ r A g lo w wx.drew x0 x1 x2 x3 x4 v M :=
  ⟨h.rd.drewN 1, h.bl.drew, h.ab, h.gb, h.fr.on ((Below.refl _ _).drew)⟩
theorem min_prod (x y : Int) (hx : 0 ≤ x ∧ x ≤ 65) (hy : 0 ≤ y ∧ y ≤ 3001) : ∃ (m k : Int) (p : Nat), (if 64 < x then 64 else x) = m ∧ (if 300 < y then 300 else y) = k ∧ IntKind.i64.wrap (m * k) = (p : Int) ∧ IntKind.i64.wrap (1 + (p : Int)) = 1 + (p : Int) ∧ p ≤ 19200 := by
  obtain ⟨m, hm⟩ : ∃ m : Nat, (if 64 < x then 64 else x) = (m : Int) ∧ m ≤ 64 := ⟨(if 64 < x then 64 else x).toNat, by split <;> omega, by split <;> omega⟩
  obtain ⟨k, hk⟩ : ∃ k : Nat, (if 300 < y then 300 else y) = (k : Int) ∧ k ≤ 300 := ⟨(if 300 < y then 300 else y).toNat, by split <;> omega, by split <;> omega⟩
  have h : m * k ≤ 64 * 300 := Nat.mul_le_mul hm.2 hk.2
  refine ⟨m, k, m * k, hm.1, hk.1, ?_, IntWalk.i64_in _ (by omega), h⟩
  rw [← Int.natCast_mul]
  exact IntWalk.i64_in _ (by omega)

set_option maxRecDepth 20000 in
set_option maxHeartbeats 2000000 in
theorem drawat_any (a : Option Addr) (n0 cap : Nat) (w : World) (hc : Go.Proofs.Ytknkmkhnakcjiaa.Rd.Code w a n0 cap) (hn0 : n0 ≤ 1048576) : Calls Try.prog 5 #[.slice a n0 cap] w fun e w' => ∃ x0 x1 x2 x3 x4 : Int, ∃ v M, ∃ lat lon : Int, e = .returned (.tuple #[gv x0 x1 x2 x3 x4, v, .int .i64 lat, .int .i64 lon]) ∧ Gq x0 x1 x2 x3 x4 ∧ Fls.Reads w' v M ∧ (∀ z ∈ M, z < 18446744073709551616) ∧ M.length ≤ 25 ∧ Below w.heap.size w w' := by
  obtain ⟨wa, hwa⟩ : ∃ wa, wa = w.alloc (.cells #[.int .i64 0, .int .i64 0, .int .i64 0, .int .i64 0, .int .i64 0] 25) := ⟨_, rfl⟩
  have BA : Below w.heap.size w wa := by rw [hwa]; exact (Below.refl _ _).alloc (Nat.le_refl _) _
  have ZA : w.heap.size < wa.heap.size := by rw [hwa]; simp
  have EA : GB wa w.heap.size 0 0 0 0 0 := by rw [hwa]; exact GB.new w _ _ _ _ _
  have O : Hid (Calls Try.prog 8 #[.slice a n0 cap] wa fun e w' => e = .returned (.pointer (some ⟨wa.heap.size, 0, none⟩)) ∧ w' = wa.alloc (.cells #[.slice a n0 cap, .int .i64 0] 48)) := open_any _ a n0 cap rfl wa
  have K0 : Hid (Rd wa.heap.size (wa.alloc (.cells #[.slice a n0 cap, .int .i64 0] 48))) := Rd.new hc hn0 BA
  have B0 : Hid (Below w.heap.size w (wa.alloc (.cells #[.slice a n0 cap, .int .i64 0] 48))) := BA.alloc (by omega) _
  have E0 : Hid (GB (wa.alloc (.cells #[.slice a n0 cap, .int .i64 0] 48)) w.heap.size 0 0 0 0 0) := EA.alloc _
  have HW : Hid (wa = w.alloc (.cells #[.int .i64 0, .int .i64 0, .int .i64 0, .int .i64 0, .int .i64 0] 25)) := hwa
  clear hc hwa BA EA
  obtain ⟨A, hA⟩ : ∃ A, A = w.heap.size := ⟨_, rfl⟩
  have HA : Hid (A = w.heap.size) := hA
  rw [← hA] at E0
  go_enter Try.func5, Try.ntmps5
  go_upto_region 1 with fail
  rw [← HW.out, ← HA.out]
  go_wp2_with fail
  refine O.out.mono ?_
  rintro e w1 ⟨rfl, hw⟩
  rw [← hw] at K0 B0 E0
  clear hw O
  obtain ⟨r, hr0⟩ : ∃ r, r = wa.heap.size := ⟨_, rfl⟩
  have ZR : A < r := by omega
  have RW : w.heap.size ≤ r := by omega
  rw [← hr0] at K0 ⊢
  clear hr0 ZA HW hA
  go_wp2_with fail
  refine (dgrid_any r w1 K0.out).mono ?_
  rintro e w2 ⟨x0, x1, x2, x3, x4, v, M, rfl, hq, f2, hM, lM, k2, t2⟩
  have HQ : Hid (Gq x0 x1 x2 x3 x4) := hq
  have HB : Hid (∀ z ∈ M, z < 18446744073709551616) := hM
  obtain ⟨q0, q1, q2, q3, q4⟩ := hq
  obtain ⟨lo, hlo⟩ : ∃ lo, lo = w1.heap.size := ⟨_, rfl⟩
  have rlo : r < lo := by have := K0.out.lt; omega
  rw [← hlo] at f2
  obtain ⟨g, hg⟩ : ∃ g, g = w2.heap.size := ⟨_, rfl⟩
  have HG : Hid (g = w2.heap.size) := hg
  have g2 : r < g := by have := k2.lt; omega
  obtain ⟨w3, hw3⟩ : ∃ w3, w3 = w2.alloc (.cells #[.int .i64 x0, .int .i64 x1, .int .i64 x2, .int .i64 x3, .int .i64 x4] 25) := ⟨_, rfl⟩
  have HW3 : Hid (w3 = w2.alloc (.cells #[.int .i64 x0, .int .i64 x1, .int .i64 x2, .int .i64 x3, .int .i64 x4] 25)) := hw3
  have D3 : Hid (DQ r A g lo w w3 x0 x1 x2 x3 x4 v M) := (by
    show DQ _ _ _ _ _ _ _ _ _ _ _ _ _
    rw [hw3, hg]
    have z2 := t2.size
    exact ⟨k2.kept ((Below.refl (r + 1) w2).alloc (by have := k2.lt; omega) _) (by omega), (Turn.below B0.out RW t2).alloc (by have := B0.out.size; omega) _, (E0.out.turn t2 (by omega)).alloc _, GB.new w2 x0 x1 x2 x3 x4, f2.on ((Below.refl _ _).alloc (Nat.le_refl _) _)⟩)
  obtain ⟨sa, sc, hv⟩ := f2.reads.form
  subst hv
  clear k2 t2 f2 hw3 hg hlo K0 B0 E0 hM
  go_upto_region 3 with fail
  rw [← HW3.out, ← HG.out]
  clear HW3
  obtain ⟨n, hn⟩ : ∃ n, n = M.length := ⟨_, rfl⟩
  have HN : Hid (n = M.length) := hn
  rw [← hn] at D3 lM ⊢
  clear hn
  have FIN : Hid (∀ (wf : World), DQ r A g lo w wf x0 x1 x2 x3 x4 (.slice sa n sc) M → ∀ y0 y1 y2 y3 y4 : Value, Fls.Reads (((((wf.setCell ⟨A, 0, none⟩ y0).setCell ⟨A, 1, none⟩ y1).setCell ⟨A, 2, none⟩ y2).setCell ⟨A, 3, none⟩ y3).setCell ⟨A, 4, none⟩ y4) (.slice sa n sc) M ∧ Below w.heap.size w (((((wf.setCell ⟨A, 0, none⟩ y0).setCell ⟨A, 1, none⟩ y1).setCell ⟨A, 2, none⟩ y2).setCell ⟨A, 3, none⟩ y3).setCell ⟨A, 4, none⟩ y4)) := fun wf d y0 y1 y2 y3 y4 => (by
    have hA := HA.out
    exact ⟨(((((d.fr.set (by omega)).set (by omega)).set (by omega)).set (by omega)).set (by omega)).reads, below_five d.bl (by omega) _ _ _ _ _⟩)
  obtain ⟨mx, my, p, hmx, hmy, ew, ew2, hp2⟩ := min_prod x0 x4 (by omega) (by omega)
  have C1 : Hid (∀ wx, Rd r wx → Calls Try.prog 10 #[.pointer (some ⟨r, 0, none⟩), .int .i64 (1 + (p : Int))] wx (Drawn r wx fun u => 0 ≤ u ∧ u < 1 + (p : Int))) := fun wx k => (by
    have := below_all r wx k (1 + p) (by omega) (by omega)
    rw [Int.natCast_add] at this
    exact this)
  obtain ⟨c0, c1, c2, c3, c4, cf⟩ := D3.out.gb.cells
  clear cf
  have D3d : Hid (DQ r A g lo w w3.drew x0 x1 x2 x3 x4 (.slice sa n sc) M) := D3.out.drew
  refine wp_region_held_drew (S := (fun w' => w'.cell? ⟨g, 0, none⟩ = some (.int .i64 x0) ∧ w'.cell? ⟨g, 1, none⟩ = some (.int .i64 x1) ∧ w'.cell? ⟨g, 2, none⟩ = some (.int .i64 x2) ∧ w'.cell? ⟨g, 3, none⟩ = some (.int .i64 x3) ∧ w'.cell? ⟨g, 4, none⟩ = some (.int .i64 x4))) (by kernel_rfl) (by (try dsimp only); go_keep) (fun hHeld => ?_)
  refine wpAnyH_take (i := 0) (oi := { dst := some 18, op := Go.Op.fieldAddr 25 (Go.Operand.tmp 7) 2, type := 0, pos := "l11_fields.go:175", after := #[], guard := none }) (v := ?_) rfl (by kernel_rfl) (by kernel_rfl) (by kernel_rfl) (fun _ _ _ h => h) (Or.inl ⟨by rfl, ?_⟩) (by assumption) ?_
  rotate_left 1
  · (intro w hSw; (try dsimp only at hSw); go_simp); all_goals (with_reducible rfl)
  try simp only [Act.put, List.setIfInBounds_toArray, List.set_cons_zero, List.set_cons_succ]
  refine wpAnyH_take (i := 1) (oi := { dst := some 19, op := Go.Op.load 2 (Go.Operand.tmp 18), type := 2, pos := "l11_fields.go:175", after := #[{ on := 0, ground := Go.Ground.data }], guard := none }) (v := ?_) rfl (by kernel_rfl) (by kernel_rfl) (by kernel_rfl) (fun _ _ _ h => h) (Or.inl ⟨by rfl, ?_⟩) (by assumption) ?_
  rotate_left 1
  · (intro w hSw; (try dsimp only at hSw); go_simp); all_goals (with_reducible rfl)
  try simp only [Act.put, List.setIfInBounds_toArray, List.set_cons_zero, List.set_cons_succ]
  refine wpAnyH_take (i := 2) (oi := { dst := some 20, op := Go.Op.move (Go.Operand.tmp 6), type := 33, pos := "l11_fields.go:175", after := #[], guard := none }) (v := ?_) rfl (by kernel_rfl) (by kernel_rfl) (by kernel_rfl) (fun _ _ _ h => h) (Or.inl ⟨by rfl, ?_⟩) (by assumption) ?_
  rotate_left 1
  · (intro w hSw; (try dsimp only at hSw); go_simp); all_goals (with_reducible rfl)
  try simp only [Act.put, List.setIfInBounds_toArray, List.set_cons_zero, List.set_cons_succ]
  refine wpAnyH_take (i := 3) (oi := { dst := some 21, op := Go.Op.fieldAddr 25 (Go.Operand.tmp 7) 0, type := 0, pos := "l11_fields.go:175", after := #[], guard := none }) (v := ?_) rfl (by kernel_rfl) (by kernel_rfl) (by kernel_rfl) (fun _ _ _ h => h) (Or.inl ⟨by rfl, ?_⟩) (by assumption) ?_
  rotate_left 1
  · (intro w hSw; (try dsimp only at hSw); go_simp); all_goals (with_reducible rfl)
  try simp only [Act.put, List.setIfInBounds_toArray, List.set_cons_zero, List.set_cons_succ]
  refine wpAnyH_take (i := 4) (oi := { dst := some 22, op := Go.Op.load 2 (Go.Operand.tmp 21), type := 2, pos := "l11_fields.go:175", after := #[{ on := 3, ground := Go.Ground.data }], guard := none }) (v := ?_) rfl (by kernel_rfl) (by kernel_rfl) (by kernel_rfl) (fun _ _ _ h => h) (Or.inl ⟨by rfl, ?_⟩) (by assumption) ?_
  rotate_left 1
  · (intro w hSw; (try dsimp only at hSw); go_simp); all_goals (with_reducible rfl)
  try simp only [Act.put, List.setIfInBounds_toArray, List.set_cons_zero, List.set_cons_succ]
  refine wpAnyH_take (i := 5) (oi := { dst := some 23, op := Go.Op.call { callee := Go.Callee.builtin Go.Builtin.min, args := #[Go.Operand.tmp 22, Go.Operand.const (Go.Value.int Go.IntKind.i64 64)], argTypes := #[2, 2] }, type := 2, pos := "l11_fields.go:175", after := #[{ on := 4, ground := Go.Ground.data }], guard := none }) (v := ?_) rfl (by kernel_rfl) (by kernel_rfl) (by kernel_rfl) (fun _ _ _ h => h) (Or.inl ⟨by rfl, ?_⟩) (by assumption) ?_
  rotate_left 1
  · (intro w hSw; (try dsimp only at hSw); go_simp); all_goals (with_reducible rfl)
  try simp only [Act.put, List.setIfInBounds_toArray, List.set_cons_zero, List.set_cons_succ]
  refine wpAnyH_take (i := 6) (oi := { dst := some 24, op := Go.Op.fieldAddr 25 (Go.Operand.tmp 7) 4, type := 0, pos := "l11_fields.go:175", after := #[], guard := none }) (v := ?_) rfl (by kernel_rfl) (by kernel_rfl) (by kernel_rfl) (fun _ _ _ h => h) (Or.inl ⟨by rfl, ?_⟩) (by assumption) ?_
  rotate_left 1
  · (intro w hSw; (try dsimp only at hSw); go_simp); all_goals (with_reducible rfl)
  try simp only [Act.put, List.setIfInBounds_toArray, List.set_cons_zero, List.set_cons_succ]
  refine wpAnyH_take (i := 7) (oi := { dst := some 25, op := Go.Op.load 2 (Go.Operand.tmp 24), type := 2, pos := "l11_fields.go:175", after := #[{ on := 6, ground := Go.Ground.data }], guard := none }) (v := ?_) rfl (by kernel_rfl) (by kernel_rfl) (by kernel_rfl) (fun _ _ _ h => h) (Or.inl ⟨by rfl, ?_⟩) (by assumption) ?_
  rotate_left 1
  · (intro w hSw; (try dsimp only at hSw); go_simp); all_goals (with_reducible rfl)
  try simp only [Act.put, List.setIfInBounds_toArray, List.set_cons_zero, List.set_cons_succ]
  refine wpAnyH_take (i := 8) (oi := { dst := some 26, op := Go.Op.call { callee := Go.Callee.builtin Go.Builtin.min, args := #[Go.Operand.tmp 25, Go.Operand.const (Go.Value.int Go.IntKind.i64 300)], argTypes := #[2, 2] }, type := 2, pos := "l11_fields.go:175", after := #[{ on := 7, ground := Go.Ground.data }], guard := none }) (v := ?_) rfl (by kernel_rfl) (by kernel_rfl) (by kernel_rfl) (fun _ _ _ h => h) (Or.inl ⟨by rfl, ?_⟩) (by assumption) ?_
  rotate_left 1
  · (intro w hSw; (try dsimp only at hSw); go_simp); all_goals (with_reducible rfl)
  try simp only [Act.put, List.setIfInBounds_toArray, List.set_cons_zero, List.set_cons_succ]
  refine wpAnyH_take (i := 9) (oi := { dst := some 27, op := Go.Op.binOp Go.BinOp.mul 2 (Go.Operand.tmp 23) (Go.Operand.tmp 26) 2, type := 2, pos := "l11_fields.go:175", after := #[{ on := 5, ground := Go.Ground.data }, { on := 8, ground := Go.Ground.data }], guard := none }) (v := ?_) rfl (by kernel_rfl) (by kernel_rfl) (by kernel_rfl) (fun _ _ _ h => h) (Or.inl ⟨by rfl, ?_⟩) (by assumption) ?_
  rotate_left 1
  · (intro w hSw; (try dsimp only at hSw); go_simp); all_goals (with_reducible rfl)
  try simp only [Act.put, List.setIfInBounds_toArray, List.set_cons_zero, List.set_cons_succ]
  refine wpAnyH_take (i := 10) (oi := { dst := some 28, op := Go.Op.binOp Go.BinOp.add 3 (Go.Operand.const (Go.Value.int Go.IntKind.i64 1)) (Go.Operand.tmp 27) 3, type := 3, pos := "l11_fields.go:175", after := #[{ on := 9, ground := Go.Ground.data }], guard := none }) (v := ?_) rfl (by kernel_rfl) (by kernel_rfl) (by kernel_rfl) (fun _ _ _ h => h) (Or.inl ⟨by rfl, ?_⟩) (by assumption) ?_
  rotate_left 1
  · (intro w hSw; (try dsimp only at hSw); go_simp); all_goals (with_reducible rfl)
  try simp only [Act.put, List.setIfInBounds_toArray, List.set_cons_zero, List.set_cons_succ]
  refine wpAnyH_ready (rs := [11]) (by kernel_rfl) (by simp) ?_
  refine AllReadyH.cons (o := { dst := some 29, op := Go.Op.call { callee := Go.Callee.value (Go.Operand.func 10), args := #[Go.Operand.tmp 20, Go.Operand.tmp 28], argTypes := #[33, 3] }, type := 3, pos := "l11_fields.go:175", after := #[{ on := 2, ground := Go.Ground.data }, { on := 10, ground := Go.Ground.data }], guard := none }) rfl (fun K hK => ?_) AllReadyH.nil
  go_simp
  refine (C1.out _ D3d.out.rd).mono ?_; rintro e w4 ⟨⟨u4, ⟨hu4, hv4⟩, rfl⟩, kk, tt⟩; have D4 : Hid (DQ r A g lo w w4 x0 x1 x2 x3 x4 (.slice sa n sc) M) := D3d.out.turn tt kk (by omega) (by omega) rlo RW; obtain ⟨d0, d1, d2, d3, d4, df⟩ := D4.out.gb.cells; clear kk tt df
  go_wp2_with fail
  refine hK.out _ _ (by (try dsimp only); go_keep) (fun hHeld2 => ?_)
  clear hK K hHeld
  have hHeld := hHeld2
  clear hHeld2
  try simp only [Act.put, List.setIfInBounds_toArray, List.set_cons_zero, List.set_cons_succ]
  refine wpAnyH_take (i := 12) (oi := { dst := some 30, op := Go.Op.binOp Go.BinOp.add 2 (Go.Operand.tmp 19) (Go.Operand.tmp 29) 2, type := 2, pos := "l11_fields.go:175", after := #[{ on := 1, ground := Go.Ground.data }, { on := 11, ground := Go.Ground.data }], guard := none }) (v := ?_) rfl (by kernel_rfl) (by kernel_rfl) (by kernel_rfl) (fun _ _ _ h => h) (Or.inl ⟨by rfl, ?_⟩) (by assumption) ?_
  rotate_left 1
  · (intro w hSw; (try dsimp only at hSw); go_simp); all_goals (with_reducible rfl)
  try simp only [Act.put, List.setIfInBounds_toArray, List.set_cons_zero, List.set_cons_succ]
  refine wpAnyH_take (i := 13) (oi := { dst := some 9, op := Go.Op.assign (Go.Operand.tmp 30), type := 2, pos := "l11_fields.go:175", after := #[{ on := 12, ground := Go.Ground.data }, { on := 11, ground := Go.Ground.chain }, { on := 0, ground := Go.Ground.phase }, { on := 1, ground := Go.Ground.phase }, { on := 2, ground := Go.Ground.phase }, { on := 3, ground := Go.Ground.phase }, { on := 4, ground := Go.Ground.phase }, { on := 5, ground := Go.Ground.phase }, { on := 6, ground := Go.Ground.phase }, { on := 7, ground := Go.Ground.phase }, { on := 8, ground := Go.Ground.phase }, { on := 9, ground := Go.Ground.phase }, { on := 10, ground := Go.Ground.phase }, { on := 11, ground := Go.Ground.phase }, { on := 12, ground := Go.Ground.phase }], guard := none }) (v := ?_) rfl (by kernel_rfl) (by kernel_rfl) (by kernel_rfl) (fun _ _ _ h => h) (Or.inl ⟨by rfl, ?_⟩) (by assumption) ?_
  rotate_left 1
  · (intro w hSw; (try dsimp only at hSw); go_simp); all_goals (with_reducible rfl)
  try simp only [Act.put, List.setIfInBounds_toArray, List.set_cons_zero, List.set_cons_succ]
  refine wpAnyH_done (by kernel_rfl) ?_ _
  clear c0 c1 c2 c3 c4 hHeld D3d D3 hmx ew ew2 C1
  generalize IntKind.i64.wrap (x2 + u4) = lat at *
  clear hu4 hv4 d0 d1 d2 d3 d4
  obtain ⟨mx2, my2, p2, hmx2, hmy2, ew3, ew4, hp3⟩ := min_prod x1 x4 (by omega) (by omega)
  have C2 : Hid (∀ wx, Rd r wx → Calls Try.prog 10 #[.pointer (some ⟨r, 0, none⟩), .int .i64 (1 + (p2 : Int))] wx (Drawn r wx fun u => 0 ≤ u ∧ u < 1 + (p2 : Int))) := fun wx k => (by
    have := below_all r wx k (1 + p2) (by omega) (by omega)
    rw [Int.natCast_add] at this
    exact this)
  have C4 : Hid (∀ wx, Rd r wx → Calls Try.prog 10 #[.pointer (some ⟨r, 0, none⟩), .int .i64 4] wx (Drawn r wx fun u => 0 ≤ u ∧ u < 4)) := fun wx k => below_all r wx k 4 (by omega) (by omega)
  clear hmy
  obtain ⟨c0, c1, c2, c3, c4, cf⟩ := D4.out.gb.cells
  clear cf
  have D4d : Hid (DQ r A g lo w w4.drew x0 x1 x2 x3 x4 (.slice sa n sc) M) := D4.out.drew
  go_upto_region 4 with fail
  refine wp_region_held_drew (S := (fun w' => w'.cell? ⟨g, 0, none⟩ = some (.int .i64 x0) ∧ w'.cell? ⟨g, 1, none⟩ = some (.int .i64 x1) ∧ w'.cell? ⟨g, 2, none⟩ = some (.int .i64 x2) ∧ w'.cell? ⟨g, 3, none⟩ = some (.int .i64 x3) ∧ w'.cell? ⟨g, 4, none⟩ = some (.int .i64 x4))) (by kernel_rfl) (by (try dsimp only); go_keep) (fun hHeld => ?_)
  refine wpAnyH_take (i := 0) (oi := { dst := some 31, op := Go.Op.fieldAddr 25 (Go.Operand.tmp 7) 3, type := 0, pos := "l11_fields.go:176", after := #[], guard := none }) (v := ?_) rfl (by kernel_rfl) (by kernel_rfl) (by kernel_rfl) (fun _ _ _ h => h) (Or.inl ⟨by rfl, ?_⟩) (by assumption) ?_
  rotate_left 1
  · (intro w hSw; (try dsimp only at hSw); go_simp); all_goals (with_reducible rfl)
  try simp only [Act.put, List.setIfInBounds_toArray, List.set_cons_zero, List.set_cons_succ]
  refine wpAnyH_take (i := 1) (oi := { dst := some 32, op := Go.Op.load 2 (Go.Operand.tmp 31), type := 2, pos := "l11_fields.go:176", after := #[{ on := 0, ground := Go.Ground.data }], guard := none }) (v := ?_) rfl (by kernel_rfl) (by kernel_rfl) (by kernel_rfl) (fun _ _ _ h => h) (Or.inl ⟨by rfl, ?_⟩) (by assumption) ?_
  rotate_left 1
  · (intro w hSw; (try dsimp only at hSw); go_simp); all_goals (with_reducible rfl)
  try simp only [Act.put, List.setIfInBounds_toArray, List.set_cons_zero, List.set_cons_succ]
  refine wpAnyH_take (i := 2) (oi := { dst := some 33, op := Go.Op.move (Go.Operand.tmp 6), type := 33, pos := "l11_fields.go:176", after := #[], guard := none }) (v := ?_) rfl (by kernel_rfl) (by kernel_rfl) (by kernel_rfl) (fun _ _ _ h => h) (Or.inl ⟨by rfl, ?_⟩) (by assumption) ?_
  rotate_left 1
  · (intro w hSw; (try dsimp only at hSw); go_simp); all_goals (with_reducible rfl)
  try simp only [Act.put, List.setIfInBounds_toArray, List.set_cons_zero, List.set_cons_succ]
  refine wpAnyH_take (i := 3) (oi := { dst := some 34, op := Go.Op.fieldAddr 25 (Go.Operand.tmp 7) 1, type := 0, pos := "l11_fields.go:176", after := #[], guard := none }) (v := ?_) rfl (by kernel_rfl) (by kernel_rfl) (by kernel_rfl) (fun _ _ _ h => h) (Or.inl ⟨by rfl, ?_⟩) (by assumption) ?_
  rotate_left 1
  · (intro w hSw; (try dsimp only at hSw); go_simp); all_goals (with_reducible rfl)
  try simp only [Act.put, List.setIfInBounds_toArray, List.set_cons_zero, List.set_cons_succ]
  refine wpAnyH_take (i := 4) (oi := { dst := some 35, op := Go.Op.load 2 (Go.Operand.tmp 34), type := 2, pos := "l11_fields.go:176", after := #[{ on := 3, ground := Go.Ground.data }], guard := none }) (v := ?_) rfl (by kernel_rfl) (by kernel_rfl) (by kernel_rfl) (fun _ _ _ h => h) (Or.inl ⟨by rfl, ?_⟩) (by assumption) ?_
  rotate_left 1
  · (intro w hSw; (try dsimp only at hSw); go_simp); all_goals (with_reducible rfl)
  try simp only [Act.put, List.setIfInBounds_toArray, List.set_cons_zero, List.set_cons_succ]
  refine wpAnyH_take (i := 5) (oi := { dst := some 36, op := Go.Op.call { callee := Go.Callee.builtin Go.Builtin.min, args := #[Go.Operand.tmp 35, Go.Operand.const (Go.Value.int Go.IntKind.i64 64)], argTypes := #[2, 2] }, type := 2, pos := "l11_fields.go:176", after := #[{ on := 4, ground := Go.Ground.data }], guard := none }) (v := ?_) rfl (by kernel_rfl) (by kernel_rfl) (by kernel_rfl) (fun _ _ _ h => h) (Or.inl ⟨by rfl, ?_⟩) (by assumption) ?_
  rotate_left 1
  · (intro w hSw; (try dsimp only at hSw); go_simp); all_goals (with_reducible rfl)
  try simp only [Act.put, List.setIfInBounds_toArray, List.set_cons_zero, List.set_cons_succ]
  refine wpAnyH_take (i := 6) (oi := { dst := some 37, op := Go.Op.fieldAddr 25 (Go.Operand.tmp 7) 4, type := 0, pos := "l11_fields.go:176", after := #[], guard := none }) (v := ?_) rfl (by kernel_rfl) (by kernel_rfl) (by kernel_rfl) (fun _ _ _ h => h) (Or.inl ⟨by rfl, ?_⟩) (by assumption) ?_
  rotate_left 1
  · (intro w hSw; (try dsimp only at hSw); go_simp); all_goals (with_reducible rfl)
  try simp only [Act.put, List.setIfInBounds_toArray, List.set_cons_zero, List.set_cons_succ]
  refine wpAnyH_take (i := 7) (oi := { dst := some 38, op := Go.Op.load 2 (Go.Operand.tmp 37), type := 2, pos := "l11_fields.go:176", after := #[{ on := 6, ground := Go.Ground.data }], guard := none }) (v := ?_) rfl (by kernel_rfl) (by kernel_rfl) (by kernel_rfl) (fun _ _ _ h => h) (Or.inl ⟨by rfl, ?_⟩) (by assumption) ?_
  rotate_left 1
  · (intro w hSw; (try dsimp only at hSw); go_simp); all_goals (with_reducible rfl)
  try simp only [Act.put, List.setIfInBounds_toArray, List.set_cons_zero, List.set_cons_succ]
  refine wpAnyH_take (i := 8) (oi := { dst := some 39, op := Go.Op.call { callee := Go.Callee.builtin Go.Builtin.min, args := #[Go.Operand.tmp 38, Go.Operand.const (Go.Value.int Go.IntKind.i64 300)], argTypes := #[2, 2] }, type := 2, pos := "l11_fields.go:176", after := #[{ on := 7, ground := Go.Ground.data }], guard := none }) (v := ?_) rfl (by kernel_rfl) (by kernel_rfl) (by kernel_rfl) (fun _ _ _ h => h) (Or.inl ⟨by rfl, ?_⟩) (by assumption) ?_
  rotate_left 1
  · (intro w hSw; (try dsimp only at hSw); go_simp); all_goals (with_reducible rfl)
  try simp only [Act.put, List.setIfInBounds_toArray, List.set_cons_zero, List.set_cons_succ]
  refine wpAnyH_take (i := 9) (oi := { dst := some 40, op := Go.Op.binOp Go.BinOp.mul 2 (Go.Operand.tmp 36) (Go.Operand.tmp 39) 2, type := 2, pos := "l11_fields.go:176", after := #[{ on := 5, ground := Go.Ground.data }, { on := 8, ground := Go.Ground.data }], guard := none }) (v := ?_) rfl (by kernel_rfl) (by kernel_rfl) (by kernel_rfl) (fun _ _ _ h => h) (Or.inl ⟨by rfl, ?_⟩) (by assumption) ?_
  rotate_left 1
  · (intro w hSw; (try dsimp only at hSw); go_simp); all_goals (with_reducible rfl)
  try simp only [Act.put, List.setIfInBounds_toArray, List.set_cons_zero, List.set_cons_succ]
  refine wpAnyH_take (i := 10) (oi := { dst := some 41, op := Go.Op.binOp Go.BinOp.add 3 (Go.Operand.const (Go.Value.int Go.IntKind.i64 1)) (Go.Operand.tmp 40) 3, type := 3, pos := "l11_fields.go:176", after := #[{ on := 9, ground := Go.Ground.data }], guard := none }) (v := ?_) rfl (by kernel_rfl) (by kernel_rfl) (by kernel_rfl) (fun _ _ _ h => h) (Or.inl ⟨by rfl, ?_⟩) (by assumption) ?_
  rotate_left 1
  · (intro w hSw; (try dsimp only at hSw); go_simp); all_goals (with_reducible rfl)
  try simp only [Act.put, List.setIfInBounds_toArray, List.set_cons_zero, List.set_cons_succ]
  refine wpAnyH_ready (rs := [11]) (by kernel_rfl) (by simp) ?_
  refine AllReadyH.cons (o := { dst := some 42, op := Go.Op.call { callee := Go.Callee.value (Go.Operand.func 10), args := #[Go.Operand.tmp 33, Go.Operand.tmp 41], argTypes := #[33, 3] }, type := 3, pos := "l11_fields.go:176", after := #[{ on := 2, ground := Go.Ground.data }, { on := 10, ground := Go.Ground.data }], guard := none }) rfl (fun K hK => ?_) AllReadyH.nil
  go_simp
  refine (C2.out _ D4d.out.rd).mono ?_; rintro e w5 ⟨⟨u5, ⟨hu5, hv5⟩, rfl⟩, kk, tt⟩; have D5 : Hid (DQ r A g lo w w5 x0 x1 x2 x3 x4 (.slice sa n sc) M) := D4d.out.turn tt kk (by omega) (by omega) rlo RW; obtain ⟨d0, d1, d2, d3, d4, df⟩ := D5.out.gb.cells; clear kk tt df
  go_wp2_with fail
  refine hK.out _ _ (by (try dsimp only); go_keep) (fun hHeld2 => ?_)
  clear hK K hHeld
  have hHeld := hHeld2
  clear hHeld2
  try simp only [Act.put, List.setIfInBounds_toArray, List.set_cons_zero, List.set_cons_succ]
  refine wpAnyH_take (i := 12) (oi := { dst := some 43, op := Go.Op.binOp Go.BinOp.add 2 (Go.Operand.tmp 32) (Go.Operand.tmp 42) 2, type := 2, pos := "l11_fields.go:176", after := #[{ on := 1, ground := Go.Ground.data }, { on := 11, ground := Go.Ground.data }], guard := none }) (v := ?_) rfl (by kernel_rfl) (by kernel_rfl) (by kernel_rfl) (fun _ _ _ h => h) (Or.inl ⟨by rfl, ?_⟩) (by assumption) ?_
  rotate_left 1
  · (intro w hSw; (try dsimp only at hSw); go_simp); all_goals (with_reducible rfl)
  try simp only [Act.put, List.setIfInBounds_toArray, List.set_cons_zero, List.set_cons_succ]
  refine wpAnyH_take (i := 13) (oi := { dst := some 10, op := Go.Op.assign (Go.Operand.tmp 43), type := 2, pos := "l11_fields.go:176", after := #[{ on := 12, ground := Go.Ground.data }, { on := 11, ground := Go.Ground.chain }, { on := 0, ground := Go.Ground.phase }, { on := 1, ground := Go.Ground.phase }, { on := 2, ground := Go.Ground.phase }, { on := 3, ground := Go.Ground.phase }, { on := 4, ground := Go.Ground.phase }, { on := 5, ground := Go.Ground.phase }, { on := 6, ground := Go.Ground.phase }, { on := 7, ground := Go.Ground.phase }, { on := 8, ground := Go.Ground.phase }, { on := 9, ground := Go.Ground.phase }, { on := 10, ground := Go.Ground.phase }, { on := 11, ground := Go.Ground.phase }, { on := 12, ground := Go.Ground.phase }], guard := none }) (v := ?_) rfl (by kernel_rfl) (by kernel_rfl) (by kernel_rfl) (fun _ _ _ h => h) (Or.inl ⟨by rfl, ?_⟩) (by assumption) ?_
  rotate_left 1
  · (intro w hSw; (try dsimp only at hSw); go_simp); all_goals (with_reducible rfl)
  try simp only [Act.put, List.setIfInBounds_toArray, List.set_cons_zero, List.set_cons_succ]
  refine wpAnyH_done (by kernel_rfl) ?_ _
  clear c0 c1 c2 c3 c4 hHeld D4d D4 hmx2 hmy2 ew3 ew4 C2
  generalize IntKind.i64.wrap (x3 + u5) = lon at *
  clear hu5 hv5 d0 d1 d2 d3 d4
  go_wp2_with fail
  refine (below_all r _ D5.out.rd 8 (by omega) (by omega)).mono ?_
  rintro e w6 ⟨⟨y, ⟨hy1, hy2⟩, rfl⟩, kk, tt⟩
  replace hy2 : y < 8 := hy2
  have D6 : Hid (DQ r A g lo w w6 x0 x1 x2 x3 x4 (.slice sa n sc) M) := D5.out.turn tt kk (by omega) (by omega) rlo RW
  clear kk tt D5
  by_cases y4 : 4 ≤ y
  · have e0 : (y == 0) = false := by simp; omega
    have e1 : (y == 1) = false := by simp; omega
    have e2 : (y == 2) = false := by simp; omega
    have e3 : (y == 3) = false := by simp; omega
    have DD : Hid (DQ r A g lo w w6 x0 x1 x2 x3 x4 (.slice sa n sc) M) := D6.out
    clear D6
    obtain ⟨y0', y1', y2', y3', y4', yf⟩ := DD.out.gb.cells
    obtain ⟨a0, a1, a2, a3, a4, af⟩ := DD.out.ab.cells
    have f0 := af 0; have f1 := af 1; have f2 := af 2; have f3 := af 3; have f4 := af 4
    have HF := FIN.out _ DD.out (.int .i64 x0) (.int .i64 x1) (.int .i64 x2) (.int .i64 x3) (.int .i64 x4)
    have HFF : Hid (_ ∧ _) := HF
    clear yf af HF DD
    go_wp2_with fail
    exact bodyPost_ret (v := .tuple #[gv x0 x1 x2 x3 x4, .slice sa n sc, .int .i64 (lat), .int .i64 (lon)]) (by simp [results, Try.results5, go_sem, a0, a1, a2, a3, a4]) rfl ⟨x0, x1, x2, x3, x4, .slice sa n sc, M, (lat), (lon), rfl, HQ.out, HFF.out.1, HB.out, by have := HN.out; omega, HFF.out.2⟩
  have D6d : Hid (DQ r A g lo w w6.drew x0 x1 x2 x3 x4 (.slice sa n sc) M) := D6.out.drew
  obtain ⟨c0, c1, c2, c3, c4, cf⟩ := D6.out.gb.cells
  clear cf
  by_cases y0 : y = 0
  · subst y0
    go_upto_region 7 with fail
    refine wp_region_held_drew (S := (fun w' => w'.cell? ⟨g, 0, none⟩ = some (.int .i64 x0) ∧ w'.cell? ⟨g, 1, none⟩ = some (.int .i64 x1) ∧ w'.cell? ⟨g, 2, none⟩ = some (.int .i64 x2) ∧ w'.cell? ⟨g, 3, none⟩ = some (.int .i64 x3) ∧ w'.cell? ⟨g, 4, none⟩ = some (.int .i64 x4))) (by kernel_rfl) (by (try dsimp only); go_keep) (fun hHeld => ?_)
    refine wpAnyH_take (i := 0) (oi := { dst := some 48, op := Go.Op.fieldAddr 25 (Go.Operand.tmp 7) 2, type := 0, pos := "l11_fields.go:179", after := #[], guard := none }) (v := ?_) rfl (by kernel_rfl) (by kernel_rfl) (by kernel_rfl) (fun _ _ _ h => h) (Or.inl ⟨by rfl, ?_⟩) (by assumption) ?_
    rotate_left 1
    · (intro w hSw; (try dsimp only at hSw); go_simp); all_goals (with_reducible rfl)
    try simp only [Act.put, List.setIfInBounds_toArray, List.set_cons_zero, List.set_cons_succ]
    refine wpAnyH_take (i := 1) (oi := { dst := some 49, op := Go.Op.load 2 (Go.Operand.tmp 48), type := 2, pos := "l11_fields.go:179", after := #[{ on := 0, ground := Go.Ground.data }], guard := none }) (v := ?_) rfl (by kernel_rfl) (by kernel_rfl) (by kernel_rfl) (fun _ _ _ h => h) (Or.inl ⟨by rfl, ?_⟩) (by assumption) ?_
    rotate_left 1
    · (intro w hSw; (try dsimp only at hSw); go_simp); all_goals (with_reducible rfl)
    try simp only [Act.put, List.setIfInBounds_toArray, List.set_cons_zero, List.set_cons_succ]
    refine wpAnyH_take (i := 2) (oi := { dst := some 50, op := Go.Op.move (Go.Operand.tmp 6), type := 33, pos := "l11_fields.go:179", after := #[], guard := none }) (v := ?_) rfl (by kernel_rfl) (by kernel_rfl) (by kernel_rfl) (fun _ _ _ h => h) (Or.inl ⟨by rfl, ?_⟩) (by assumption) ?_
    rotate_left 1
    · (intro w hSw; (try dsimp only at hSw); go_simp); all_goals (with_reducible rfl)
    try simp only [Act.put, List.setIfInBounds_toArray, List.set_cons_zero, List.set_cons_succ]
    refine wpAnyH_take (i := 4) (oi := { dst := some 52, op := Go.Op.fieldAddr 25 (Go.Operand.tmp 7) 4, type := 0, pos := "l11_fields.go:179", after := #[], guard := none }) (v := ?_) rfl (by kernel_rfl) (by kernel_rfl) (by kernel_rfl) (fun _ _ _ h => h) (Or.inl ⟨by rfl, ?_⟩) (by assumption) ?_
    rotate_left 1
    · (intro w hSw; (try dsimp only at hSw); go_simp); all_goals (with_reducible rfl)
    try simp only [Act.put, List.setIfInBounds_toArray, List.set_cons_zero, List.set_cons_succ]
    refine wpAnyH_take (i := 5) (oi := { dst := some 53, op := Go.Op.load 2 (Go.Operand.tmp 52), type := 2, pos := "l11_fields.go:179", after := #[{ on := 4, ground := Go.Ground.data }], guard := none }) (v := ?_) rfl (by kernel_rfl) (by kernel_rfl) (by kernel_rfl) (fun _ _ _ h => h) (Or.inl ⟨by rfl, ?_⟩) (by assumption) ?_
    rotate_left 1
    · (intro w hSw; (try dsimp only at hSw); go_simp); all_goals (with_reducible rfl)
    try simp only [Act.put, List.setIfInBounds_toArray, List.set_cons_zero, List.set_cons_succ]
    refine wpAnyH_ready (rs := [3]) (by kernel_rfl) (by simp) ?_
    refine AllReadyH.cons (o := { dst := some 51, op := Go.Op.call { callee := Go.Callee.value (Go.Operand.func 10), args := #[Go.Operand.tmp 50, Go.Operand.const (Go.Value.int Go.IntKind.i64 4)], argTypes := #[33, 3] }, type := 3, pos := "l11_fields.go:179", after := #[{ on := 2, ground := Go.Ground.data }], guard := none }) rfl (fun K hK => ?_) AllReadyH.nil
    go_simp
    refine (C4.out _ D6d.out.rd).mono ?_; rintro e w7 ⟨⟨u7, ⟨hu7, hv7⟩, rfl⟩, kk, tt⟩; have D7 : Hid (DQ r A g lo w w7 x0 x1 x2 x3 x4 (.slice sa n sc) M) := D6d.out.turn tt kk (by omega) (by omega) rlo RW; obtain ⟨d0, d1, d2, d3, d4, df⟩ := D7.out.gb.cells; clear kk tt df
    go_wp2_with fail
    refine hK.out _ _ (by (try dsimp only); go_keep) (fun hHeld2 => ?_)
    clear hK K hHeld
    have hHeld := hHeld2
    clear hHeld2
    try simp only [Act.put, List.setIfInBounds_toArray, List.set_cons_zero, List.set_cons_succ]
    refine wpAnyH_take (i := 6) (oi := { dst := some 54, op := Go.Op.binOp Go.BinOp.mul 2 (Go.Operand.tmp 51) (Go.Operand.tmp 53) 2, type := 2, pos := "l11_fields.go:179", after := #[{ on := 3, ground := Go.Ground.data }, { on := 5, ground := Go.Ground.data }], guard := none }) (v := ?_) rfl (by kernel_rfl) (by kernel_rfl) (by kernel_rfl) (fun _ _ _ h => h) (Or.inl ⟨by rfl, ?_⟩) (by assumption) ?_
    rotate_left 1
    · (intro w hSw; (try dsimp only at hSw); go_simp); all_goals (with_reducible rfl)
    try simp only [Act.put, List.setIfInBounds_toArray, List.set_cons_zero, List.set_cons_succ]
    refine wpAnyH_take (i := 7) (oi := { dst := some 55, op := Go.Op.binOp Go.BinOp.add 2 (Go.Operand.tmp 49) (Go.Operand.tmp 54) 2, type := 2, pos := "l11_fields.go:179", after := #[{ on := 1, ground := Go.Ground.data }, { on := 6, ground := Go.Ground.data }], guard := none }) (v := ?_) rfl (by kernel_rfl) (by kernel_rfl) (by kernel_rfl) (fun _ _ _ h => h) (Or.inl ⟨by rfl, ?_⟩) (by assumption) ?_
    rotate_left 1
    · (intro w hSw; (try dsimp only at hSw); go_simp); all_goals (with_reducible rfl)
    try simp only [Act.put, List.setIfInBounds_toArray, List.set_cons_zero, List.set_cons_succ]
    refine wpAnyH_take (i := 8) (oi := { dst := some 9, op := Go.Op.assign (Go.Operand.tmp 55), type := 2, pos := "l11_fields.go:179", after := #[{ on := 7, ground := Go.Ground.data }, { on := 3, ground := Go.Ground.chain }, { on := 0, ground := Go.Ground.phase }, { on := 1, ground := Go.Ground.phase }, { on := 2, ground := Go.Ground.phase }, { on := 3, ground := Go.Ground.phase }, { on := 4, ground := Go.Ground.phase }, { on := 5, ground := Go.Ground.phase }, { on := 6, ground := Go.Ground.phase }, { on := 7, ground := Go.Ground.phase }], guard := none }) (v := ?_) rfl (by kernel_rfl) (by kernel_rfl) (by kernel_rfl) (fun _ _ _ h => h) (Or.inl ⟨by rfl, ?_⟩) (by assumption) ?_
    rotate_left 1
    · (intro w hSw; (try dsimp only at hSw); go_simp); all_goals (with_reducible rfl)
    try simp only [Act.put, List.setIfInBounds_toArray, List.set_cons_zero, List.set_cons_succ]
    refine wpAnyH_done (by kernel_rfl) ?_ _
    have DD : Hid (DQ r A g lo w w7 x0 x1 x2 x3 x4 (.slice sa n sc) M) := D7.out
    clear c0 c1 c2 c3 c4 hHeld D6d D6 d0 d1 d2 d3 d4 D7
    obtain ⟨y0', y1', y2', y3', y4', yf⟩ := DD.out.gb.cells
    obtain ⟨a0, a1, a2, a3, a4, af⟩ := DD.out.ab.cells
    have f0 := af 0; have f1 := af 1; have f2 := af 2; have f3 := af 3; have f4 := af 4
    have HF := FIN.out _ DD.out (.int .i64 x0) (.int .i64 x1) (.int .i64 x2) (.int .i64 x3) (.int .i64 x4)
    have HFF : Hid (_ ∧ _) := HF
    clear yf af HF DD
    go_wp2_with fail
    exact bodyPost_ret (v := .tuple #[gv x0 x1 x2 x3 x4, .slice sa n sc, .int .i64 (IntKind.i64.wrap (x2 + IntKind.i64.wrap (u7 * x4))), .int .i64 (lon)]) (by simp [results, Try.results5, go_sem, a0, a1, a2, a3, a4]) rfl ⟨x0, x1, x2, x3, x4, .slice sa n sc, M, (IntKind.i64.wrap (x2 + IntKind.i64.wrap (u7 * x4))), (lon), rfl, HQ.out, HFF.out.1, HB.out, by have := HN.out; omega, HFF.out.2⟩
  by_cases y1 : y = 1
  · subst y1
    go_upto_region 9 with fail
    refine wp_region_held_drew (S := (fun w' => w'.cell? ⟨g, 0, none⟩ = some (.int .i64 x0) ∧ w'.cell? ⟨g, 1, none⟩ = some (.int .i64 x1) ∧ w'.cell? ⟨g, 2, none⟩ = some (.int .i64 x2) ∧ w'.cell? ⟨g, 3, none⟩ = some (.int .i64 x3) ∧ w'.cell? ⟨g, 4, none⟩ = some (.int .i64 x4))) (by kernel_rfl) (by (try dsimp only); go_keep) (fun hHeld => ?_)
    refine wpAnyH_take (i := 0) (oi := { dst := some 58, op := Go.Op.fieldAddr 25 (Go.Operand.tmp 7) 3, type := 0, pos := "l11_fields.go:181", after := #[], guard := none }) (v := ?_) rfl (by kernel_rfl) (by kernel_rfl) (by kernel_rfl) (fun _ _ _ h => h) (Or.inl ⟨by rfl, ?_⟩) (by assumption) ?_
    rotate_left 1
    · (intro w hSw; (try dsimp only at hSw); go_simp); all_goals (with_reducible rfl)
    try simp only [Act.put, List.setIfInBounds_toArray, List.set_cons_zero, List.set_cons_succ]
    refine wpAnyH_take (i := 1) (oi := { dst := some 59, op := Go.Op.load 2 (Go.Operand.tmp 58), type := 2, pos := "l11_fields.go:181", after := #[{ on := 0, ground := Go.Ground.data }], guard := none }) (v := ?_) rfl (by kernel_rfl) (by kernel_rfl) (by kernel_rfl) (fun _ _ _ h => h) (Or.inl ⟨by rfl, ?_⟩) (by assumption) ?_
    rotate_left 1
    · (intro w hSw; (try dsimp only at hSw); go_simp); all_goals (with_reducible rfl)
    try simp only [Act.put, List.setIfInBounds_toArray, List.set_cons_zero, List.set_cons_succ]
    refine wpAnyH_take (i := 2) (oi := { dst := some 60, op := Go.Op.move (Go.Operand.tmp 6), type := 33, pos := "l11_fields.go:181", after := #[], guard := none }) (v := ?_) rfl (by kernel_rfl) (by kernel_rfl) (by kernel_rfl) (fun _ _ _ h => h) (Or.inl ⟨by rfl, ?_⟩) (by assumption) ?_
    rotate_left 1
    · (intro w hSw; (try dsimp only at hSw); go_simp); all_goals (with_reducible rfl)
    try simp only [Act.put, List.setIfInBounds_toArray, List.set_cons_zero, List.set_cons_succ]
    refine wpAnyH_take (i := 4) (oi := { dst := some 62, op := Go.Op.fieldAddr 25 (Go.Operand.tmp 7) 4, type := 0, pos := "l11_fields.go:181", after := #[], guard := none }) (v := ?_) rfl (by kernel_rfl) (by kernel_rfl) (by kernel_rfl) (fun _ _ _ h => h) (Or.inl ⟨by rfl, ?_⟩) (by assumption) ?_
    rotate_left 1
    · (intro w hSw; (try dsimp only at hSw); go_simp); all_goals (with_reducible rfl)
    try simp only [Act.put, List.setIfInBounds_toArray, List.set_cons_zero, List.set_cons_succ]
    refine wpAnyH_take (i := 5) (oi := { dst := some 63, op := Go.Op.load 2 (Go.Operand.tmp 62), type := 2, pos := "l11_fields.go:181", after := #[{ on := 4, ground := Go.Ground.data }], guard := none }) (v := ?_) rfl (by kernel_rfl) (by kernel_rfl) (by kernel_rfl) (fun _ _ _ h => h) (Or.inl ⟨by rfl, ?_⟩) (by assumption) ?_
    rotate_left 1
    · (intro w hSw; (try dsimp only at hSw); go_simp); all_goals (with_reducible rfl)
    try simp only [Act.put, List.setIfInBounds_toArray, List.set_cons_zero, List.set_cons_succ]
    refine wpAnyH_ready (rs := [3]) (by kernel_rfl) (by simp) ?_
    refine AllReadyH.cons (o := { dst := some 61, op := Go.Op.call { callee := Go.Callee.value (Go.Operand.func 10), args := #[Go.Operand.tmp 60, Go.Operand.const (Go.Value.int Go.IntKind.i64 4)], argTypes := #[33, 3] }, type := 3, pos := "l11_fields.go:181", after := #[{ on := 2, ground := Go.Ground.data }], guard := none }) rfl (fun K hK => ?_) AllReadyH.nil
    go_simp
    refine (C4.out _ D6d.out.rd).mono ?_; rintro e w7 ⟨⟨u7, ⟨hu7, hv7⟩, rfl⟩, kk, tt⟩; have D7 : Hid (DQ r A g lo w w7 x0 x1 x2 x3 x4 (.slice sa n sc) M) := D6d.out.turn tt kk (by omega) (by omega) rlo RW; obtain ⟨d0, d1, d2, d3, d4, df⟩ := D7.out.gb.cells; clear kk tt df
    go_wp2_with fail
    refine hK.out _ _ (by (try dsimp only); go_keep) (fun hHeld2 => ?_)
    clear hK K hHeld
    have hHeld := hHeld2
    clear hHeld2
    try simp only [Act.put, List.setIfInBounds_toArray, List.set_cons_zero, List.set_cons_succ]
    refine wpAnyH_take (i := 6) (oi := { dst := some 64, op := Go.Op.binOp Go.BinOp.mul 2 (Go.Operand.tmp 61) (Go.Operand.tmp 63) 2, type := 2, pos := "l11_fields.go:181", after := #[{ on := 3, ground := Go.Ground.data }, { on := 5, ground := Go.Ground.data }], guard := none }) (v := ?_) rfl (by kernel_rfl) (by kernel_rfl) (by kernel_rfl) (fun _ _ _ h => h) (Or.inl ⟨by rfl, ?_⟩) (by assumption) ?_
    rotate_left 1
    · (intro w hSw; (try dsimp only at hSw); go_simp); all_goals (with_reducible rfl)
    try simp only [Act.put, List.setIfInBounds_toArray, List.set_cons_zero, List.set_cons_succ]
    refine wpAnyH_take (i := 7) (oi := { dst := some 65, op := Go.Op.binOp Go.BinOp.add 2 (Go.Operand.tmp 59) (Go.Operand.tmp 64) 2, type := 2, pos := "l11_fields.go:181", after := #[{ on := 1, ground := Go.Ground.data }, { on := 6, ground := Go.Ground.data }], guard := none }) (v := ?_) rfl (by kernel_rfl) (by kernel_rfl) (by kernel_rfl) (fun _ _ _ h => h) (Or.inl ⟨by rfl, ?_⟩) (by assumption) ?_
    rotate_left 1
    · (intro w hSw; (try dsimp only at hSw); go_simp); all_goals (with_reducible rfl)
    try simp only [Act.put, List.setIfInBounds_toArray, List.set_cons_zero, List.set_cons_succ]
    refine wpAnyH_take (i := 8) (oi := { dst := some 10, op := Go.Op.assign (Go.Operand.tmp 65), type := 2, pos := "l11_fields.go:181", after := #[{ on := 7, ground := Go.Ground.data }, { on := 3, ground := Go.Ground.chain }, { on := 0, ground := Go.Ground.phase }, { on := 1, ground := Go.Ground.phase }, { on := 2, ground := Go.Ground.phase }, { on := 3, ground := Go.Ground.phase }, { on := 4, ground := Go.Ground.phase }, { on := 5, ground := Go.Ground.phase }, { on := 6, ground := Go.Ground.phase }, { on := 7, ground := Go.Ground.phase }], guard := none }) (v := ?_) rfl (by kernel_rfl) (by kernel_rfl) (by kernel_rfl) (fun _ _ _ h => h) (Or.inl ⟨by rfl, ?_⟩) (by assumption) ?_
    rotate_left 1
    · (intro w hSw; (try dsimp only at hSw); go_simp); all_goals (with_reducible rfl)
    try simp only [Act.put, List.setIfInBounds_toArray, List.set_cons_zero, List.set_cons_succ]
    refine wpAnyH_done (by kernel_rfl) ?_ _
    have DD : Hid (DQ r A g lo w w7 x0 x1 x2 x3 x4 (.slice sa n sc) M) := D7.out
    clear c0 c1 c2 c3 c4 hHeld D6d D6 d0 d1 d2 d3 d4 D7
    obtain ⟨y0', y1', y2', y3', y4', yf⟩ := DD.out.gb.cells
    obtain ⟨a0, a1, a2, a3, a4, af⟩ := DD.out.ab.cells
    have f0 := af 0; have f1 := af 1; have f2 := af 2; have f3 := af 3; have f4 := af 4
    have HF := FIN.out _ DD.out (.int .i64 x0) (.int .i64 x1) (.int .i64 x2) (.int .i64 x3) (.int .i64 x4)
    have HFF : Hid (_ ∧ _) := HF
    clear yf af HF DD
    go_wp2_with fail
    exact bodyPost_ret (v := .tuple #[gv x0 x1 x2 x3 x4, .slice sa n sc, .int .i64 (lat), .int .i64 (IntKind.i64.wrap (x3 + IntKind.i64.wrap (u7 * x4)))]) (by simp [results, Try.results5, go_sem, a0, a1, a2, a3, a4]) rfl ⟨x0, x1, x2, x3, x4, .slice sa n sc, M, (lat), (IntKind.i64.wrap (x3 + IntKind.i64.wrap (u7 * x4))), rfl, HQ.out, HFF.out.1, HB.out, by have := HN.out; omega, HFF.out.2⟩
  by_cases y2 : y = 2
  · subst y2
    go_upto_region 11 with fail
    refine wp_region_held_drew (S := (fun w' => w'.cell? ⟨g, 0, none⟩ = some (.int .i64 x0) ∧ w'.cell? ⟨g, 1, none⟩ = some (.int .i64 x1) ∧ w'.cell? ⟨g, 2, none⟩ = some (.int .i64 x2) ∧ w'.cell? ⟨g, 3, none⟩ = some (.int .i64 x3) ∧ w'.cell? ⟨g, 4, none⟩ = some (.int .i64 x4))) (by kernel_rfl) (by (try dsimp only); go_keep) (fun hHeld => ?_)
    refine wpAnyH_take (i := 0) (oi := { dst := some 68, op := Go.Op.fieldAddr 25 (Go.Operand.tmp 7) 2, type := 0, pos := "l11_fields.go:183", after := #[], guard := none }) (v := ?_) rfl (by kernel_rfl) (by kernel_rfl) (by kernel_rfl) (fun _ _ _ h => h) (Or.inl ⟨by rfl, ?_⟩) (by assumption) ?_
    rotate_left 1
    · (intro w hSw; (try dsimp only at hSw); go_simp); all_goals (with_reducible rfl)
    try simp only [Act.put, List.setIfInBounds_toArray, List.set_cons_zero, List.set_cons_succ]
    refine wpAnyH_take (i := 1) (oi := { dst := some 69, op := Go.Op.load 2 (Go.Operand.tmp 68), type := 2, pos := "l11_fields.go:183", after := #[{ on := 0, ground := Go.Ground.data }], guard := none }) (v := ?_) rfl (by kernel_rfl) (by kernel_rfl) (by kernel_rfl) (fun _ _ _ h => h) (Or.inl ⟨by rfl, ?_⟩) (by assumption) ?_
    rotate_left 1
    · (intro w hSw; (try dsimp only at hSw); go_simp); all_goals (with_reducible rfl)
    try simp only [Act.put, List.setIfInBounds_toArray, List.set_cons_zero, List.set_cons_succ]
    refine wpAnyH_take (i := 2) (oi := { dst := some 70, op := Go.Op.move (Go.Operand.tmp 6), type := 33, pos := "l11_fields.go:183", after := #[], guard := none }) (v := ?_) rfl (by kernel_rfl) (by kernel_rfl) (by kernel_rfl) (fun _ _ _ h => h) (Or.inl ⟨by rfl, ?_⟩) (by assumption) ?_
    rotate_left 1
    · (intro w hSw; (try dsimp only at hSw); go_simp); all_goals (with_reducible rfl)
    try simp only [Act.put, List.setIfInBounds_toArray, List.set_cons_zero, List.set_cons_succ]
    refine wpAnyH_take (i := 4) (oi := { dst := some 72, op := Go.Op.fieldAddr 25 (Go.Operand.tmp 7) 4, type := 0, pos := "l11_fields.go:183", after := #[], guard := none }) (v := ?_) rfl (by kernel_rfl) (by kernel_rfl) (by kernel_rfl) (fun _ _ _ h => h) (Or.inl ⟨by rfl, ?_⟩) (by assumption) ?_
    rotate_left 1
    · (intro w hSw; (try dsimp only at hSw); go_simp); all_goals (with_reducible rfl)
    try simp only [Act.put, List.setIfInBounds_toArray, List.set_cons_zero, List.set_cons_succ]
    refine wpAnyH_take (i := 5) (oi := { dst := some 73, op := Go.Op.load 2 (Go.Operand.tmp 72), type := 2, pos := "l11_fields.go:183", after := #[{ on := 4, ground := Go.Ground.data }], guard := none }) (v := ?_) rfl (by kernel_rfl) (by kernel_rfl) (by kernel_rfl) (fun _ _ _ h => h) (Or.inl ⟨by rfl, ?_⟩) (by assumption) ?_
    rotate_left 1
    · (intro w hSw; (try dsimp only at hSw); go_simp); all_goals (with_reducible rfl)
    try simp only [Act.put, List.setIfInBounds_toArray, List.set_cons_zero, List.set_cons_succ]
    refine wpAnyH_ready (rs := [3]) (by kernel_rfl) (by simp) ?_
    refine AllReadyH.cons (o := { dst := some 71, op := Go.Op.call { callee := Go.Callee.value (Go.Operand.func 10), args := #[Go.Operand.tmp 70, Go.Operand.const (Go.Value.int Go.IntKind.i64 4)], argTypes := #[33, 3] }, type := 3, pos := "l11_fields.go:183", after := #[{ on := 2, ground := Go.Ground.data }], guard := none }) rfl (fun K hK => ?_) AllReadyH.nil
    go_simp
    refine (C4.out _ D6d.out.rd).mono ?_; rintro e w7 ⟨⟨u7, ⟨hu7, hv7⟩, rfl⟩, kk, tt⟩; have D7 : Hid (DQ r A g lo w w7 x0 x1 x2 x3 x4 (.slice sa n sc) M) := D6d.out.turn tt kk (by omega) (by omega) rlo RW; obtain ⟨d0, d1, d2, d3, d4, df⟩ := D7.out.gb.cells; clear kk tt df
    go_wp2_with fail
    refine hK.out _ _ (by (try dsimp only); go_keep) (fun hHeld2 => ?_)
    clear hK K hHeld
    have hHeld := hHeld2
    clear hHeld2
    try simp only [Act.put, List.setIfInBounds_toArray, List.set_cons_zero, List.set_cons_succ]
    refine wpAnyH_take (i := 6) (oi := { dst := some 74, op := Go.Op.binOp Go.BinOp.mul 2 (Go.Operand.tmp 71) (Go.Operand.tmp 73) 2, type := 2, pos := "l11_fields.go:183", after := #[{ on := 3, ground := Go.Ground.data }, { on := 5, ground := Go.Ground.data }], guard := none }) (v := ?_) rfl (by kernel_rfl) (by kernel_rfl) (by kernel_rfl) (fun _ _ _ h => h) (Or.inl ⟨by rfl, ?_⟩) (by assumption) ?_
    rotate_left 1
    · (intro w hSw; (try dsimp only at hSw); go_simp); all_goals (with_reducible rfl)
    try simp only [Act.put, List.setIfInBounds_toArray, List.set_cons_zero, List.set_cons_succ]
    refine wpAnyH_take (i := 7) (oi := { dst := some 75, op := Go.Op.binOp Go.BinOp.add 2 (Go.Operand.tmp 69) (Go.Operand.tmp 74) 2, type := 2, pos := "l11_fields.go:183", after := #[{ on := 1, ground := Go.Ground.data }, { on := 6, ground := Go.Ground.data }], guard := none }) (v := ?_) rfl (by kernel_rfl) (by kernel_rfl) (by kernel_rfl) (fun _ _ _ h => h) (Or.inl ⟨by rfl, ?_⟩) (by assumption) ?_
    rotate_left 1
    · (intro w hSw; (try dsimp only at hSw); go_simp); all_goals (with_reducible rfl)
    try simp only [Act.put, List.setIfInBounds_toArray, List.set_cons_zero, List.set_cons_succ]
    refine wpAnyH_take (i := 8) (oi := { dst := some 9, op := Go.Op.assign (Go.Operand.tmp 75), type := 2, pos := "l11_fields.go:183", after := #[{ on := 7, ground := Go.Ground.data }, { on := 3, ground := Go.Ground.chain }, { on := 0, ground := Go.Ground.phase }, { on := 1, ground := Go.Ground.phase }, { on := 2, ground := Go.Ground.phase }, { on := 3, ground := Go.Ground.phase }, { on := 4, ground := Go.Ground.phase }, { on := 5, ground := Go.Ground.phase }, { on := 6, ground := Go.Ground.phase }, { on := 7, ground := Go.Ground.phase }], guard := none }) (v := ?_) rfl (by kernel_rfl) (by kernel_rfl) (by kernel_rfl) (fun _ _ _ h => h) (Or.inl ⟨by rfl, ?_⟩) (by assumption) ?_
    rotate_left 1
    · (intro w hSw; (try dsimp only at hSw); go_simp); all_goals (with_reducible rfl)
    try simp only [Act.put, List.setIfInBounds_toArray, List.set_cons_zero, List.set_cons_succ]
    refine wpAnyH_done (by kernel_rfl) ?_ _
    clear c0 c1 c2 c3 c4 hHeld D6d D6 d0 d1 d2 d3 d4
    have D7d : Hid (DQ r A g lo w w7.drew x0 x1 x2 x3 x4 (.slice sa n sc) M) := D7.out.drew
    obtain ⟨c0, c1, c2, c3, c4, cf⟩ := D7.out.gb.cells
    clear cf
    generalize IntKind.i64.wrap (x2 + IntKind.i64.wrap (u7 * x4)) = lat2 at *
    go_upto_region 12 with fail
    refine wp_region_held_drew (S := (fun w' => w'.cell? ⟨g, 0, none⟩ = some (.int .i64 x0) ∧ w'.cell? ⟨g, 1, none⟩ = some (.int .i64 x1) ∧ w'.cell? ⟨g, 2, none⟩ = some (.int .i64 x2) ∧ w'.cell? ⟨g, 3, none⟩ = some (.int .i64 x3) ∧ w'.cell? ⟨g, 4, none⟩ = some (.int .i64 x4))) (by kernel_rfl) (by (try dsimp only); go_keep) (fun hHeld => ?_)
    refine wpAnyH_take (i := 0) (oi := { dst := some 76, op := Go.Op.fieldAddr 25 (Go.Operand.tmp 7) 3, type := 0, pos := "l11_fields.go:184", after := #[], guard := none }) (v := ?_) rfl (by kernel_rfl) (by kernel_rfl) (by kernel_rfl) (fun _ _ _ h => h) (Or.inl ⟨by rfl, ?_⟩) (by assumption) ?_
    rotate_left 1
    · (intro w hSw; (try dsimp only at hSw); go_simp); all_goals (with_reducible rfl)
    try simp only [Act.put, List.setIfInBounds_toArray, List.set_cons_zero, List.set_cons_succ]
    refine wpAnyH_take (i := 1) (oi := { dst := some 77, op := Go.Op.load 2 (Go.Operand.tmp 76), type := 2, pos := "l11_fields.go:184", after := #[{ on := 0, ground := Go.Ground.data }], guard := none }) (v := ?_) rfl (by kernel_rfl) (by kernel_rfl) (by kernel_rfl) (fun _ _ _ h => h) (Or.inl ⟨by rfl, ?_⟩) (by assumption) ?_
    rotate_left 1
    · (intro w hSw; (try dsimp only at hSw); go_simp); all_goals (with_reducible rfl)
    try simp only [Act.put, List.setIfInBounds_toArray, List.set_cons_zero, List.set_cons_succ]
    refine wpAnyH_take (i := 2) (oi := { dst := some 78, op := Go.Op.move (Go.Operand.tmp 6), type := 33, pos := "l11_fields.go:184", after := #[], guard := none }) (v := ?_) rfl (by kernel_rfl) (by kernel_rfl) (by kernel_rfl) (fun _ _ _ h => h) (Or.inl ⟨by rfl, ?_⟩) (by assumption) ?_
    rotate_left 1
    · (intro w hSw; (try dsimp only at hSw); go_simp); all_goals (with_reducible rfl)
    try simp only [Act.put, List.setIfInBounds_toArray, List.set_cons_zero, List.set_cons_succ]
    refine wpAnyH_take (i := 4) (oi := { dst := some 80, op := Go.Op.fieldAddr 25 (Go.Operand.tmp 7) 4, type := 0, pos := "l11_fields.go:184", after := #[], guard := none }) (v := ?_) rfl (by kernel_rfl) (by kernel_rfl) (by kernel_rfl) (fun _ _ _ h => h) (Or.inl ⟨by rfl, ?_⟩) (by assumption) ?_
    rotate_left 1
    · (intro w hSw; (try dsimp only at hSw); go_simp); all_goals (with_reducible rfl)
    try simp only [Act.put, List.setIfInBounds_toArray, List.set_cons_zero, List.set_cons_succ]
    refine wpAnyH_take (i := 5) (oi := { dst := some 81, op := Go.Op.load 2 (Go.Operand.tmp 80), type := 2, pos := "l11_fields.go:184", after := #[{ on := 4, ground := Go.Ground.data }], guard := none }) (v := ?_) rfl (by kernel_rfl) (by kernel_rfl) (by kernel_rfl) (fun _ _ _ h => h) (Or.inl ⟨by rfl, ?_⟩) (by assumption) ?_
    rotate_left 1
    · (intro w hSw; (try dsimp only at hSw); go_simp); all_goals (with_reducible rfl)
    try simp only [Act.put, List.setIfInBounds_toArray, List.set_cons_zero, List.set_cons_succ]
    refine wpAnyH_ready (rs := [3]) (by kernel_rfl) (by simp) ?_
    refine AllReadyH.cons (o := { dst := some 79, op := Go.Op.call { callee := Go.Callee.value (Go.Operand.func 10), args := #[Go.Operand.tmp 78, Go.Operand.const (Go.Value.int Go.IntKind.i64 4)], argTypes := #[33, 3] }, type := 3, pos := "l11_fields.go:184", after := #[{ on := 2, ground := Go.Ground.data }], guard := none }) rfl (fun K hK => ?_) AllReadyH.nil
    go_simp
    refine (C4.out _ D7d.out.rd).mono ?_; rintro e w8 ⟨⟨u8, ⟨hu8, hv8⟩, rfl⟩, kk, tt⟩; have D8 : Hid (DQ r A g lo w w8 x0 x1 x2 x3 x4 (.slice sa n sc) M) := D7d.out.turn tt kk (by omega) (by omega) rlo RW; obtain ⟨d0, d1, d2, d3, d4, df⟩ := D8.out.gb.cells; clear kk tt df
    go_wp2_with fail
    refine hK.out _ _ (by (try dsimp only); go_keep) (fun hHeld2 => ?_)
    clear hK K hHeld
    have hHeld := hHeld2
    clear hHeld2
    try simp only [Act.put, List.setIfInBounds_toArray, List.set_cons_zero, List.set_cons_succ]
    refine wpAnyH_take (i := 6) (oi := { dst := some 82, op := Go.Op.binOp Go.BinOp.mul 2 (Go.Operand.tmp 79) (Go.Operand.tmp 81) 2, type := 2, pos := "l11_fields.go:184", after := #[{ on := 3, ground := Go.Ground.data }, { on := 5, ground := Go.Ground.data }], guard := none }) (v := ?_) rfl (by kernel_rfl) (by kernel_rfl) (by kernel_rfl) (fun _ _ _ h => h) (Or.inl ⟨by rfl, ?_⟩) (by assumption) ?_
    rotate_left 1
    · (intro w hSw; (try dsimp only at hSw); go_simp); all_goals (with_reducible rfl)
    try simp only [Act.put, List.setIfInBounds_toArray, List.set_cons_zero, List.set_cons_succ]
    refine wpAnyH_take (i := 7) (oi := { dst := some 83, op := Go.Op.binOp Go.BinOp.add 2 (Go.Operand.tmp 77) (Go.Operand.tmp 82) 2, type := 2, pos := "l11_fields.go:184", after := #[{ on := 1, ground := Go.Ground.data }, { on := 6, ground := Go.Ground.data }], guard := none }) (v := ?_) rfl (by kernel_rfl) (by kernel_rfl) (by kernel_rfl) (fun _ _ _ h => h) (Or.inl ⟨by rfl, ?_⟩) (by assumption) ?_
    rotate_left 1
    · (intro w hSw; (try dsimp only at hSw); go_simp); all_goals (with_reducible rfl)
    try simp only [Act.put, List.setIfInBounds_toArray, List.set_cons_zero, List.set_cons_succ]
    refine wpAnyH_take (i := 8) (oi := { dst := some 10, op := Go.Op.assign (Go.Operand.tmp 83), type := 2, pos := "l11_fields.go:184", after := #[{ on := 7, ground := Go.Ground.data }, { on := 3, ground := Go.Ground.chain }, { on := 0, ground := Go.Ground.phase }, { on := 1, ground := Go.Ground.phase }, { on := 2, ground := Go.Ground.phase }, { on := 3, ground := Go.Ground.phase }, { on := 4, ground := Go.Ground.phase }, { on := 5, ground := Go.Ground.phase }, { on := 6, ground := Go.Ground.phase }, { on := 7, ground := Go.Ground.phase }], guard := none }) (v := ?_) rfl (by kernel_rfl) (by kernel_rfl) (by kernel_rfl) (fun _ _ _ h => h) (Or.inl ⟨by rfl, ?_⟩) (by assumption) ?_
    rotate_left 1
    · (intro w hSw; (try dsimp only at hSw); go_simp); all_goals (with_reducible rfl)
    try simp only [Act.put, List.setIfInBounds_toArray, List.set_cons_zero, List.set_cons_succ]
    refine wpAnyH_done (by kernel_rfl) ?_ _
    have DD : Hid (DQ r A g lo w w8 x0 x1 x2 x3 x4 (.slice sa n sc) M) := D8.out
    clear c0 c1 c2 c3 c4 hHeld D7d D7 d0 d1 d2 d3 d4 D8
    obtain ⟨y0', y1', y2', y3', y4', yf⟩ := DD.out.gb.cells
    obtain ⟨a0, a1, a2, a3, a4, af⟩ := DD.out.ab.cells
    have f0 := af 0; have f1 := af 1; have f2 := af 2; have f3 := af 3; have f4 := af 4
    have HF := FIN.out _ DD.out (.int .i64 x0) (.int .i64 x1) (.int .i64 x2) (.int .i64 x3) (.int .i64 x4)
    have HFF : Hid (_ ∧ _) := HF
    clear yf af HF DD
    go_wp2_with fail
    exact bodyPost_ret (v := .tuple #[gv x0 x1 x2 x3 x4, .slice sa n sc, .int .i64 (lat2), .int .i64 (IntKind.i64.wrap (x3 + IntKind.i64.wrap (u8 * x4)))]) (by simp [results, Try.results5, go_sem, a0, a1, a2, a3, a4]) rfl ⟨x0, x1, x2, x3, x4, .slice sa n sc, M, (lat2), (IntKind.i64.wrap (x3 + IntKind.i64.wrap (u8 * x4))), rfl, HQ.out, HFF.out.1, HB.out, by have := HN.out; omega, HFF.out.2⟩
  have y3 : y = 3 := by omega
  subst y3
  clear c0 c1 c2 c3 c4
  go_wp2_with fail
  refine (number_any r _ D6.out.rd).mono ?_
  rintro e w7 ⟨⟨q, _, rfl⟩, kk, tt⟩
  have DD : Hid (DQ r A g lo w w7 x0 x1 x2 x3 x4 (.slice sa n sc) M) := D6.out.turn tt kk (by omega) (by omega) rlo RW
  clear kk tt D6 D6d
  obtain ⟨y0', y1', y2', y3', y4', yf⟩ := DD.out.gb.cells
  obtain ⟨a0, a1, a2, a3, a4, af⟩ := DD.out.ab.cells
  have f0 := af 0; have f1 := af 1; have f2 := af 2; have f3 := af 3; have f4 := af 4
  have HF := FIN.out _ DD.out (.int .i64 x0) (.int .i64 x1) (.int .i64 x2) (.int .i64 x3) (.int .i64 x4)
  have HFF : Hid (_ ∧ _) := HF
  clear yf af HF DD
  go_wp2_with fail
  exact bodyPost_ret (v := .tuple #[gv x0 x1 x2 x3 x4, .slice sa n sc, .int .i64 (q), .int .i64 (lon)]) (by simp [results, Try.results5, go_sem, a0, a1, a2, a3, a4]) rfl ⟨x0, x1, x2, x3, x4, .slice sa n sc, M, (q), (lon), rfl, HQ.out, HFF.out.1, HB.out, by have := HN.out; omega, HFF.out.2⟩
end Go.Proofs.Ytknkmkhnakcjiaa.Gd
