/- A Packed copied. -/
import Derived.Test.YtjphljofhfokeaaXpA
namespace Go.Proofs.Ytjphljofhfokeaa.Pkd
open Go.ChangeShapes Go.WideShapes Go.ChangeAt Go.RowKit
open Go.Proofs.Ytjphljofhfokeaa.Lists Go.Proofs.Ytjphljofhfokeaa.Flt Go.Proofs.Ytjphljofhfokeaa.Fls

theorem row_later_e {e : TypeId} {w w' : World} {base B n : Nat} {v : Value} {xs : List Value} (h : w.ownsRow base e 1 v n xs) (hb : Below B w w') (hB : w.heap.size ≤ B) : w'.ownsRow base e 1 v n xs := by
  refine h.kept (row := none) ⟨hb.os, hb.tape, hb.output, hb.size, fun k hk _ => hb.block k (by omega)⟩ ?_
  by_cases e : v.ownBlock = none
  · exact Or.inl e
  · exact Or.inr e
theorem row_set {e : TypeId} {w : World} {base n : Nat} {v : Value} {xs : List Value} (h : w.ownsRow base e 1 v n xs) (g o : Nat) (u : Value) (hg : g < base) : (w.setCell ⟨g, o, none⟩ u).ownsRow base e 1 v n xs := by
  refine h.kept (row := some g) (grown_setCell (World.grownBy.refl w (some g)) o u) ?_
  cases e : v.ownBlock with
  | none => exact .inl rfl
  | some k =>
    refine .inr fun x => ?_
    have := (h.lt k e).1
    simp at x
    omega
theorem own_down_e {e : TypeId} {w : World} {B B' n : Nat} {v : Value} {xs : List Value} (h : w.ownsRow B e 1 v n xs) (hb : B' ≤ B) : w.ownsRow B' e 1 v n xs := by
  refine ⟨h.1, ?_⟩
  rcases h.2 with h | ⟨gx, cap, cur, h1, h2, h3⟩
  · exact .inl h
  · exact .inr ⟨gx, cap, cur, h1, by omega, h3⟩

set_option maxHeartbeats 1000000 in
theorem to_packed (p : Pk) (tv cv : Value) (w : World) (hT : Bytes.Reads w tv p.th) (hC : Lists.Reads w cv p.cd) (l1 : p.th.length ≤ 1048576) (l2 : p.cd.length ≤ 1048576) :
    Calls Try.prog 15 #[pkv p tv cv] w fun e w' => ∃ g1 g2, e = .returned (pkv p (.slice (some ⟨g1, 0, none⟩) p.th.length p.th.length) (.slice (some ⟨g2, 0, none⟩) p.cd.length p.cd.length)) ∧ w.heap.size ≤ g1 ∧ g1 < g2 ∧ w'.ownsRow w.heap.size 5 1 (.slice (some ⟨g1, 0, none⟩) p.th.length p.th.length) p.th.length (Bytes.bys p.th) ∧ w'.ownsRow w.heap.size 2 1 (.slice (some ⟨g2, 0, none⟩) p.cd.length p.cd.length) p.cd.length (ints p.cd) ∧ Below w.heap.size w w' := by
  unfold pkv
  have TB : Hid (∀ w', Below w.heap.size w w' → Calls Try.prog 35 #[tv] w' fun e w'' => e = .returned (.slice (some ⟨w'.heap.size, 0, none⟩) p.th.length p.th.length) ∧ w''.ownsRow w'.heap.size 5 1 (.slice (some ⟨w'.heap.size, 0, none⟩) p.th.length p.th.length) p.th.length (Bytes.bys p.th) ∧ Below w'.heap.size w' w'') := fun w' hb => Bytes.to_any w' tv p.th (hT.on hb) l1
  have TI : Hid (∀ w', Below w.heap.size w w' → Calls Try.prog 36 #[cv] w' fun e w'' => e = .returned (.slice (some ⟨w'.heap.size, 0, none⟩) p.cd.length p.cd.length) ∧ w''.ownsRow w'.heap.size 2 1 (.slice (some ⟨w'.heap.size, 0, none⟩) p.cd.length p.cd.length) p.cd.length (ints p.cd) ∧ Below w'.heap.size w' w'') := fun w' hb => Lists.to_any w' cv p.cd (hC.on hb) l2
  obtain ⟨w0, hw0⟩ : ∃ w0, w0 = ((w.alloc (Obj.cells #[.int .i64 p.cnt, .int .i64 p.dec, .int .i64 p.ref, .int .i64 p.exp, .int .i64 p.bits, tv, cv] 35)).alloc (Obj.cells #[.int .i64 0, .int .i64 0, .int .i64 0, .int .i64 0, .int .i64 0, .slice none 0 0, .slice none 0 0] 26)).alloc (Obj.cells #[.int .i64 p.cnt, .int .i64 p.dec, .int .i64 p.ref, .int .i64 p.exp, .int .i64 p.bits, .slice none 0 0, .slice none 0 0] 26) := ⟨_, rfl⟩
  have HW0 : Hid (w0 = ((w.alloc (Obj.cells #[.int .i64 p.cnt, .int .i64 p.dec, .int .i64 p.ref, .int .i64 p.exp, .int .i64 p.bits, tv, cv] 35)).alloc (Obj.cells #[.int .i64 0, .int .i64 0, .int .i64 0, .int .i64 0, .int .i64 0, .slice none 0 0, .slice none 0 0] 26)).alloc (Obj.cells #[.int .i64 p.cnt, .int .i64 p.dec, .int .i64 p.ref, .int .i64 p.exp, .int .i64 p.bits, .slice none 0 0, .slice none 0 0] 26)) := hw0
  have B0 : Hid (Below w.heap.size w w0) := (by show Below _ _ _; rw [hw0]; exact (((Below.refl _ _).alloc (Nat.le_refl _) _).alloc (by simp) _).alloc (by simp; omega) _)
  have z0 : w0.heap.size = w.heap.size + 3 := by rw [hw0]; simp
  have a6 : w0.cell? ⟨w.heap.size, 6, none⟩ = some cv := by rw [hw0]; simp [go_sem]
  have o0 : w0.cell? ⟨w.heap.size + 1 + 1, 0, none⟩ = some (.int .i64 p.cnt) := by rw [hw0]; simp [go_sem]
  have o1 : w0.cell? ⟨w.heap.size + 1 + 1, 1, none⟩ = some (.int .i64 p.dec) := by rw [hw0]; simp [go_sem]
  have o2 : w0.cell? ⟨w.heap.size + 1 + 1, 2, none⟩ = some (.int .i64 p.ref) := by rw [hw0]; simp [go_sem]
  have o3 : w0.cell? ⟨w.heap.size + 1 + 1, 3, none⟩ = some (.int .i64 p.exp) := by rw [hw0]; simp [go_sem]
  have o4 : w0.cell? ⟨w.heap.size + 1 + 1, 4, none⟩ = some (.int .i64 p.bits) := by rw [hw0]; simp [go_sem]
  have o5 : w0.cell? ⟨w.heap.size + 1 + 1, 5, none⟩ = some (.slice none 0 0) := by rw [hw0]; simp [go_sem]
  have o6 : w0.cell? ⟨w.heap.size + 1 + 1, 6, none⟩ = some (.slice none 0 0) := by rw [hw0]; simp [go_sem]
  have of5 : w0.frozen? ⟨w.heap.size + 1 + 1, 5, none⟩ = false := by rw [hw0]; simp [go_sem]
  have of6 : w0.frozen? ⟨w.heap.size + 1 + 1, 6, none⟩ = false := by rw [hw0]; simp [go_sem]
  have r0 : w0.cell? ⟨w.heap.size + 1, 0, none⟩ = some (.int .i64 0) := by rw [hw0]; simp [go_sem]
  have rf0 : w0.frozen? ⟨w.heap.size + 1, 0, none⟩ = false := by rw [hw0]; simp [go_sem]
  have r1 : w0.cell? ⟨w.heap.size + 1, 1, none⟩ = some (.int .i64 0) := by rw [hw0]; simp [go_sem]
  have rf1 : w0.frozen? ⟨w.heap.size + 1, 1, none⟩ = false := by rw [hw0]; simp [go_sem]
  have r2 : w0.cell? ⟨w.heap.size + 1, 2, none⟩ = some (.int .i64 0) := by rw [hw0]; simp [go_sem]
  have rf2 : w0.frozen? ⟨w.heap.size + 1, 2, none⟩ = false := by rw [hw0]; simp [go_sem]
  have r3 : w0.cell? ⟨w.heap.size + 1, 3, none⟩ = some (.int .i64 0) := by rw [hw0]; simp [go_sem]
  have rf3 : w0.frozen? ⟨w.heap.size + 1, 3, none⟩ = false := by rw [hw0]; simp [go_sem]
  have r4 : w0.cell? ⟨w.heap.size + 1, 4, none⟩ = some (.int .i64 0) := by rw [hw0]; simp [go_sem]
  have rf4 : w0.frozen? ⟨w.heap.size + 1, 4, none⟩ = false := by rw [hw0]; simp [go_sem]
  have r5 : w0.cell? ⟨w.heap.size + 1, 5, none⟩ = some (.slice none 0 0) := by rw [hw0]; simp [go_sem]
  have rf5 : w0.frozen? ⟨w.heap.size + 1, 5, none⟩ = false := by rw [hw0]; simp [go_sem]
  have r6 : w0.cell? ⟨w.heap.size + 1, 6, none⟩ = some (.slice none 0 0) := by rw [hw0]; simp [go_sem]
  have rf6 : w0.frozen? ⟨w.heap.size + 1, 6, none⟩ = false := by rw [hw0]; simp [go_sem]
  clear hT hC hw0
  go_enter Try.func15, Try.ntmps15
  go_wp2_with fail
  rw [← HW0.out]
  refine (TB.out w0 B0.out).mono ?_
  rintro e w1 ⟨rfl, x1, b1⟩
  have z1 := b1.size
  have z1l : w0.heap.size < w1.heap.size := (x1.lt w0.heap.size rfl).2
  have B1 : Hid (Below w.heap.size w w1) := B0.out.trans (b1.mono B0.out.size)
  have X1 : Hid (w1.ownsRow w0.heap.size 5 1 (.slice (some ⟨w0.heap.size, 0, none⟩) p.th.length p.th.length) p.th.length (Bytes.bys p.th)) := x1
  have a6' := (b1.cell (p := ⟨w.heap.size, 6, none⟩) (by show w.heap.size < _; omega)).trans a6
  have o0' := (b1.cell (p := ⟨w.heap.size + 1 + 1, 0, none⟩) (by show w.heap.size + 1 + 1 < _; omega)).trans o0
  have o1' := (b1.cell (p := ⟨w.heap.size + 1 + 1, 1, none⟩) (by show w.heap.size + 1 + 1 < _; omega)).trans o1
  have o2' := (b1.cell (p := ⟨w.heap.size + 1 + 1, 2, none⟩) (by show w.heap.size + 1 + 1 < _; omega)).trans o2
  have o3' := (b1.cell (p := ⟨w.heap.size + 1 + 1, 3, none⟩) (by show w.heap.size + 1 + 1 < _; omega)).trans o3
  have o4' := (b1.cell (p := ⟨w.heap.size + 1 + 1, 4, none⟩) (by show w.heap.size + 1 + 1 < _; omega)).trans o4
  have o5' := (b1.cell (p := ⟨w.heap.size + 1 + 1, 5, none⟩) (by show w.heap.size + 1 + 1 < _; omega)).trans o5
  have o6' := (b1.cell (p := ⟨w.heap.size + 1 + 1, 6, none⟩) (by show w.heap.size + 1 + 1 < _; omega)).trans o6
  have of5' := (b1.frozen (p := ⟨w.heap.size + 1 + 1, 5, none⟩) (by show w.heap.size + 1 + 1 < _; omega)).trans of5
  have of6' := (b1.frozen (p := ⟨w.heap.size + 1 + 1, 6, none⟩) (by show w.heap.size + 1 + 1 < _; omega)).trans of6
  have r0' := (b1.cell (p := ⟨w.heap.size + 1, 0, none⟩) (by show w.heap.size + 1 < _; omega)).trans r0
  have rf0' := (b1.frozen (p := ⟨w.heap.size + 1, 0, none⟩) (by show w.heap.size + 1 < _; omega)).trans rf0
  have r1' := (b1.cell (p := ⟨w.heap.size + 1, 1, none⟩) (by show w.heap.size + 1 < _; omega)).trans r1
  have rf1' := (b1.frozen (p := ⟨w.heap.size + 1, 1, none⟩) (by show w.heap.size + 1 < _; omega)).trans rf1
  have r2' := (b1.cell (p := ⟨w.heap.size + 1, 2, none⟩) (by show w.heap.size + 1 < _; omega)).trans r2
  have rf2' := (b1.frozen (p := ⟨w.heap.size + 1, 2, none⟩) (by show w.heap.size + 1 < _; omega)).trans rf2
  have r3' := (b1.cell (p := ⟨w.heap.size + 1, 3, none⟩) (by show w.heap.size + 1 < _; omega)).trans r3
  have rf3' := (b1.frozen (p := ⟨w.heap.size + 1, 3, none⟩) (by show w.heap.size + 1 < _; omega)).trans rf3
  have r4' := (b1.cell (p := ⟨w.heap.size + 1, 4, none⟩) (by show w.heap.size + 1 < _; omega)).trans r4
  have rf4' := (b1.frozen (p := ⟨w.heap.size + 1, 4, none⟩) (by show w.heap.size + 1 < _; omega)).trans rf4
  have r5' := (b1.cell (p := ⟨w.heap.size + 1, 5, none⟩) (by show w.heap.size + 1 < _; omega)).trans r5
  have rf5' := (b1.frozen (p := ⟨w.heap.size + 1, 5, none⟩) (by show w.heap.size + 1 < _; omega)).trans rf5
  have r6' := (b1.cell (p := ⟨w.heap.size + 1, 6, none⟩) (by show w.heap.size + 1 < _; omega)).trans r6
  have rf6' := (b1.frozen (p := ⟨w.heap.size + 1, 6, none⟩) (by show w.heap.size + 1 < _; omega)).trans rf6
  clear b1 x1 HW0 TB a6 o0 r0 rf0 o1 r1 rf1 o2 r2 rf2 o3 r3 rf3 o4 r4 rf4 o5 r5 rf5 o6 r6 rf6 of5 of6 B0
  obtain ⟨w2, hw2⟩ : ∃ w2, w2 = w1.setCell ⟨w.heap.size + 1 + 1, 5, none⟩ (.slice (some ⟨w.heap.size + 3, 0, none⟩) p.th.length p.th.length) := ⟨_, rfl⟩
  have HW2 : Hid (w2 = w1.setCell ⟨w.heap.size + 1 + 1, 5, none⟩ (.slice (some ⟨w.heap.size + 3, 0, none⟩) p.th.length p.th.length)) := hw2
  have B2 : Hid (Below w.heap.size w w2) := (by show Below _ _ _; rw [hw2]; exact B1.out.setCell (p := ⟨w.heap.size + 1 + 1, 5, none⟩) (by show w.heap.size ≤ w.heap.size + 1 + 1; omega) _)
  have z2 : w2.heap.size = w1.heap.size := by rw [hw2]; simp
  rw [z0] at X1
  have X2 : Hid (w2.ownsRow (w.heap.size + 3) 5 1 (.slice (some ⟨w.heap.size + 3, 0, none⟩) p.th.length p.th.length) p.th.length (Bytes.bys p.th)) := (by show World.ownsRow _ _ _ _ _ _ _; rw [hw2]; exact row_set X1.out _ _ _ (by omega))
  have o0 : w2.cell? ⟨w.heap.size + 1 + 1, 0, none⟩ = some (.int .i64 p.cnt) := by rw [hw2]; simp [go_sem, o0']
  have o1 : w2.cell? ⟨w.heap.size + 1 + 1, 1, none⟩ = some (.int .i64 p.dec) := by rw [hw2]; simp [go_sem, o1']
  have o2 : w2.cell? ⟨w.heap.size + 1 + 1, 2, none⟩ = some (.int .i64 p.ref) := by rw [hw2]; simp [go_sem, o2']
  have o3 : w2.cell? ⟨w.heap.size + 1 + 1, 3, none⟩ = some (.int .i64 p.exp) := by rw [hw2]; simp [go_sem, o3']
  have o4 : w2.cell? ⟨w.heap.size + 1 + 1, 4, none⟩ = some (.int .i64 p.bits) := by rw [hw2]; simp [go_sem, o4']
  have o5 : w2.cell? ⟨w.heap.size + 1 + 1, 5, none⟩ = some (.slice (some ⟨w.heap.size + 3, 0, none⟩) p.th.length p.th.length) := by rw [hw2]; simp [go_sem, o5']
  have o6 : w2.cell? ⟨w.heap.size + 1 + 1, 6, none⟩ = some (.slice none 0 0) := by rw [hw2]; simp [go_sem, o6']
  have of6 : w2.frozen? ⟨w.heap.size + 1 + 1, 6, none⟩ = false := by rw [hw2]; simp [go_sem, of6']
  have r0 : w2.cell? ⟨w.heap.size + 1, 0, none⟩ = some (.int .i64 0) := by rw [hw2]; simp [go_sem, r0']
  have rf0 : w2.frozen? ⟨w.heap.size + 1, 0, none⟩ = false := by rw [hw2]; simp [go_sem, rf0']
  have r1 : w2.cell? ⟨w.heap.size + 1, 1, none⟩ = some (.int .i64 0) := by rw [hw2]; simp [go_sem, r1']
  have rf1 : w2.frozen? ⟨w.heap.size + 1, 1, none⟩ = false := by rw [hw2]; simp [go_sem, rf1']
  have r2 : w2.cell? ⟨w.heap.size + 1, 2, none⟩ = some (.int .i64 0) := by rw [hw2]; simp [go_sem, r2']
  have rf2 : w2.frozen? ⟨w.heap.size + 1, 2, none⟩ = false := by rw [hw2]; simp [go_sem, rf2']
  have r3 : w2.cell? ⟨w.heap.size + 1, 3, none⟩ = some (.int .i64 0) := by rw [hw2]; simp [go_sem, r3']
  have rf3 : w2.frozen? ⟨w.heap.size + 1, 3, none⟩ = false := by rw [hw2]; simp [go_sem, rf3']
  have r4 : w2.cell? ⟨w.heap.size + 1, 4, none⟩ = some (.int .i64 0) := by rw [hw2]; simp [go_sem, r4']
  have rf4 : w2.frozen? ⟨w.heap.size + 1, 4, none⟩ = false := by rw [hw2]; simp [go_sem, rf4']
  have r5 : w2.cell? ⟨w.heap.size + 1, 5, none⟩ = some (.slice none 0 0) := by rw [hw2]; simp [go_sem, r5']
  have rf5 : w2.frozen? ⟨w.heap.size + 1, 5, none⟩ = false := by rw [hw2]; simp [go_sem, rf5']
  have r6 : w2.cell? ⟨w.heap.size + 1, 6, none⟩ = some (.slice none 0 0) := by rw [hw2]; simp [go_sem, r6']
  have rf6 : w2.frozen? ⟨w.heap.size + 1, 6, none⟩ = false := by rw [hw2]; simp [go_sem, rf6']
  go_wp2_with fail
  rw [← HW2.out]
  refine (TI.out w2 B2.out).mono ?_
  rintro e w3 ⟨rfl, x3, b3⟩
  have z3 := b3.size
  have B3 : Hid (Below w.heap.size w w3) := B2.out.trans (b3.mono B2.out.size)
  have X3 : Hid (w3.ownsRow (w.heap.size + 3) 5 1 (.slice (some ⟨w.heap.size + 3, 0, none⟩) p.th.length p.th.length) p.th.length (Bytes.bys p.th)) := row_later_e X2.out b3 (Nat.le_refl _)
  have Y3 : Hid (w3.ownsRow w2.heap.size 2 1 (.slice (some ⟨w2.heap.size, 0, none⟩) p.cd.length p.cd.length) p.cd.length (ints p.cd)) := x3
  have p0 := (b3.cell (p := ⟨w.heap.size + 1 + 1, 0, none⟩) (by show w.heap.size + 1 + 1 < _; omega)).trans o0
  have p1 := (b3.cell (p := ⟨w.heap.size + 1 + 1, 1, none⟩) (by show w.heap.size + 1 + 1 < _; omega)).trans o1
  have p2 := (b3.cell (p := ⟨w.heap.size + 1 + 1, 2, none⟩) (by show w.heap.size + 1 + 1 < _; omega)).trans o2
  have p3 := (b3.cell (p := ⟨w.heap.size + 1 + 1, 3, none⟩) (by show w.heap.size + 1 + 1 < _; omega)).trans o3
  have p4 := (b3.cell (p := ⟨w.heap.size + 1 + 1, 4, none⟩) (by show w.heap.size + 1 + 1 < _; omega)).trans o4
  have p5 := (b3.cell (p := ⟨w.heap.size + 1 + 1, 5, none⟩) (by show w.heap.size + 1 + 1 < _; omega)).trans o5
  have p6 := (b3.cell (p := ⟨w.heap.size + 1 + 1, 6, none⟩) (by show w.heap.size + 1 + 1 < _; omega)).trans o6
  have pf6 := (b3.frozen (p := ⟨w.heap.size + 1 + 1, 6, none⟩) (by show w.heap.size + 1 + 1 < _; omega)).trans of6
  have s0 := (b3.cell (p := ⟨w.heap.size + 1, 0, none⟩) (by show w.heap.size + 1 < _; omega)).trans r0
  have sf0 := (b3.frozen (p := ⟨w.heap.size + 1, 0, none⟩) (by show w.heap.size + 1 < _; omega)).trans rf0
  have s1 := (b3.cell (p := ⟨w.heap.size + 1, 1, none⟩) (by show w.heap.size + 1 < _; omega)).trans r1
  have sf1 := (b3.frozen (p := ⟨w.heap.size + 1, 1, none⟩) (by show w.heap.size + 1 < _; omega)).trans rf1
  have s2 := (b3.cell (p := ⟨w.heap.size + 1, 2, none⟩) (by show w.heap.size + 1 < _; omega)).trans r2
  have sf2 := (b3.frozen (p := ⟨w.heap.size + 1, 2, none⟩) (by show w.heap.size + 1 < _; omega)).trans rf2
  have s3 := (b3.cell (p := ⟨w.heap.size + 1, 3, none⟩) (by show w.heap.size + 1 < _; omega)).trans r3
  have sf3 := (b3.frozen (p := ⟨w.heap.size + 1, 3, none⟩) (by show w.heap.size + 1 < _; omega)).trans rf3
  have s4 := (b3.cell (p := ⟨w.heap.size + 1, 4, none⟩) (by show w.heap.size + 1 < _; omega)).trans r4
  have sf4 := (b3.frozen (p := ⟨w.heap.size + 1, 4, none⟩) (by show w.heap.size + 1 < _; omega)).trans rf4
  have s5 := (b3.cell (p := ⟨w.heap.size + 1, 5, none⟩) (by show w.heap.size + 1 < _; omega)).trans r5
  have sf5 := (b3.frozen (p := ⟨w.heap.size + 1, 5, none⟩) (by show w.heap.size + 1 < _; omega)).trans rf5
  have s6 := (b3.cell (p := ⟨w.heap.size + 1, 6, none⟩) (by show w.heap.size + 1 < _; omega)).trans r6
  have sf6 := (b3.frozen (p := ⟨w.heap.size + 1, 6, none⟩) (by show w.heap.size + 1 < _; omega)).trans rf6
  clear b3 x3 HW2 TI hw2 o0 o0' r0 rf0 r0' rf0' o1 o1' r1 rf1 r1' rf1' o2 o2' r2 rf2 r2' rf2' o3 o3' r3 rf3 r3' rf3' o4 o4' r4 rf4 r4' rf4' o5 o5' r5 rf5 r5' rf5' o6 o6' r6 rf6 r6' rf6' of5' of6' of6 a6' B2 X2 X1 B1
  rw [z2] at Y3
  go_wp2_with fail
  refine bodyPost_ret (v := .agg #[.int .i64 p.cnt, .int .i64 p.dec, .int .i64 p.ref, .int .i64 p.exp, .int .i64 p.bits, .slice (some ⟨w.heap.size + 3, 0, none⟩) p.th.length p.th.length, .slice (some ⟨w1.heap.size, 0, none⟩) p.cd.length p.cd.length]) (by simp [results, Try.results15, go_sem, s0, s1, s2, s3, s4, s5, s6]) rfl ⟨w.heap.size + 3, w1.heap.size, rfl, by omega, by omega, ?_, ?_, ?_⟩
  · refine own_down_e ?_ (show w.heap.size ≤ w.heap.size + 3 by omega)
    exact row_set (row_set (row_set (row_set (row_set (row_set (row_set (row_set X3.out _ _ _ (by omega)) _ _ _ (by omega)) _ _ _ (by omega)) _ _ _ (by omega)) _ _ _ (by omega)) _ _ _ (by omega)) _ _ _ (by omega)) _ _ _ (by omega)
  · refine own_down_e ?_ (show w.heap.size ≤ w1.heap.size by omega)
    exact row_set (row_set (row_set (row_set (row_set (row_set (row_set (row_set Y3.out _ _ _ (by omega)) _ _ _ (by omega)) _ _ _ (by omega)) _ _ _ (by omega)) _ _ _ (by omega)) _ _ _ (by omega)) _ _ _ (by omega)) _ _ _ (by omega)
  · exact (((((((B3.out.setCell (p := ⟨w.heap.size + 1 + 1, 6, none⟩) (Nat.le_trans (Nat.le_succ _) (Nat.le_succ _)) _).setCell (p := ⟨w.heap.size + 1, 0, none⟩) (Nat.le_succ _) _).setCell (p := ⟨w.heap.size + 1, 1, none⟩) (Nat.le_succ _) _).setCell (p := ⟨w.heap.size + 1, 2, none⟩) (Nat.le_succ _) _).setCell (p := ⟨w.heap.size + 1, 3, none⟩) (Nat.le_succ _) _).setCell (p := ⟨w.heap.size + 1, 4, none⟩) (Nat.le_succ _) _).setCell (p := ⟨w.heap.size + 1, 5, none⟩) (Nat.le_succ _) _).setCell (p := ⟨w.heap.size + 1, 6, none⟩) (Nat.le_succ _) _
end Go.Proofs.Ytjphljofhfokeaa.Pkd
