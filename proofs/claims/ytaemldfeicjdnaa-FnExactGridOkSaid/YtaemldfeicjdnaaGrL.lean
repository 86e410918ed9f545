/- The law FnExactGridOk walked; what the program answers comes in as a hypothesis. -/
import Derived.Test.YtaemldfeicjdnaaGrS
namespace Go.Proofs.Ytaemldfeicjdnaa.Gr
open Go.ChangeShapes Go.WideShapes Go.ChangeAt Go.RowKit

set_option maxHeartbeats 1000000 in
theorem gridLaw (r c s ws st : Int) (w : World)
    (IA : ∀ w, Calls Try.prog 10 #[.agg #[.int .i64 r, .int .i64 c, .int .i64 s, .int .i64 ws, .int .i64 st]] w fun e w' => e = .returned (.bool (gok r c s ws st)) ∧ Below w.heap.size w w') :
    Calls Try.prog 3 #[.agg #[.int .i64 r, .int .i64 c, .int .i64 s, .int .i64 ws, .int .i64 st]] w fun e w' => e = .returned (.bool true) ∧ Below w.heap.size w w' := by
  have SA : Hid (∀ w, Calls Try.prog 8 #[.agg #[.int .i64 r, .int .i64 c, .int .i64 s, .int .i64 ws, .int .i64 st]] w fun e w' => e = .returned (.bool (gok r c s ws st)) ∧ Below w.heap.size w w') := fun w => sgrid_any r c s ws st w
  have IB : Hid (∀ w, Calls Try.prog 10 #[.agg #[.int .i64 r, .int .i64 c, .int .i64 s, .int .i64 ws, .int .i64 st]] w fun e w' => e = .returned (.bool (gok r c s ws st)) ∧ Below w.heap.size w w') := IA
  generalize gok r c s ws st = g at *
  have hbb : (g != g) = false := by cases g <;> rfl
  clear IA
  obtain ⟨w0, hw0⟩ : ∃ w0, w0 = w.alloc (Obj.cells #[.int .i64 r, .int .i64 c, .int .i64 s, .int .i64 ws, .int .i64 st] 23) := ⟨_, rfl⟩
  have HW0 : Hid (w0 = w.alloc (Obj.cells #[.int .i64 r, .int .i64 c, .int .i64 s, .int .i64 ws, .int .i64 st] 23)) := hw0
  have B0 : Hid (Below w.heap.size w w0) := (by show Below _ _ _; rw [hw0]; exact (Below.refl _ _).alloc (Nat.le_refl _) _)
  have z0 : w0.heap.size = w.heap.size + 1 := by rw [hw0]; simp
  have c0 : w0.cell? ⟨w.heap.size, 0, none⟩ = some (.int .i64 r) := by rw [hw0]; simp [go_sem]
  have c1 : w0.cell? ⟨w.heap.size, 1, none⟩ = some (.int .i64 c) := by rw [hw0]; simp [go_sem]
  have c2 : w0.cell? ⟨w.heap.size, 2, none⟩ = some (.int .i64 s) := by rw [hw0]; simp [go_sem]
  have c3 : w0.cell? ⟨w.heap.size, 3, none⟩ = some (.int .i64 ws) := by rw [hw0]; simp [go_sem]
  have c4 : w0.cell? ⟨w.heap.size, 4, none⟩ = some (.int .i64 st) := by rw [hw0]; simp [go_sem]
  clear hw0
  go_enter Try.func3, Try.ntmps3
  go_wp2_with fail
  rw [← HW0.out]
  refine (to1_any _ _ _ _ _ _).mono ?_
  rintro e w1 ⟨rfl, b1⟩
  have z1 := b1.size
  have B1 : Hid (Below w.heap.size w w1) := B0.out.trans (b1.mono B0.out.size)
  clear HW0
  go_wp2_with fail
  refine (SA.out w1).mono ?_
  rintro e w2 ⟨rfl, b2⟩
  have B2 : Hid (Below w.heap.size w w2) := B1.out.trans (b2.mono B1.out.size)
  have d0 := (b2.cell (p := ⟨w.heap.size, 0, none⟩) (by show w.heap.size < _; omega)).trans ((b1.cell (p := ⟨w.heap.size, 0, none⟩) (by show w.heap.size < _; omega)).trans c0)
  have d1 := (b2.cell (p := ⟨w.heap.size, 1, none⟩) (by show w.heap.size < _; omega)).trans ((b1.cell (p := ⟨w.heap.size, 1, none⟩) (by show w.heap.size < _; omega)).trans c1)
  have d2 := (b2.cell (p := ⟨w.heap.size, 2, none⟩) (by show w.heap.size < _; omega)).trans ((b1.cell (p := ⟨w.heap.size, 2, none⟩) (by show w.heap.size < _; omega)).trans c2)
  have d3 := (b2.cell (p := ⟨w.heap.size, 3, none⟩) (by show w.heap.size < _; omega)).trans ((b1.cell (p := ⟨w.heap.size, 3, none⟩) (by show w.heap.size < _; omega)).trans c3)
  have d4 := (b2.cell (p := ⟨w.heap.size, 4, none⟩) (by show w.heap.size < _; omega)).trans ((b1.cell (p := ⟨w.heap.size, 4, none⟩) (by show w.heap.size < _; omega)).trans c4)
  clear b1 b2 c0 c1 c2 c3 c4
  go_wp2_with fail
  refine (to1_any _ _ _ _ _ _).mono ?_
  rintro e w3 ⟨rfl, b3⟩
  have B3 : Hid (Below w.heap.size w w3) := B2.out.trans (b3.mono B2.out.size)
  clear b3
  go_wp2_with fail
  refine (IB.out w3).mono ?_
  rintro e w4 ⟨rfl, b4⟩
  have B4 : Hid (Below w.heap.size w w4) := B3.out.trans (b4.mono B3.out.size)
  clear b4
  go_wp2_with fail
  go_ret
  exact ⟨rfl, B4.out⟩
end Go.Proofs.Ytaemldfeicjdnaa.Gr
