/- Soils: the law of the step. -/
import Derived.Test.YtcmlafjkfnnjkaaSt
namespace Go.Proofs.Ytcmlafjkfnnjkaa.So
open Go.ChangeShapes Go.WideShapes Go.ChangeAt Go.RowKit

def ansV (a b c d f t r : Int) : Value := if okT a b c d f t r then res a b c d f t r else sv 0 0 0 0 0
theorem ans_form (a b c d f t r : Int) : ∃ x0 x1 x2 x3 x4, ansV a b c d f t r = sv x0 x1 x2 x3 x4 := by
  unfold ansV res
  split
  · exact ⟨_, _, _, _, _, rfl⟩
  · exact ⟨_, _, _, _, _, rfl⟩
theorem sstep_any (a b c d f t r : Int) (w : World) : Calls Try.prog 4 #[sv a b c d f, .int .i64 t, .int .i64 r] w fun e w' => e = .returned (.tuple #[ansV a b c d f t r, .bool (okT a b c d f t r)]) ∧ Below w.heap.size w w' := by
  unfold ansV
  cases h : okT a b c d f t r
  · exact sstep_no a b c d f t r w h
  · exact sstep_yes a b c d f t r w h
theorem istep_any (a b c d f t r : Int) (w : World) : Calls Try.prog 6 #[sv a b c d f, .int .i64 t, .int .i64 r] w fun e w' => e = .returned (.tuple #[ansV a b c d f t r, .bool (okT a b c d f t r)]) ∧ Below w.heap.size w w' := by
  unfold ansV
  cases h : okT a b c d f t r
  · exact istep_no a b c d f t r w h
  · exact istep_yes a b c d f t r w h

def B5 (w : World) (g : Nat) (a b c d f : Int) : Prop := w.cell? ⟨g, 0, none⟩ = some (.int .i64 a) ∧ w.cell? ⟨g, 1, none⟩ = some (.int .i64 b) ∧ w.cell? ⟨g, 2, none⟩ = some (.int .i64 c) ∧ w.cell? ⟨g, 3, none⟩ = some (.int .i64 d) ∧ w.cell? ⟨g, 4, none⟩ = some (.int .i64 f)
theorem B5.on {w w' : World} {B g : Nat} {a b c d f : Int} (h : B5 w g a b c d f) (hb : Below B w w') (hg : g < B) : B5 w' g a b c d f := by
  obtain ⟨h0, h1, h2, h3, h4⟩ := h
  exact ⟨(hb.cell (p := ⟨g, 0, none⟩) hg).trans h0, (hb.cell (p := ⟨g, 1, none⟩) hg).trans h1, (hb.cell (p := ⟨g, 2, none⟩) hg).trans h2, (hb.cell (p := ⟨g, 3, none⟩) hg).trans h3, (hb.cell (p := ⟨g, 4, none⟩) hg).trans h4⟩
theorem B5.new (w : World) (a b c d f : Int) (t : TypeId) : B5 (w.alloc (Obj.cells #[.int .i64 a, .int .i64 b, .int .i64 c, .int .i64 d, .int .i64 f] t)) w.heap.size a b c d f := by
  unfold B5
  simp [go_sem]

set_option maxHeartbeats 1000000 in
theorem stepAll (w : World) (a b c d f t r : Int) : Calls Try.prog 3 #[sv a b c d f, .int .i64 t, .int .i64 r] w fun e w' => e = .returned (.bool true) ∧ Below w.heap.size w w' := by
  obtain ⟨x0, x1, x2, x3, x4, hx⟩ := ans_form a b c d f t r
  have TO : Hid (∀ w, Calls Try.prog 5 #[sv a b c d f] w fun e w' => e = .returned (sv a b c d f) ∧ Below w.heap.size w w') := fun w => to_any a b c d f w
  have SA : Hid (∀ w, Calls Try.prog 4 #[sv a b c d f, .int .i64 t, .int .i64 r] w fun e w' => e = .returned (.tuple #[sv x0 x1 x2 x3 x4, .bool (okT a b c d f t r)]) ∧ Below w.heap.size w w') := fun w => by rw [← hx]; exact sstep_any a b c d f t r w
  have IA : Hid (∀ w, Calls Try.prog 6 #[sv a b c d f, .int .i64 t, .int .i64 r] w fun e w' => e = .returned (.tuple #[sv x0 x1 x2 x3 x4, .bool (okT a b c d f t r)]) ∧ Below w.heap.size w w') := fun w => by rw [← hx]; exact istep_any a b c d f t r w
  have EQ : Hid (∀ w, Calls Try.prog 7 #[sv x0 x1 x2 x3 x4, sv x0 x1 x2 x3 x4] w fun e w' => e = .returned (.bool true) ∧ Below w.heap.size w w') := fun w => eq_any x0 x1 x2 x3 x4 w
  have hbb : ∀ b : Bool, (b != b) = false := fun b => by cases b <;> rfl
  generalize okT a b c d f t r = bo at *
  clear hx
  obtain ⟨wa, hwa⟩ : ∃ wa, wa = w.alloc (Obj.cells #[.int .i64 a, .int .i64 b, .int .i64 c, .int .i64 d, .int .i64 f] 23) := ⟨_, rfl⟩
  have HWA : Hid (wa = w.alloc (Obj.cells #[.int .i64 a, .int .i64 b, .int .i64 c, .int .i64 d, .int .i64 f] 23)) := hwa
  have BA : Hid (Below w.heap.size w wa) := (by show Below _ _ _; rw [hwa]; exact (Below.refl _ _).alloc (Nat.le_refl _) _)
  have za : wa.heap.size ≤ w.heap.size + 1 ∧ w.heap.size + 1 ≤ wa.heap.size := by rw [hwa]; simp
  have XA : Hid (B5 wa w.heap.size a b c d f) := (by show B5 _ _ _ _ _ _ _; rw [hwa]; exact B5.new w a b c d f 23)
  clear hwa
  go_enter Try.func3, Try.ntmps3
  go_wp2_with fail
  rw [← HWA.out]
  refine (TO.out wa).mono ?_
  rintro e w1 ⟨rfl, b1⟩
  have z1 := b1.size
  have B1 : Hid (Below w.heap.size w w1) := BA.out.trans (b1.mono (by omega))
  have X1 : Hid (B5 w1 w.heap.size a b c d f) := XA.out.on b1 (by omega)
  clear b1
  go_wp2_with fail
  refine (SA.out w1).mono ?_
  rintro e w2 ⟨rfl, b2⟩
  have z2 := b2.size
  have B2 : Hid (Below w.heap.size w w2) := B1.out.trans (b2.mono (by omega))
  have X2 : Hid (B5 w2 w.heap.size a b c d f) := X1.out.on b2 (by omega)
  clear b2
  obtain ⟨w3, hw3⟩ : ∃ w3, w3 = w2.alloc (Obj.cells #[.int .i64 x0, .int .i64 x1, .int .i64 x2, .int .i64 x3, .int .i64 x4] 24) := ⟨_, rfl⟩
  have HW3 : Hid (w3 = w2.alloc (Obj.cells #[.int .i64 x0, .int .i64 x1, .int .i64 x2, .int .i64 x3, .int .i64 x4] 24)) := hw3
  have b3 : Below w2.heap.size w2 w3 := by rw [hw3]; exact (Below.refl _ _).alloc (Nat.le_refl _) _
  have z3 : w3.heap.size ≤ w2.heap.size + 1 ∧ w2.heap.size + 1 ≤ w3.heap.size := by rw [hw3]; simp
  have B3 : Hid (Below w.heap.size w w3) := B2.out.trans (b3.mono (by omega))
  have Y3 : Hid (B5 w3 w2.heap.size x0 x1 x2 x3 x4) := (by show B5 _ _ _ _ _ _ _; rw [hw3]; exact B5.new w2 x0 x1 x2 x3 x4 24)
  obtain ⟨c0, c1, c2, c3, c4⟩ := X2.out
  have l1 : w.heap.size < w2.heap.size := by omega
  have l2 : ¬ w.heap.size = w2.heap.size := by omega
  clear hw3 b3
  go_wp2_with fail
  rw [← HW3.out]
  refine (TO.out w3).mono ?_
  rintro e w4 ⟨rfl, b4⟩
  have z4 := b4.size
  have B4 : Hid (Below w.heap.size w w4) := B3.out.trans (b4.mono (by omega))
  have Y4 : Hid (B5 w4 w2.heap.size x0 x1 x2 x3 x4) := Y3.out.on b4 (by omega)
  clear b4 c0 c1 c2 c3 c4
  go_wp2_with fail
  refine (IA.out w4).mono ?_
  rintro e w5 ⟨rfl, b5⟩
  have z5 := b5.size
  have B5' : Hid (Below w.heap.size w w5) := B4.out.trans (b5.mono (by omega))
  have Y5 : Hid (B5 w5 w2.heap.size x0 x1 x2 x3 x4) := Y4.out.on b5 (by omega)
  clear b5
  obtain ⟨w6, hw6⟩ : ∃ w6, w6 = w5.alloc (Obj.cells #[.int .i64 x0, .int .i64 x1, .int .i64 x2, .int .i64 x3, .int .i64 x4] 24) := ⟨_, rfl⟩
  have HW6 : Hid (w6 = w5.alloc (Obj.cells #[.int .i64 x0, .int .i64 x1, .int .i64 x2, .int .i64 x3, .int .i64 x4] 24)) := hw6
  have b6 : Below w5.heap.size w5 w6 := by rw [hw6]; exact (Below.refl _ _).alloc (Nat.le_refl _) _
  have B6 : Hid (Below w.heap.size w w6) := B5'.out.trans (b6.mono (by omega))
  obtain ⟨c0, c1, c2, c3, c4⟩ := Y5.out
  have l3 : w2.heap.size < w5.heap.size := by omega
  have l4 : ¬ w2.heap.size = w5.heap.size := by omega
  clear hw6 b6
  go_wp2_with fail
  rw [← HW6.out]
  refine (EQ.out w6).mono ?_
  rintro e w7 ⟨rfl, b7⟩
  have B7 : Hid (Below w.heap.size w w7) := B6.out.trans (b7.mono B6.out.size)
  clear b7
  go_wp2_with fail
  go_ret
  exact ⟨rfl, B7.out⟩
end Go.Proofs.Ytcmlafjkfnnjkaa.So
