/- Two Packed compared. -/
import Derived.Test.YtgajajpcjbpalaaXpB
namespace Go.Proofs.Ytgajajpcjbpalaa.Pkd
open Go.ChangeShapes Go.WideShapes Go.ChangeAt Go.RowKit
open Go.Proofs.Ytgajajpcjbpalaa.Lists

set_option maxHeartbeats 1000000 in
theorem eq_packed (p : Pk) (t1 t2 c1 c2 : Value) (A B C D : Nat) (w : World) (hA : w.ownsRow A 5 1 t1 p.th.length (Bytes.bys p.th)) (hB : w.ownsRow B 5 1 t2 p.th.length (Bytes.bys p.th)) (hC : w.ownsRow C 2 1 c1 p.cd.length (ints p.cd)) (hD : w.ownsRow D 2 1 c2 p.cd.length (ints p.cd)) :
    Calls Try.prog 8 #[pkv p t1 c1, pkv p t2 c2] w fun e w' => e = .returned (.bool true) ∧ Below w.heap.size w w' := by
  have EB : Hid (∀ w', Below w.heap.size w w' → Calls Try.prog 23 #[t1, t2] w' fun e w'' => e = .returned (.bool true) ∧ ∃ n, w'' = w'.drewN n) := fun w' hb => Bytes.eq_same w' A B t1 t2 p.th (row_later_e hA hb (Nat.le_refl _)) (row_later_e hB hb (Nat.le_refl _))
  have EI : Hid (∀ w', Below w.heap.size w w' → Calls Try.prog 24 #[c1, c2] w' fun e w'' => e = .returned (.bool true) ∧ ∃ n, w'' = w'.drewN n) := fun w' hb => Lists.eq_same w' C D c1 c2 p.cd (row_later_e hC hb (Nat.le_refl _)) (row_later_e hD hb (Nat.le_refl _))
  obtain ⟨cnt, dec, ref, exp, bits, th, cd⟩ := p
  unfold pkv
  simp only at *
  clear hA hB hC hD
  obtain ⟨w0, hw0⟩ : ∃ w0, w0 = (w.alloc (Obj.cells #[.int .i64 cnt, .int .i64 dec, .int .i64 ref, .int .i64 exp, .int .i64 bits, t1, c1] 26)).alloc (Obj.cells #[.int .i64 cnt, .int .i64 dec, .int .i64 ref, .int .i64 exp, .int .i64 bits, t2, c2] 26) := ⟨_, rfl⟩
  have B0 : Hid (Below w.heap.size w w0) := (by show Below _ _ _; rw [hw0]; exact ((Below.refl _ _).alloc (Nat.le_refl _) _).alloc (by simp) _)
  have HW0 : Hid (w0 = (w.alloc (Obj.cells #[.int .i64 cnt, .int .i64 dec, .int .i64 ref, .int .i64 exp, .int .i64 bits, t1, c1] 26)).alloc (Obj.cells #[.int .i64 cnt, .int .i64 dec, .int .i64 ref, .int .i64 exp, .int .i64 bits, t2, c2] 26)) := hw0
  have a6 : w0.cell? ⟨w.heap.size, 6, none⟩ = some c1 := by rw [hw0]; simp [go_sem]
  have b6 : w0.cell? ⟨w.heap.size + 1, 6, none⟩ = some c2 := by rw [hw0]; simp [go_sem]
  clear hw0
  go_enter Try.func8, Try.ntmps8
  go_wp2_with fail
  rw [← HW0.out]
  refine (EB.out w0 B0.out).mono ?_
  rintro e w1 ⟨rfl, n1, hw⟩
  subst hw
  clear HW0
  go_wp2_with fail
  refine (EI.out _ (below_drewN B0.out _)).mono ?_
  rintro e w2 ⟨rfl, n2, hw⟩
  subst hw
  go_wp2_with fail
  go_ret
  exact ⟨rfl, below_drewN B0.out _⟩
end Go.Proofs.Ytgajajpcjbpalaa.Pkd
