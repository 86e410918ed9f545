/- A Packed marked: its bytes and its codes are written over, nothing else. -/
import Derived.Test.YtgajajpcjbpalaaXpC
namespace Go.Proofs.Ytgajajpcjbpalaa.Pkd
open Go.ChangeShapes Go.WideShapes Go.ChangeAt Go.RowKit
open Go.Proofs.Ytgajajpcjbpalaa.Lists

theorem row_grown_e {e : TypeId} {w w' : World} {base n g : Nat} {v : Value} {xs : List Value} (h : w.ownsRow base e 1 v n xs) (hg : w.grownBy w' (some g)) (hne : ∀ k, v.ownBlock = some k → k ≠ g) : w'.ownsRow base e 1 v n xs := by
  refine h.kept hg ?_
  cases e : v.ownBlock with
  | none => exact Or.inl rfl
  | some k =>
    refine Or.inr fun x => ?_
    have a := hne k e
    simp at x
    omega

set_option maxHeartbeats 1000000 in
theorem mark_packed (p : Pk) (g1 g2 : Nat) (w : World) (A : Nat) (hA : w.ownsRow A 5 1 (.slice (some ⟨g1, 0, none⟩) p.th.length p.th.length) p.th.length (Bytes.bys p.th)) (hC : w.ownsRow A 2 1 (.slice (some ⟨g2, 0, none⟩) p.cd.length p.cd.length) p.cd.length (ints p.cd)) (hne : g1 < g2) (l1 : p.th.length ≤ 1048576) (l2 : p.cd.length ≤ 1048576) :
    Calls Try.prog 11 #[pkv p (.slice (some ⟨g1, 0, none⟩) p.th.length p.th.length) (.slice (some ⟨g2, 0, none⟩) p.cd.length p.cd.length), .int .i64 1] w fun e w' => e = .returned (.int .i64 (1 + p.th.length + p.cd.length)) ∧ ∃ wa wb, Below w.heap.size w wa ∧ wa.grownBy wb (some g1) ∧ wb.grownBy w' (some g2) := by
  have x1 := (hA.lt g1 rfl).2
  have x2 := (hC.lt g2 rfl).2
  obtain ⟨t1, ht⟩ : ∃ t1, t1 = Value.slice (some ⟨g1, 0, none⟩) p.th.length p.th.length := ⟨_, rfl⟩
  obtain ⟨c1, hc⟩ : ∃ c1, c1 = Value.slice (some ⟨g2, 0, none⟩) p.cd.length p.cd.length := ⟨_, rfl⟩
  have hto : t1.ownBlock = some g1 := by rw [ht]; rfl
  have hco : c1.ownBlock = some g2 := by rw [hc]; rfl
  rw [← ht] at hA ⊢
  rw [← hc] at hC ⊢
  clear ht hc
  obtain ⟨w0, hw0⟩ : ∃ w0, w0 = w.alloc (Obj.cells #[.int .i64 p.cnt, .int .i64 p.dec, .int .i64 p.ref, .int .i64 p.exp, .int .i64 p.bits, t1, c1] 26) := ⟨_, rfl⟩
  have B0 : Hid (Below w.heap.size w w0) := (by show Below _ _ _; rw [hw0]; exact (Below.refl _ _).alloc (Nat.le_refl _) _)
  have HW0 : Hid (w0 = w.alloc (Obj.cells #[.int .i64 p.cnt, .int .i64 p.dec, .int .i64 p.ref, .int .i64 p.exp, .int .i64 p.bits, t1, c1] 26)) := hw0
  have a6 : w0.cell? ⟨w.heap.size, 6, none⟩ = some c1 := by rw [hw0]; simp [go_sem]
  have z0 : w0.heap.size = w.heap.size + 1 := by rw [hw0]; simp
  have EB : Hid (Calls Try.prog 26 #[t1, .int .i64 1] w0 fun e w' => e = .returned (.int .i64 (1 + p.th.length)) ∧ w0.grownBy w' t1.ownBlock) := Bytes.mark_any w0 A t1 p.th 1 (by omega) (by omega) (by omega) (row_later_e hA B0.out (Nat.le_refl _))
  have EI : Hid (∀ w1, w0.grownBy w1 (some g1) → Calls Try.prog 27 #[c1, .int .i64 (1 + p.th.length)] w1 fun e w' => e = .returned (.int .i64 (1 + p.th.length + p.cd.length)) ∧ w1.grownBy w' c1.ownBlock) := fun w1 hg => (Lists.mark_any w1 A c1 p.cd (1 + p.th.length) (by omega) (by omega) (by omega) (row_grown_e (row_later_e hC B0.out (Nat.le_refl _)) hg (fun k hk => by rw [hco] at hk; cases hk; omega))).mono fun e w' h => ⟨h.1, h.2.2⟩
  unfold pkv
  rw [hto] at EB
  rw [hco] at EI
  clear hA hC hto hco hw0
  go_enter Try.func11, Try.ntmps11
  go_wp2_with fail
  rw [← HW0.out]
  refine EB.out.mono ?_
  rintro e w1 ⟨rfl, hg⟩
  have G1 : Hid (w0.grownBy w1 (some g1)) := hg
  have a6' : w1.cell? ⟨w.heap.size, 6, none⟩ = some c1 := by
    exact hg.cell a6 (by show some w.heap.size ≠ some g1; simp; omega)
  clear hg HW0 a6 EB
  go_wp2_with fail
  refine (EI.out w1 G1.out).mono ?_
  rintro e w2 ⟨rfl, hg⟩
  have G2 : Hid (w1.grownBy w2 (some g2)) := hg
  clear hg EI
  go_wp2_with fail
  go_ret
  exact ⟨rfl, w0, w1, B0.out, G1.out, G2.out⟩
end Go.Proofs.Ytgajajpcjbpalaa.Pkd
