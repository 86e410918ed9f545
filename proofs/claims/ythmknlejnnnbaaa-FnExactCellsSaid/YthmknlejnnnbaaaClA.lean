/- Cells: the law, with both answers in it. -/
import Derived.Test.YthmknlejnnnbaaaClM
import Derived.Test.YthmknlejnnnbaaaClL
namespace Go.Proofs.Ythmknlejnnnbaaa.Cl
open Go.ChangeShapes Go.WideShapes Go.ChangeAt Go.RowKit
open Go.Proofs.Ythmknlejnnnbaaa.Lists

set_option maxHeartbeats 1000000 in
theorem icells_no (r c : Int) (L : List Int) (lv : Int) (v : Value) (w : World) (hL : Lists.Reads w v L) (fL : L.length < 9223372036854775808) (h1 : Bx.okB r c L = false) :
    Calls Try.prog 11 #[Bx.sv r c v, .int .i64 lv] w fun e w' => ∃ u, e = .returned u ∧ w'.ownsRow w.heap.size 2 1 u 0 [] ∧ Below w.heap.size w w' := by
  have S1 : Hid (∀ w', Below w.heap.size w w' → Calls Try.prog 20 #[Bx.sv r c v] w' fun e w'' => e = .returned (.bool false) ∧ Below w'.heap.size w' w'') := fun w' hb => by have := Bx.iok_any r c L v w' (hL.on hb) fL; rwa [h1] at this
  obtain ⟨w0, hw0⟩ : ∃ w0, w0 = w.alloc (Obj.cells #[.int .i64 r, .int .i64 c, v] 28) := ⟨_, rfl⟩
  have HW0 : Hid (w0 = w.alloc (Obj.cells #[.int .i64 r, .int .i64 c, v] 28)) := hw0
  have B0 : Hid (Below w.heap.size w w0) := (by show Below _ _ _; rw [hw0]; exact (Below.refl _ _).alloc (Nat.le_refl _) _)
  clear hL fL h1 hw0
  go_enter Try.func11, Try.ntmps11
  go_wp2_with fail
  rw [← HW0.out]
  refine (S1.out _ B0.out).mono ?_
  rintro e w1 ⟨rfl, b1⟩
  have B1 : Hid (Below w.heap.size w w1) := B0.out.trans (b1.mono B0.out.size)
  clear b1 HW0 B0
  go_wp2_with fail
  go_ret
  exact ⟨_, rfl, ⟨rfl, .inl ⟨rfl, rfl⟩⟩, B1.out⟩

set_option maxHeartbeats 1000000 in
theorem scells_no (r c : Int) (L : List Int) (lv : Int) (v : Value) (w : World) (hL : Lists.Reads w v L) (fL : L.length < 9223372036854775808) (h1 : Bx.okB r c L = false) :
    Calls Try.prog 10 #[Bx.sv r c v, .int .i64 lv] w fun e w' => ∃ u, e = .returned u ∧ w'.ownsRow w.heap.size 2 1 u 0 [] ∧ Below w.heap.size w w' := by
  have S1 : Hid (∀ w', Below w.heap.size w w' → Calls Try.prog 17 #[Bx.sv r c v] w' fun e w'' => e = .returned (.bool false) ∧ Below w'.heap.size w' w'') := fun w' hb => by have := Bx.sok_any r c L v w' (hL.on hb) fL; rwa [h1] at this
  obtain ⟨w0, hw0⟩ : ∃ w0, w0 = (w.alloc (Obj.cells #[.int .i64 r, .int .i64 c, v] 28)).alloc (Obj.cells #[] 2) := ⟨_, rfl⟩
  have HW0 : Hid (w0 = (w.alloc (Obj.cells #[.int .i64 r, .int .i64 c, v] 28)).alloc (Obj.cells #[] 2)) := hw0
  have B0 : Hid (Below w.heap.size w w0) := (by show Below _ _ _; rw [hw0]; exact ((Below.refl _ _).alloc (Nat.le_refl _) _).alloc (by simp) _)
  have R0 : Hid (w0.ownsRow (w.heap.size + 1) 2 1 (.slice (some ⟨w.heap.size + 1, 0, none⟩) 0 0) 0 []) := (by
    show World.ownsRow _ _ _ _ _ _ _
    rw [hw0]
    have := World.ownsRow_lit (e := 2) (w.alloc (Obj.cells #[.int .i64 r, .int .i64 c, v] 28)) #[] 0 (size := 1) (base := w.heap.size + 1) (by simp) (Nat.zero_le _) rfl
    simpa using this)
  clear hL fL h1 hw0
  go_enter Try.func10, Try.ntmps10
  go_wp2_with fail
  rw [← HW0.out]
  refine (S1.out _ B0.out).mono ?_
  rintro e w1 ⟨rfl, b1⟩
  have B1 : Hid (Below w.heap.size w w1) := B0.out.trans (b1.mono B0.out.size)
  have R1 : Hid (w1.ownsRow w.heap.size 2 1 (.slice (some ⟨w.heap.size + 1, 0, none⟩) 0 0) 0 []) := Bo.own_down (Bo.row_on R0.out b1) (Nat.le_succ _)
  clear b1 HW0 B0 R0
  go_wp2_with fail
  go_ret
  exact ⟨_, rfl, R1.out, B1.out⟩

theorem cellsAll (w : World) (r c : Int) (v : Value) (L : List Int) (hL : Lists.Reads w v L) (fL : L.length < 9223372036854775808) (lv : Int) :
    Calls Try.prog 4 #[Bo.sv r c v, .int .i64 lv] w fun e w' => e = .returned (.bool true) ∧ Below w.heap.size w w' := by
  cases h : Bx.okB r c L
  · exact LawClL.cellsLaw w r c v L hL fL lv [] (by simp) (fun w t0 h0 => scells_no r c L lv t0 w h0 fL h) (fun w t0 h0 => icells_no r c L lv t0 w h0 fL h)
  · obtain ⟨hr, hc, hn⟩ := Mv.size_of h
    have n5 := (Bx.mul_le hr hc).2
    obtain ⟨m, A, hR⟩ := run_exists (nbs r c) (hi L lv) (zeros L.length) L.length
    refine LawClL.cellsLaw w r c v L hL fL lv A (by have := (run_in hR).1; omega) (fun w t0 h0 => ?_) (fun w t0 h0 => ?_)
    · refine (scells_yes r c L lv t0 w h0 fL h).mono ?_
      rintro e w' ⟨u, m', A', h1, h2, h3, h4⟩
      obtain ⟨_, rfl⟩ := run_unique (nbs r c) (hi L lv) hR h1
      exact ⟨u, h2, h3, h4⟩
    · refine (icells_yes r c L lv t0 w h0 fL h).mono ?_
      rintro e w' ⟨u, m', A', h1, h2, h3, h4⟩
      obtain ⟨_, rfl⟩ := run_unique (nbs r c) (hi L lv) hR h1
      exact ⟨u, h2, h3, h4⟩
end Go.Proofs.Ythmknlejnnnbaaa.Cl
