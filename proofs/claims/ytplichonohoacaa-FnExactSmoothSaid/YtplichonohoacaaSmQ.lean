/- Smooth where the grid or the number of values is not right: the program and the model. -/
import Derived.Test.YtplichonohoacaaGsC
import Derived.Test.YtplichonohoacaaSmP
namespace Go.Proofs.Ytplichonohoacaa.Gd
open Go.ChangeShapes Go.WideShapes Go.ChangeAt Go.RowKit
open Go.Proofs.Ytplichonohoacaa.Flt

set_option maxHeartbeats 1000000 in
theorem ismooth_no (r c s ws st : Int) (a : Option Addr) (n cap : Nat) (w : World) (h : right r c s ws st n = false) :
    Calls Try.prog 8 #[gv r c s ws st, .slice a n cap] w fun e w' => e = .returned (.slice none 0 0) ∧ Below w.heap.size w w' := by
  have B0 : Hid (Below w.heap.size w ((w.alloc (Obj.cells #[.int .i64 r, .int .i64 c, .int .i64 s, .int .i64 ws, .int .i64 st] 26)).alloc (Obj.cells #[.slice a n cap] 24))) := ((Below.refl _ _).alloc (Nat.le_refl _) _).alloc (by simp) _
  have RI : Hid (∀ w, Calls Try.prog 20 #[gv r c s ws st, .slice a n cap] w fun e w' => e = .returned (.bool false) ∧ Below w.heap.size w w') := fun w => by have := ifield_any r c s ws st a n cap w; rwa [h] at this
  clear h
  go_enter Try.func8, Try.ntmps8
  go_wp2_with fail
  refine (RI.out _).mono ?_
  rintro e w1 ⟨rfl, b1⟩
  have B1 : Hid (Below w.heap.size w w1) := B0.out.trans (b1.mono B0.out.size)
  clear b1
  go_wp2_with fail
  go_ret
  exact ⟨rfl, B1.out⟩

set_option maxHeartbeats 1000000 in
theorem ssmooth_no (r c s ws st : Int) (a : Option Addr) (n cap : Nat) (w : World) (h : right r c s ws st n = false) :
    Calls Try.prog 5 #[gv r c s ws st, .slice a n cap] w fun e w' => ∃ v', e = .returned v' ∧ w'.ownsRow w.heap.size 37 1 v' 0 [] ∧ Below w.heap.size w w' := by
  obtain ⟨w0, hw0⟩ : ∃ w0, w0 = (w.alloc (Obj.cells #[.int .i64 r, .int .i64 c, .int .i64 s, .int .i64 ws, .int .i64 st] 26)).alloc (Obj.cells #[] 37) := ⟨_, rfl⟩
  have HW : Hid (w0 = (w.alloc (Obj.cells #[.int .i64 r, .int .i64 c, .int .i64 s, .int .i64 ws, .int .i64 st] 26)).alloc (Obj.cells #[] 37)) := hw0
  have B0 : Hid (Below w.heap.size w w0) := (by show Below _ _ _; rw [hw0]; exact ((Below.refl _ _).alloc (Nat.le_refl _) _).alloc (by simp) _)
  have R0 : Hid (w0.ownsRow w.heap.size 37 1 (.slice (some ⟨w.heap.size + 1, 0, none⟩) 0 0) 0 []) := (by
    show World.ownsRow _ _ _ _ _ _ _
    rw [hw0]
    have := World.ownsRow_lit (e := 37) (w.alloc (Obj.cells #[.int .i64 r, .int .i64 c, .int .i64 s, .int .i64 ws, .int .i64 st] 26)) #[] 0 (size := 1) (base := w.heap.size) (by simp) (Nat.zero_le _) rfl
    simpa using this)
  have RI : Hid (∀ w, Calls Try.prog 17 #[gv r c s ws st, .int .i64 (n : Int)] w fun e w' => e = .returned (.bool false) ∧ Below w.heap.size w w') := fun w => by have := sright_any r c s ws st n w; rwa [h] at this
  clear h hw0
  go_enter Try.func5, Try.ntmps5
  go_wp2_with fail
  rw [← HW.out]
  refine (RI.out _).mono ?_
  rintro e w1 ⟨rfl, b1⟩
  have B1 : Hid (Below w.heap.size w w1) := B0.out.trans (b1.mono B0.out.size)
  have R1 : Hid (w1.ownsRow w.heap.size 37 1 (.slice (some ⟨w.heap.size + 1, 0, none⟩) 0 0) 0 []) := Pr.row_below R0.out b1
  clear b1 HW
  go_wp2_with fail
  go_ret
  exact ⟨_, rfl, R1.out, B1.out⟩
end Go.Proofs.Ytplichonohoacaa.Gd
