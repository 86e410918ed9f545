/- FlowStep of the program: its head. -/
import Derived.Test.YtjhoagbcfpbelaaFsP
import Derived.Deep.RegionHeld3
import Derived.Deep.Cut
namespace Go.Proofs.Ytjhoagbcfpbelaa.Fs
open Go.ChangeShapes Go.WideShapes Go.ChangeAt Go.RowKit
set_option maxHeartbeats 4000000 in
theorem iflow_no (na wa ra : Option Addr) (nn nc wn wc rn rc : Nat) (z1 z2 : Int) (w : World)
    (CO : Hid (∀ X, Below w.heap.size w X → Calls Try.prog 17 #[.slice na nn nc, .agg #[.slice wa wn wc, .int .i64 z1, .int .i64 z2], .slice ra rn rc] X fun e w' => e = .returned (.bool false) ∧ Below X.heap.size X w')) :
    Calls Try.prog 7 #[.slice na nn nc, .agg #[.slice wa wn wc, .int .i64 z1, .int .i64 z2], .slice ra rn rc] w fun e w' => e = .returned (.tuple #[.agg #[.slice none 0 0, .int .i64 0, .int .i64 0], .bool false]) ∧ Below w.heap.size w w' := by
  obtain ⟨w0, hw0⟩ : ∃ w0, w0 = (w.alloc (.cells #[.slice wa wn wc, .int .i64 z1, .int .i64 z2] 26)).alloc (.cells #[.slice none 0 0, .int .i64 0, .int .i64 0] 26) := ⟨_, rfl⟩
  have HW : Hid (w0 = (w.alloc (.cells #[.slice wa wn wc, .int .i64 z1, .int .i64 z2] 26)).alloc (.cells #[.slice none 0 0, .int .i64 0, .int .i64 0] 26)) := hw0
  have B0 : Hid (Below w.heap.size w w0) := (by show Below _ _ _; rw [hw0]; exact ((Below.refl _ _).alloc (Nat.le_refl _) _).alloc (by simp) _)
  have r0 : w0.cell? ⟨w.heap.size + 1, 0, none⟩ = some (.slice none 0 0) := by rw [hw0]; simp [go_sem]
  have rf0 : w0.frozen? ⟨w.heap.size + 1, 0, none⟩ = false := by rw [hw0]; simp [go_sem]
  have r1 : w0.cell? ⟨w.heap.size + 1, 1, none⟩ = some (.int .i64 0) := by rw [hw0]; simp [go_sem]
  have rf1 : w0.frozen? ⟨w.heap.size + 1, 1, none⟩ = false := by rw [hw0]; simp [go_sem]
  have r2 : w0.cell? ⟨w.heap.size + 1, 2, none⟩ = some (.int .i64 0) := by rw [hw0]; simp [go_sem]
  have rf2 : w0.frozen? ⟨w.heap.size + 1, 2, none⟩ = false := by rw [hw0]; simp [go_sem]
  have c0 : w0.cell? ⟨w.heap.size, 0, none⟩ = some (.slice wa wn wc) := by rw [hw0]; simp [go_sem]
  have c1 : w0.cell? ⟨w.heap.size, 1, none⟩ = some (.int .i64 z1) := by rw [hw0]; simp [go_sem]
  have c2 : w0.cell? ⟨w.heap.size, 2, none⟩ = some (.int .i64 z2) := by rw [hw0]; simp [go_sem]
  have s0 : w.heap.size + 1 < w0.heap.size := by rw [hw0]; simp
  clear hw0
  go_enter Try.func7, Try.ntmps7
  go_upto_region 1 with fail
  rw [← HW.out]
  go_wp2_with fail
  refine (CO.out _ B0.out).mono ?_
  rintro e w1 ⟨rfl, hb⟩
  have s0' := (hb.cell (p := ⟨w.heap.size + 1, 0, none⟩) s0).trans r0
  have sf0 := (hb.frozen (p := ⟨w.heap.size + 1, 0, none⟩) s0).trans rf0
  have s1' := (hb.cell (p := ⟨w.heap.size + 1, 1, none⟩) s0).trans r1
  have sf1 := (hb.frozen (p := ⟨w.heap.size + 1, 1, none⟩) s0).trans rf1
  have s2' := (hb.cell (p := ⟨w.heap.size + 1, 2, none⟩) s0).trans r2
  have sf2 := (hb.frozen (p := ⟨w.heap.size + 1, 2, none⟩) s0).trans rf2
  have B1 : Hid (Below w.heap.size w w1) := B0.out.trans (hb.mono B0.out.size)
  clear hb r0 r1 r2 rf0 rf1 rf2 c0 c1 c2 CO B0 HW s0
  go_wp2_with fail
  refine bodyPost_ret (v := .tuple #[.agg #[.slice none 0 0, .int .i64 0, .int .i64 0], .bool false]) (by simp [results, Try.results7, go_sem, s0', s1', s2']) rfl ⟨rfl, ?_⟩
  exact ((B1.out.setCell (p := ⟨w.heap.size + 1, 0, none⟩) (Nat.le_succ _) _).setCell (p := ⟨w.heap.size + 1, 1, none⟩) (Nat.le_succ _) _).setCell (p := ⟨w.heap.size + 1, 2, none⟩) (Nat.le_succ _) _
end Go.Proofs.Ytjhoagbcfpbelaa.Fs
