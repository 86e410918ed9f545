/- FlowStep of the model: where it is refused. -/
import Derived.Test.YtjhoagbcfpbelaaFsJ
namespace Go.Proofs.Ytjhoagbcfpbelaa.Fs
open Go.ChangeShapes Go.WideShapes Go.ChangeAt Go.RowKit
open Go.Proofs.Ytjhoagbcfpbelaa.Lists
set_option maxRecDepth 20000 in
set_option maxHeartbeats 1000000 in
theorem sno0 (na wa ra : Option Addr) (n1 c1 n2 c2 n3 c3 : Nat) (z1 z2 : Int) (w : World)
    (A0 : Hid (∀ X, Below w.heap.size w X → Calls Try.prog 14 #[.slice na n1 c1] X fun e w' => e = .returned (.bool false) ∧ w' = X)) :
    Calls Try.prog 6 #[.slice na n1 c1, .agg #[.slice wa n2 c2, .int .i64 z1, .int .i64 z2], .slice ra n3 c3] w fun e w' => e = .returned (.tuple #[.agg #[.slice none 0 0, .int .i64 0, .int .i64 0], .bool false]) ∧ Below w.heap.size w w' := by
  obtain ⟨w0, hw0⟩ : ∃ w0, w0 = (w.alloc (.cells #[.slice wa n2 c2, .int .i64 z1, .int .i64 z2] 26)).alloc (.cells #[.slice none 0 0, .int .i64 0, .int .i64 0] 26) := ⟨_, rfl⟩
  have HW : Hid (w0 = (w.alloc (.cells #[.slice wa n2 c2, .int .i64 z1, .int .i64 z2] 26)).alloc (.cells #[.slice none 0 0, .int .i64 0, .int .i64 0] 26)) := hw0
  have B0 : Hid (Below w.heap.size w w0) := (by show Below _ _ _; rw [hw0]; exact ((Below.refl _ _).alloc (Nat.le_refl _) _).alloc (by simp) _)
  obtain ⟨x0, x1, x2⟩ : Bk.Box w0 w.heap.size (.slice wa n2 c2) (.int .i64 z1) (.int .i64 z2) := by rw [hw0]; unfold Bk.Box; simp [go_sem]
  obtain ⟨y0, y1, y2⟩ : Bk.Box w0 (w.heap.size + 1) (.slice none 0 0) (.int .i64 0) (.int .i64 0) := by rw [hw0]; unfold Bk.Box; simp [go_sem]
  have f0 : w0.frozen? ⟨w.heap.size + 1, 0, none⟩ = false := by rw [hw0]; simp [go_sem]
  have f1 : w0.frozen? ⟨w.heap.size + 1, 1, none⟩ = false := by rw [hw0]; simp [go_sem]
  have f2 : w0.frozen? ⟨w.heap.size + 1, 2, none⟩ = false := by rw [hw0]; simp [go_sem]
  clear hw0
  go_enter Try.func6, Try.ntmps6
  go_upto_region 1 with fail
  rw [← HW.out]
  go_wp2_with fail
  refine (A0.out _ B0.out).mono ?_
  rintro e x ⟨rfl, hx⟩
  subst x
  go_wp2_with fail
  refine bodyPost_ret (v := .tuple #[.agg #[.slice none 0 0, .int .i64 0, .int .i64 0], .bool false]) (by simp [results, Try.results6, go_sem, y0, y1, y2]) rfl ⟨rfl, ?_⟩
  exact ((B0.out.setCell (p := ⟨w.heap.size + 1, 0, none⟩) (Nat.le_succ _) _).setCell (p := ⟨w.heap.size + 1, 1, none⟩) (Nat.le_succ _) _).setCell (p := ⟨w.heap.size + 1, 2, none⟩) (Nat.le_succ _) _
set_option maxRecDepth 20000 in
set_option maxHeartbeats 1000000 in
theorem sno1 (na wa ra : Option Addr) (n1 c1 n2 c2 n3 c3 : Nat) (z1 z2 : Int) (w : World)
    (A0 : Hid (∀ X, Below w.heap.size w X → Calls Try.prog 14 #[.slice na n1 c1] X fun e w' => e = .returned (.bool true) ∧ w' = X))
    (h1 : n2 ≠ n1) :
    Calls Try.prog 6 #[.slice na n1 c1, .agg #[.slice wa n2 c2, .int .i64 z1, .int .i64 z2], .slice ra n3 c3] w fun e w' => e = .returned (.tuple #[.agg #[.slice none 0 0, .int .i64 0, .int .i64 0], .bool false]) ∧ Below w.heap.size w w' := by
  have k1 : ((n2 : Int) != (n1 : Int)) = true := by simp; omega
  have k1n : (n2 != n1) = true := by simp; omega
  obtain ⟨w0, hw0⟩ : ∃ w0, w0 = (w.alloc (.cells #[.slice wa n2 c2, .int .i64 z1, .int .i64 z2] 26)).alloc (.cells #[.slice none 0 0, .int .i64 0, .int .i64 0] 26) := ⟨_, rfl⟩
  have HW : Hid (w0 = (w.alloc (.cells #[.slice wa n2 c2, .int .i64 z1, .int .i64 z2] 26)).alloc (.cells #[.slice none 0 0, .int .i64 0, .int .i64 0] 26)) := hw0
  have B0 : Hid (Below w.heap.size w w0) := (by show Below _ _ _; rw [hw0]; exact ((Below.refl _ _).alloc (Nat.le_refl _) _).alloc (by simp) _)
  obtain ⟨x0, x1, x2⟩ : Bk.Box w0 w.heap.size (.slice wa n2 c2) (.int .i64 z1) (.int .i64 z2) := by rw [hw0]; unfold Bk.Box; simp [go_sem]
  obtain ⟨y0, y1, y2⟩ : Bk.Box w0 (w.heap.size + 1) (.slice none 0 0) (.int .i64 0) (.int .i64 0) := by rw [hw0]; unfold Bk.Box; simp [go_sem]
  have f0 : w0.frozen? ⟨w.heap.size + 1, 0, none⟩ = false := by rw [hw0]; simp [go_sem]
  have f1 : w0.frozen? ⟨w.heap.size + 1, 1, none⟩ = false := by rw [hw0]; simp [go_sem]
  have f2 : w0.frozen? ⟨w.heap.size + 1, 2, none⟩ = false := by rw [hw0]; simp [go_sem]
  clear hw0
  go_enter Try.func6, Try.ntmps6
  go_upto_region 1 with fail
  rw [← HW.out]
  go_wp2_with fail
  refine (A0.out _ B0.out).mono ?_
  rintro e x ⟨rfl, hx⟩
  subst x
  go_wp2_with fail
  refine bodyPost_ret (v := .tuple #[.agg #[.slice none 0 0, .int .i64 0, .int .i64 0], .bool false]) (by simp [results, Try.results6, go_sem, y0, y1, y2]) rfl ⟨rfl, ?_⟩
  exact ((B0.out.setCell (p := ⟨w.heap.size + 1, 0, none⟩) (Nat.le_succ _) _).setCell (p := ⟨w.heap.size + 1, 1, none⟩) (Nat.le_succ _) _).setCell (p := ⟨w.heap.size + 1, 2, none⟩) (Nat.le_succ _) _
set_option maxRecDepth 20000 in
set_option maxHeartbeats 1000000 in
theorem sno2 (na wa ra : Option Addr) (n1 c1 n2 c2 n3 c3 : Nat) (z1 z2 : Int) (w : World)
    (A0 : Hid (∀ X, Below w.heap.size w X → Calls Try.prog 14 #[.slice na n1 c1] X fun e w' => e = .returned (.bool true) ∧ w' = X))
    (h1 : n2 = n1)
    (h2 : n3 ≠ n1) :
    Calls Try.prog 6 #[.slice na n1 c1, .agg #[.slice wa n2 c2, .int .i64 z1, .int .i64 z2], .slice ra n3 c3] w fun e w' => e = .returned (.tuple #[.agg #[.slice none 0 0, .int .i64 0, .int .i64 0], .bool false]) ∧ Below w.heap.size w w' := by
  subst n1
  have k2 : ((n3 : Int) != (n2 : Int)) = true := by simp; omega
  have k2n : (n3 != n2) = true := by simp; omega
  obtain ⟨w0, hw0⟩ : ∃ w0, w0 = (w.alloc (.cells #[.slice wa n2 c2, .int .i64 z1, .int .i64 z2] 26)).alloc (.cells #[.slice none 0 0, .int .i64 0, .int .i64 0] 26) := ⟨_, rfl⟩
  have HW : Hid (w0 = (w.alloc (.cells #[.slice wa n2 c2, .int .i64 z1, .int .i64 z2] 26)).alloc (.cells #[.slice none 0 0, .int .i64 0, .int .i64 0] 26)) := hw0
  have B0 : Hid (Below w.heap.size w w0) := (by show Below _ _ _; rw [hw0]; exact ((Below.refl _ _).alloc (Nat.le_refl _) _).alloc (by simp) _)
  obtain ⟨x0, x1, x2⟩ : Bk.Box w0 w.heap.size (.slice wa n2 c2) (.int .i64 z1) (.int .i64 z2) := by rw [hw0]; unfold Bk.Box; simp [go_sem]
  obtain ⟨y0, y1, y2⟩ : Bk.Box w0 (w.heap.size + 1) (.slice none 0 0) (.int .i64 0) (.int .i64 0) := by rw [hw0]; unfold Bk.Box; simp [go_sem]
  have f0 : w0.frozen? ⟨w.heap.size + 1, 0, none⟩ = false := by rw [hw0]; simp [go_sem]
  have f1 : w0.frozen? ⟨w.heap.size + 1, 1, none⟩ = false := by rw [hw0]; simp [go_sem]
  have f2 : w0.frozen? ⟨w.heap.size + 1, 2, none⟩ = false := by rw [hw0]; simp [go_sem]
  clear hw0
  go_enter Try.func6, Try.ntmps6
  go_upto_region 1 with fail
  rw [← HW.out]
  go_wp2_with fail
  refine (A0.out _ B0.out).mono ?_
  rintro e x ⟨rfl, hx⟩
  subst x
  go_wp2_with fail
  refine bodyPost_ret (v := .tuple #[.agg #[.slice none 0 0, .int .i64 0, .int .i64 0], .bool false]) (by simp [results, Try.results6, go_sem, y0, y1, y2]) rfl ⟨rfl, ?_⟩
  exact ((B0.out.setCell (p := ⟨w.heap.size + 1, 0, none⟩) (Nat.le_succ _) _).setCell (p := ⟨w.heap.size + 1, 1, none⟩) (Nat.le_succ _) _).setCell (p := ⟨w.heap.size + 1, 2, none⟩) (Nat.le_succ _) _
set_option maxRecDepth 20000 in
set_option maxHeartbeats 1000000 in
theorem sno3 (na wa ra : Option Addr) (n1 c1 n2 c2 n3 c3 : Nat) (z1 z2 : Int) (w : World)
    (A0 : Hid (∀ X, Below w.heap.size w X → Calls Try.prog 14 #[.slice na n1 c1] X fun e w' => e = .returned (.bool true) ∧ w' = X))
    (h1 : n2 = n1)
    (h2 : n3 = n1)
    (A1 : Hid (∀ X, Below w.heap.size w X → Calls Try.prog 15 #[.int .i64 z1, .int .i64 0, .int .i64 1000000000000] X fun e w' => e = .returned (.bool false) ∧ w' = X)) :
    Calls Try.prog 6 #[.slice na n1 c1, .agg #[.slice wa n2 c2, .int .i64 z1, .int .i64 z2], .slice ra n3 c3] w fun e w' => e = .returned (.tuple #[.agg #[.slice none 0 0, .int .i64 0, .int .i64 0], .bool false]) ∧ Below w.heap.size w w' := by
  subst n1
  subst n3
  obtain ⟨w0, hw0⟩ : ∃ w0, w0 = (w.alloc (.cells #[.slice wa n2 c2, .int .i64 z1, .int .i64 z2] 26)).alloc (.cells #[.slice none 0 0, .int .i64 0, .int .i64 0] 26) := ⟨_, rfl⟩
  have HW : Hid (w0 = (w.alloc (.cells #[.slice wa n2 c2, .int .i64 z1, .int .i64 z2] 26)).alloc (.cells #[.slice none 0 0, .int .i64 0, .int .i64 0] 26)) := hw0
  have B0 : Hid (Below w.heap.size w w0) := (by show Below _ _ _; rw [hw0]; exact ((Below.refl _ _).alloc (Nat.le_refl _) _).alloc (by simp) _)
  obtain ⟨x0, x1, x2⟩ : Bk.Box w0 w.heap.size (.slice wa n2 c2) (.int .i64 z1) (.int .i64 z2) := by rw [hw0]; unfold Bk.Box; simp [go_sem]
  obtain ⟨y0, y1, y2⟩ : Bk.Box w0 (w.heap.size + 1) (.slice none 0 0) (.int .i64 0) (.int .i64 0) := by rw [hw0]; unfold Bk.Box; simp [go_sem]
  have f0 : w0.frozen? ⟨w.heap.size + 1, 0, none⟩ = false := by rw [hw0]; simp [go_sem]
  have f1 : w0.frozen? ⟨w.heap.size + 1, 1, none⟩ = false := by rw [hw0]; simp [go_sem]
  have f2 : w0.frozen? ⟨w.heap.size + 1, 2, none⟩ = false := by rw [hw0]; simp [go_sem]
  clear hw0
  go_enter Try.func6, Try.ntmps6
  go_upto_region 1 with fail
  rw [← HW.out]
  go_wp2_with fail
  refine (A0.out _ B0.out).mono ?_
  rintro e x ⟨rfl, hx⟩
  subst x
  go_wp2_with fail
  refine (A1.out _ B0.out).mono ?_
  rintro e x ⟨rfl, hx⟩
  subst x
  go_wp2_with fail
  refine bodyPost_ret (v := .tuple #[.agg #[.slice none 0 0, .int .i64 0, .int .i64 0], .bool false]) (by simp [results, Try.results6, go_sem, y0, y1, y2]) rfl ⟨rfl, ?_⟩
  exact ((B0.out.setCell (p := ⟨w.heap.size + 1, 0, none⟩) (Nat.le_succ _) _).setCell (p := ⟨w.heap.size + 1, 1, none⟩) (Nat.le_succ _) _).setCell (p := ⟨w.heap.size + 1, 2, none⟩) (Nat.le_succ _) _
set_option maxRecDepth 20000 in
set_option maxHeartbeats 1000000 in
theorem sno4 (na wa ra : Option Addr) (n1 c1 n2 c2 n3 c3 : Nat) (z1 z2 : Int) (w : World)
    (A0 : Hid (∀ X, Below w.heap.size w X → Calls Try.prog 14 #[.slice na n1 c1] X fun e w' => e = .returned (.bool true) ∧ w' = X))
    (h1 : n2 = n1)
    (h2 : n3 = n1)
    (A1 : Hid (∀ X, Below w.heap.size w X → Calls Try.prog 15 #[.int .i64 z1, .int .i64 0, .int .i64 1000000000000] X fun e w' => e = .returned (.bool true) ∧ w' = X))
    (A2 : Hid (∀ X, Below w.heap.size w X → Calls Try.prog 15 #[.int .i64 z2, .int .i64 0, .int .i64 1000000000000] X fun e w' => e = .returned (.bool false) ∧ w' = X)) :
    Calls Try.prog 6 #[.slice na n1 c1, .agg #[.slice wa n2 c2, .int .i64 z1, .int .i64 z2], .slice ra n3 c3] w fun e w' => e = .returned (.tuple #[.agg #[.slice none 0 0, .int .i64 0, .int .i64 0], .bool false]) ∧ Below w.heap.size w w' := by
  subst n1
  subst n3
  obtain ⟨w0, hw0⟩ : ∃ w0, w0 = (w.alloc (.cells #[.slice wa n2 c2, .int .i64 z1, .int .i64 z2] 26)).alloc (.cells #[.slice none 0 0, .int .i64 0, .int .i64 0] 26) := ⟨_, rfl⟩
  have HW : Hid (w0 = (w.alloc (.cells #[.slice wa n2 c2, .int .i64 z1, .int .i64 z2] 26)).alloc (.cells #[.slice none 0 0, .int .i64 0, .int .i64 0] 26)) := hw0
  have B0 : Hid (Below w.heap.size w w0) := (by show Below _ _ _; rw [hw0]; exact ((Below.refl _ _).alloc (Nat.le_refl _) _).alloc (by simp) _)
  obtain ⟨x0, x1, x2⟩ : Bk.Box w0 w.heap.size (.slice wa n2 c2) (.int .i64 z1) (.int .i64 z2) := by rw [hw0]; unfold Bk.Box; simp [go_sem]
  obtain ⟨y0, y1, y2⟩ : Bk.Box w0 (w.heap.size + 1) (.slice none 0 0) (.int .i64 0) (.int .i64 0) := by rw [hw0]; unfold Bk.Box; simp [go_sem]
  have f0 : w0.frozen? ⟨w.heap.size + 1, 0, none⟩ = false := by rw [hw0]; simp [go_sem]
  have f1 : w0.frozen? ⟨w.heap.size + 1, 1, none⟩ = false := by rw [hw0]; simp [go_sem]
  have f2 : w0.frozen? ⟨w.heap.size + 1, 2, none⟩ = false := by rw [hw0]; simp [go_sem]
  clear hw0
  go_enter Try.func6, Try.ntmps6
  go_upto_region 1 with fail
  rw [← HW.out]
  go_wp2_with fail
  refine (A0.out _ B0.out).mono ?_
  rintro e x ⟨rfl, hx⟩
  subst x
  go_wp2_with fail
  refine (A1.out _ B0.out).mono ?_
  rintro e x ⟨rfl, hx⟩
  subst x
  go_wp2_with fail
  refine (A2.out _ B0.out).mono ?_
  rintro e x ⟨rfl, hx⟩
  subst x
  go_wp2_with fail
  refine bodyPost_ret (v := .tuple #[.agg #[.slice none 0 0, .int .i64 0, .int .i64 0], .bool false]) (by simp [results, Try.results6, go_sem, y0, y1, y2]) rfl ⟨rfl, ?_⟩
  exact ((B0.out.setCell (p := ⟨w.heap.size + 1, 0, none⟩) (Nat.le_succ _) _).setCell (p := ⟨w.heap.size + 1, 1, none⟩) (Nat.le_succ _) _).setCell (p := ⟨w.heap.size + 1, 2, none⟩) (Nat.le_succ _) _
set_option maxRecDepth 20000 in
set_option maxHeartbeats 1000000 in
theorem sno5 (na wa ra : Option Addr) (n1 c1 n2 c2 n3 c3 : Nat) (z1 z2 s1 s2 : Int) (w : World)
    (A0 : Hid (∀ X, Below w.heap.size w X → Calls Try.prog 14 #[.slice na n1 c1] X fun e w' => e = .returned (.bool true) ∧ w' = X))
    (h1 : n2 = n1)
    (h2 : n3 = n1)
    (A1 : Hid (∀ X, Below w.heap.size w X → Calls Try.prog 15 #[.int .i64 z1, .int .i64 0, .int .i64 1000000000000] X fun e w' => e = .returned (.bool true) ∧ w' = X))
    (A2 : Hid (∀ X, Below w.heap.size w X → Calls Try.prog 15 #[.int .i64 z2, .int .i64 0, .int .i64 1000000000000] X fun e w' => e = .returned (.bool true) ∧ w' = X))
    (q : Bool)
    (A3 : Hid (∀ X, Below w.heap.size w X → Calls Try.prog 16 #[.slice wa n2 c2] X fun e w' => e = .returned (.tuple #[.int .i64 s1, .bool false]) ∧ w' = X))
    (A4 : Hid (∀ X, Below w.heap.size w X → Calls Try.prog 16 #[.slice ra n3 c3] X fun e w' => e = .returned (.tuple #[.int .i64 s2, .bool q]) ∧ w' = X)) :
    Calls Try.prog 6 #[.slice na n1 c1, .agg #[.slice wa n2 c2, .int .i64 z1, .int .i64 z2], .slice ra n3 c3] w fun e w' => e = .returned (.tuple #[.agg #[.slice none 0 0, .int .i64 0, .int .i64 0], .bool false]) ∧ Below w.heap.size w w' := by
  subst n1
  subst n3
  obtain ⟨w0, hw0⟩ : ∃ w0, w0 = (w.alloc (.cells #[.slice wa n2 c2, .int .i64 z1, .int .i64 z2] 26)).alloc (.cells #[.slice none 0 0, .int .i64 0, .int .i64 0] 26) := ⟨_, rfl⟩
  have HW : Hid (w0 = (w.alloc (.cells #[.slice wa n2 c2, .int .i64 z1, .int .i64 z2] 26)).alloc (.cells #[.slice none 0 0, .int .i64 0, .int .i64 0] 26)) := hw0
  have B0 : Hid (Below w.heap.size w w0) := (by show Below _ _ _; rw [hw0]; exact ((Below.refl _ _).alloc (Nat.le_refl _) _).alloc (by simp) _)
  obtain ⟨x0, x1, x2⟩ : Bk.Box w0 w.heap.size (.slice wa n2 c2) (.int .i64 z1) (.int .i64 z2) := by rw [hw0]; unfold Bk.Box; simp [go_sem]
  obtain ⟨y0, y1, y2⟩ : Bk.Box w0 (w.heap.size + 1) (.slice none 0 0) (.int .i64 0) (.int .i64 0) := by rw [hw0]; unfold Bk.Box; simp [go_sem]
  have f0 : w0.frozen? ⟨w.heap.size + 1, 0, none⟩ = false := by rw [hw0]; simp [go_sem]
  have f1 : w0.frozen? ⟨w.heap.size + 1, 1, none⟩ = false := by rw [hw0]; simp [go_sem]
  have f2 : w0.frozen? ⟨w.heap.size + 1, 2, none⟩ = false := by rw [hw0]; simp [go_sem]
  clear hw0
  go_enter Try.func6, Try.ntmps6
  go_upto_region 1 with fail
  rw [← HW.out]
  go_wp2_with fail
  refine (A0.out _ B0.out).mono ?_
  rintro e x ⟨rfl, hx⟩
  subst x
  go_wp2_with fail
  refine (A1.out _ B0.out).mono ?_
  rintro e x ⟨rfl, hx⟩
  subst x
  go_wp2_with fail
  refine (A2.out _ B0.out).mono ?_
  rintro e x ⟨rfl, hx⟩
  subst x
  go_wp2_with fail
  refine (A3.out _ B0.out).mono ?_
  rintro e x ⟨rfl, hx⟩
  subst x
  go_wp2_with fail
  refine (A4.out _ B0.out).mono ?_
  rintro e x ⟨rfl, hx⟩
  subst x
  go_wp2_with fail
  refine bodyPost_ret (v := .tuple #[.agg #[.slice none 0 0, .int .i64 0, .int .i64 0], .bool false]) (by simp [results, Try.results6, go_sem, y0, y1, y2]) rfl ⟨rfl, ?_⟩
  exact ((B0.out.setCell (p := ⟨w.heap.size + 1, 0, none⟩) (Nat.le_succ _) _).setCell (p := ⟨w.heap.size + 1, 1, none⟩) (Nat.le_succ _) _).setCell (p := ⟨w.heap.size + 1, 2, none⟩) (Nat.le_succ _) _
set_option maxRecDepth 20000 in
set_option maxHeartbeats 1000000 in
theorem sno6 (na wa ra : Option Addr) (n1 c1 n2 c2 n3 c3 : Nat) (z1 z2 s1 s2 : Int) (w : World)
    (A0 : Hid (∀ X, Below w.heap.size w X → Calls Try.prog 14 #[.slice na n1 c1] X fun e w' => e = .returned (.bool true) ∧ w' = X))
    (h1 : n2 = n1)
    (h2 : n3 = n1)
    (A1 : Hid (∀ X, Below w.heap.size w X → Calls Try.prog 15 #[.int .i64 z1, .int .i64 0, .int .i64 1000000000000] X fun e w' => e = .returned (.bool true) ∧ w' = X))
    (A2 : Hid (∀ X, Below w.heap.size w X → Calls Try.prog 15 #[.int .i64 z2, .int .i64 0, .int .i64 1000000000000] X fun e w' => e = .returned (.bool true) ∧ w' = X))
    (A3 : Hid (∀ X, Below w.heap.size w X → Calls Try.prog 16 #[.slice wa n2 c2] X fun e w' => e = .returned (.tuple #[.int .i64 s1, .bool true]) ∧ w' = X))
    (A4 : Hid (∀ X, Below w.heap.size w X → Calls Try.prog 16 #[.slice ra n3 c3] X fun e w' => e = .returned (.tuple #[.int .i64 s2, .bool false]) ∧ w' = X)) :
    Calls Try.prog 6 #[.slice na n1 c1, .agg #[.slice wa n2 c2, .int .i64 z1, .int .i64 z2], .slice ra n3 c3] w fun e w' => e = .returned (.tuple #[.agg #[.slice none 0 0, .int .i64 0, .int .i64 0], .bool false]) ∧ Below w.heap.size w w' := by
  subst n1
  subst n3
  obtain ⟨w0, hw0⟩ : ∃ w0, w0 = (w.alloc (.cells #[.slice wa n2 c2, .int .i64 z1, .int .i64 z2] 26)).alloc (.cells #[.slice none 0 0, .int .i64 0, .int .i64 0] 26) := ⟨_, rfl⟩
  have HW : Hid (w0 = (w.alloc (.cells #[.slice wa n2 c2, .int .i64 z1, .int .i64 z2] 26)).alloc (.cells #[.slice none 0 0, .int .i64 0, .int .i64 0] 26)) := hw0
  have B0 : Hid (Below w.heap.size w w0) := (by show Below _ _ _; rw [hw0]; exact ((Below.refl _ _).alloc (Nat.le_refl _) _).alloc (by simp) _)
  obtain ⟨x0, x1, x2⟩ : Bk.Box w0 w.heap.size (.slice wa n2 c2) (.int .i64 z1) (.int .i64 z2) := by rw [hw0]; unfold Bk.Box; simp [go_sem]
  obtain ⟨y0, y1, y2⟩ : Bk.Box w0 (w.heap.size + 1) (.slice none 0 0) (.int .i64 0) (.int .i64 0) := by rw [hw0]; unfold Bk.Box; simp [go_sem]
  have f0 : w0.frozen? ⟨w.heap.size + 1, 0, none⟩ = false := by rw [hw0]; simp [go_sem]
  have f1 : w0.frozen? ⟨w.heap.size + 1, 1, none⟩ = false := by rw [hw0]; simp [go_sem]
  have f2 : w0.frozen? ⟨w.heap.size + 1, 2, none⟩ = false := by rw [hw0]; simp [go_sem]
  clear hw0
  go_enter Try.func6, Try.ntmps6
  go_upto_region 1 with fail
  rw [← HW.out]
  go_wp2_with fail
  refine (A0.out _ B0.out).mono ?_
  rintro e x ⟨rfl, hx⟩
  subst x
  go_wp2_with fail
  refine (A1.out _ B0.out).mono ?_
  rintro e x ⟨rfl, hx⟩
  subst x
  go_wp2_with fail
  refine (A2.out _ B0.out).mono ?_
  rintro e x ⟨rfl, hx⟩
  subst x
  go_wp2_with fail
  refine (A3.out _ B0.out).mono ?_
  rintro e x ⟨rfl, hx⟩
  subst x
  go_wp2_with fail
  refine (A4.out _ B0.out).mono ?_
  rintro e x ⟨rfl, hx⟩
  subst x
  go_wp2_with fail
  refine bodyPost_ret (v := .tuple #[.agg #[.slice none 0 0, .int .i64 0, .int .i64 0], .bool false]) (by simp [results, Try.results6, go_sem, y0, y1, y2]) rfl ⟨rfl, ?_⟩
  exact ((B0.out.setCell (p := ⟨w.heap.size + 1, 0, none⟩) (Nat.le_succ _) _).setCell (p := ⟨w.heap.size + 1, 1, none⟩) (Nat.le_succ _) _).setCell (p := ⟨w.heap.size + 1, 2, none⟩) (Nat.le_succ _) _
set_option maxRecDepth 20000 in
set_option maxHeartbeats 1000000 in
theorem sno7 (na wa ra : Option Addr) (n1 c1 n2 c2 n3 c3 : Nat) (z1 z2 s1 s2 : Int) (w : World)
    (A0 : Hid (∀ X, Below w.heap.size w X → Calls Try.prog 14 #[.slice na n1 c1] X fun e w' => e = .returned (.bool true) ∧ w' = X))
    (h1 : n2 = n1)
    (h2 : n3 = n1)
    (A1 : Hid (∀ X, Below w.heap.size w X → Calls Try.prog 15 #[.int .i64 z1, .int .i64 0, .int .i64 1000000000000] X fun e w' => e = .returned (.bool true) ∧ w' = X))
    (A2 : Hid (∀ X, Below w.heap.size w X → Calls Try.prog 15 #[.int .i64 z2, .int .i64 0, .int .i64 1000000000000] X fun e w' => e = .returned (.bool true) ∧ w' = X))
    (A3 : Hid (∀ X, Below w.heap.size w X → Calls Try.prog 16 #[.slice wa n2 c2] X fun e w' => e = .returned (.tuple #[.int .i64 s1, .bool true]) ∧ w' = X))
    (A4 : Hid (∀ X, Below w.heap.size w X → Calls Try.prog 16 #[.slice ra n3 c3] X fun e w' => e = .returned (.tuple #[.int .i64 s2, .bool true]) ∧ w' = X))
    (w1 : IntKind.i64.wrap (s1 + z1) = s1 + z1)
    (h3 : s1 + z1 ≠ z2) :
    Calls Try.prog 6 #[.slice na n1 c1, .agg #[.slice wa n2 c2, .int .i64 z1, .int .i64 z2], .slice ra n3 c3] w fun e w' => e = .returned (.tuple #[.agg #[.slice none 0 0, .int .i64 0, .int .i64 0], .bool false]) ∧ Below w.heap.size w w' := by
  subst n1
  subst n3
  have k3 : ((s1 + z1) != z2) = true := by simp [h3]
  obtain ⟨w0, hw0⟩ : ∃ w0, w0 = (w.alloc (.cells #[.slice wa n2 c2, .int .i64 z1, .int .i64 z2] 26)).alloc (.cells #[.slice none 0 0, .int .i64 0, .int .i64 0] 26) := ⟨_, rfl⟩
  have HW : Hid (w0 = (w.alloc (.cells #[.slice wa n2 c2, .int .i64 z1, .int .i64 z2] 26)).alloc (.cells #[.slice none 0 0, .int .i64 0, .int .i64 0] 26)) := hw0
  have B0 : Hid (Below w.heap.size w w0) := (by show Below _ _ _; rw [hw0]; exact ((Below.refl _ _).alloc (Nat.le_refl _) _).alloc (by simp) _)
  obtain ⟨x0, x1, x2⟩ : Bk.Box w0 w.heap.size (.slice wa n2 c2) (.int .i64 z1) (.int .i64 z2) := by rw [hw0]; unfold Bk.Box; simp [go_sem]
  obtain ⟨y0, y1, y2⟩ : Bk.Box w0 (w.heap.size + 1) (.slice none 0 0) (.int .i64 0) (.int .i64 0) := by rw [hw0]; unfold Bk.Box; simp [go_sem]
  have f0 : w0.frozen? ⟨w.heap.size + 1, 0, none⟩ = false := by rw [hw0]; simp [go_sem]
  have f1 : w0.frozen? ⟨w.heap.size + 1, 1, none⟩ = false := by rw [hw0]; simp [go_sem]
  have f2 : w0.frozen? ⟨w.heap.size + 1, 2, none⟩ = false := by rw [hw0]; simp [go_sem]
  clear hw0
  go_enter Try.func6, Try.ntmps6
  go_upto_region 1 with fail
  rw [← HW.out]
  go_wp2_with fail
  refine (A0.out _ B0.out).mono ?_
  rintro e x ⟨rfl, hx⟩
  subst x
  go_wp2_with fail
  refine (A1.out _ B0.out).mono ?_
  rintro e x ⟨rfl, hx⟩
  subst x
  go_wp2_with fail
  refine (A2.out _ B0.out).mono ?_
  rintro e x ⟨rfl, hx⟩
  subst x
  go_wp2_with fail
  refine (A3.out _ B0.out).mono ?_
  rintro e x ⟨rfl, hx⟩
  subst x
  go_wp2_with fail
  refine (A4.out _ B0.out).mono ?_
  rintro e x ⟨rfl, hx⟩
  subst x
  go_wp2_with fail
  refine bodyPost_ret (v := .tuple #[.agg #[.slice none 0 0, .int .i64 0, .int .i64 0], .bool false]) (by simp [results, Try.results6, go_sem, y0, y1, y2]) rfl ⟨rfl, ?_⟩
  exact ((B0.out.setCell (p := ⟨w.heap.size + 1, 0, none⟩) (Nat.le_succ _) _).setCell (p := ⟨w.heap.size + 1, 1, none⟩) (Nat.le_succ _) _).setCell (p := ⟨w.heap.size + 1, 2, none⟩) (Nat.le_succ _) _
set_option maxRecDepth 20000 in
set_option maxHeartbeats 1000000 in
theorem sno8 (na wa ra : Option Addr) (n1 c1 n2 c2 n3 c3 : Nat) (z1 z2 s1 s2 : Int) (w : World)
    (A0 : Hid (∀ X, Below w.heap.size w X → Calls Try.prog 14 #[.slice na n1 c1] X fun e w' => e = .returned (.bool true) ∧ w' = X))
    (h1 : n2 = n1)
    (h2 : n3 = n1)
    (A1 : Hid (∀ X, Below w.heap.size w X → Calls Try.prog 15 #[.int .i64 z1, .int .i64 0, .int .i64 1000000000000] X fun e w' => e = .returned (.bool true) ∧ w' = X))
    (A2 : Hid (∀ X, Below w.heap.size w X → Calls Try.prog 15 #[.int .i64 z2, .int .i64 0, .int .i64 1000000000000] X fun e w' => e = .returned (.bool true) ∧ w' = X))
    (A3 : Hid (∀ X, Below w.heap.size w X → Calls Try.prog 16 #[.slice wa n2 c2] X fun e w' => e = .returned (.tuple #[.int .i64 s1, .bool true]) ∧ w' = X))
    (A4 : Hid (∀ X, Below w.heap.size w X → Calls Try.prog 16 #[.slice ra n3 c3] X fun e w' => e = .returned (.tuple #[.int .i64 s2, .bool true]) ∧ w' = X))
    (w1 : IntKind.i64.wrap (s1 + z1) = z2)
    (w2 : IntKind.i64.wrap (1000000000000 - s2) = 1000000000000 - s2)
    (h4 : 1000000000000 - s2 < z2) :
    Calls Try.prog 6 #[.slice na n1 c1, .agg #[.slice wa n2 c2, .int .i64 z1, .int .i64 z2], .slice ra n3 c3] w fun e w' => e = .returned (.tuple #[.agg #[.slice none 0 0, .int .i64 0, .int .i64 0], .bool false]) ∧ Below w.heap.size w w' := by
  subst n1
  subst n3
  obtain ⟨w0, hw0⟩ : ∃ w0, w0 = (w.alloc (.cells #[.slice wa n2 c2, .int .i64 z1, .int .i64 z2] 26)).alloc (.cells #[.slice none 0 0, .int .i64 0, .int .i64 0] 26) := ⟨_, rfl⟩
  have HW : Hid (w0 = (w.alloc (.cells #[.slice wa n2 c2, .int .i64 z1, .int .i64 z2] 26)).alloc (.cells #[.slice none 0 0, .int .i64 0, .int .i64 0] 26)) := hw0
  have B0 : Hid (Below w.heap.size w w0) := (by show Below _ _ _; rw [hw0]; exact ((Below.refl _ _).alloc (Nat.le_refl _) _).alloc (by simp) _)
  obtain ⟨x0, x1, x2⟩ : Bk.Box w0 w.heap.size (.slice wa n2 c2) (.int .i64 z1) (.int .i64 z2) := by rw [hw0]; unfold Bk.Box; simp [go_sem]
  obtain ⟨y0, y1, y2⟩ : Bk.Box w0 (w.heap.size + 1) (.slice none 0 0) (.int .i64 0) (.int .i64 0) := by rw [hw0]; unfold Bk.Box; simp [go_sem]
  have f0 : w0.frozen? ⟨w.heap.size + 1, 0, none⟩ = false := by rw [hw0]; simp [go_sem]
  have f1 : w0.frozen? ⟨w.heap.size + 1, 1, none⟩ = false := by rw [hw0]; simp [go_sem]
  have f2 : w0.frozen? ⟨w.heap.size + 1, 2, none⟩ = false := by rw [hw0]; simp [go_sem]
  clear hw0
  go_enter Try.func6, Try.ntmps6
  go_upto_region 1 with fail
  rw [← HW.out]
  go_wp2_with fail
  refine (A0.out _ B0.out).mono ?_
  rintro e x ⟨rfl, hx⟩
  subst x
  go_wp2_with fail
  refine (A1.out _ B0.out).mono ?_
  rintro e x ⟨rfl, hx⟩
  subst x
  go_wp2_with fail
  refine (A2.out _ B0.out).mono ?_
  rintro e x ⟨rfl, hx⟩
  subst x
  go_wp2_with fail
  refine (A3.out _ B0.out).mono ?_
  rintro e x ⟨rfl, hx⟩
  subst x
  go_wp2_with fail
  refine (A4.out _ B0.out).mono ?_
  rintro e x ⟨rfl, hx⟩
  subst x
  go_wp2_with fail
  refine bodyPost_ret (v := .tuple #[.agg #[.slice none 0 0, .int .i64 0, .int .i64 0], .bool false]) (by simp [results, Try.results6, go_sem, y0, y1, y2]) rfl ⟨rfl, ?_⟩
  exact ((B0.out.setCell (p := ⟨w.heap.size + 1, 0, none⟩) (Nat.le_succ _) _).setCell (p := ⟨w.heap.size + 1, 1, none⟩) (Nat.le_succ _) _).setCell (p := ⟨w.heap.size + 1, 2, none⟩) (Nat.le_succ _) _
end Go.Proofs.Ytjhoagbcfpbelaa.Fs
