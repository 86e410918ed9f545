/- Whether a saying is right, of both sides. -/
import Derived.Test.YtnbhfjcpimdnlaaDoorPr
namespace Go.Proofs.YtnbhfjcpimdnlaaDoor.Ph
open Go.ChangeShapes Go.WideShapes Go.ChangeAt Go.RowKit
def inn (n a b : Int) : Bool := decide (a ≤ n) && decide (n ≤ b)
def sok (d f l r p : Int) : Bool := inn d 0 8 && (inn f 0 12 && (inn l 0 12 && (((f == 0) == (d == 0)) && (inn r 0 3 && (inn p 0 100 && ((p == 0) == (r == 0)))))))
set_option maxHeartbeats 400000 in
theorem win_any (n a b : Int) (w : World) : Calls Tryd.prog 39 #[.int .i64 n, .int .i64 a, .int .i64 b] w fun e w' => e = .returned (.bool (inn n a b)) ∧ w' = w := by
  unfold inn
  by_cases h1 : a ≤ n
  · by_cases h2 : n ≤ b
    · go_enter Tryd.func39, Tryd.ntmps39
      go_wp2
      go_ret
      exact ⟨by simp [h1, h2], rfl⟩
    · have h2' : decide (n ≤ b) = false := by simp; omega
      go_enter Tryd.func39, Tryd.ntmps39
      go_wp2
      go_ret
      exact ⟨by simp, rfl⟩
  · have h1' : decide (a ≤ n) = false := by simp; omega
    go_enter Tryd.func39, Tryd.ntmps39
    go_wp2
    go_ret
    exact ⟨by simp, rfl⟩
set_option maxHeartbeats 400000 in
theorem sin_any (n a b : Int) (w : World) : Calls Tryd.prog 13 #[.int .i64 n, .int .i64 a, .int .i64 b] w fun e w' => e = .returned (.bool (inn n a b)) ∧ w' = w := by
  unfold inn
  by_cases h1 : a ≤ n
  · by_cases h2 : n ≤ b
    · go_enter Tryd.func13, Tryd.ntmps13
      go_wp2
      go_ret
      exact ⟨by simp [h1, h2], rfl⟩
    · have h2' : decide (n ≤ b) = false := by simp; omega
      go_enter Tryd.func13, Tryd.ntmps13
      go_wp2
      go_ret
      exact ⟨by simp, rfl⟩
  · have h1' : decide (a ≤ n) = false := by simp; omega
    go_enter Tryd.func13, Tryd.ntmps13
    go_wp2
    go_ret
    exact ⟨by simp, rfl⟩
set_option maxHeartbeats 1000000 in
set_option maxRecDepth 20000 in
theorem iok_no0 (d f l r p : Int) (w : World)
    (h0 : inn d 0 8 = false) :
    Calls Tryd.prog 27 #[.agg #[.int .i64 d, .int .i64 f, .int .i64 l, .int .i64 r, .int .i64 p]] w fun e w' => e = .returned (.bool false) ∧ Below w.heap.size w w' := by
  have C0 : Hid (∀ X, Calls Tryd.prog 39 #[.int .i64 d, .int .i64 0, .int .i64 8] X fun e w' => e = .returned (.bool false) ∧ w' = X) := fun X => (by rw [← h0]; exact win_any d 0 8 X)
  clear h0
  obtain ⟨bf, hbf⟩ : ∃ b, (f == 0) = b := ⟨_, rfl⟩
  obtain ⟨bd, hbd⟩ : ∃ b, (d == 0) = b := ⟨_, rfl⟩
  obtain ⟨bp, hbp⟩ : ∃ b, (p == 0) = b := ⟨_, rfl⟩
  obtain ⟨br, hbr⟩ : ∃ b, (r == 0) = b := ⟨_, rfl⟩
  obtain ⟨w0, hw0⟩ : ∃ w0, w0 = w.alloc (.cells #[.int .i64 d, .int .i64 f, .int .i64 l, .int .i64 r, .int .i64 p] 23) := ⟨_, rfl⟩
  have HW : Hid (w0 = w.alloc (.cells #[.int .i64 d, .int .i64 f, .int .i64 l, .int .i64 r, .int .i64 p] 23)) := hw0
  have B0 : Hid (Below w.heap.size w w0) := (by show Below _ _ _; rw [hw0]; exact (Below.refl _ _).alloc (Nat.le_refl _) _)
  have y0 : w0.cell? ⟨w.heap.size, 0, none⟩ = some (.int .i64 d) := by rw [hw0]; simp [go_sem]
  have y1 : w0.cell? ⟨w.heap.size, 1, none⟩ = some (.int .i64 f) := by rw [hw0]; simp [go_sem]
  have y2 : w0.cell? ⟨w.heap.size, 2, none⟩ = some (.int .i64 l) := by rw [hw0]; simp [go_sem]
  have y3 : w0.cell? ⟨w.heap.size, 3, none⟩ = some (.int .i64 r) := by rw [hw0]; simp [go_sem]
  have y4 : w0.cell? ⟨w.heap.size, 4, none⟩ = some (.int .i64 p) := by rw [hw0]; simp [go_sem]
  clear hw0
  go_enter Tryd.func27, Tryd.ntmps27
  go_upto_region 1 with fail
  rw [← HW.out]
  go_wp2_with fail
  refine (C0.out _).mono ?_
  rintro e x ⟨rfl, hx⟩
  subst x
  go_wp2_with fail
  go_ret
  exact ⟨rfl, B0.out⟩
set_option maxHeartbeats 1000000 in
set_option maxRecDepth 20000 in
theorem iok_no1 (d f l r p : Int) (w : World)
    (h0 : inn d 0 8 = true)
    (h1 : inn f 0 12 = false) :
    Calls Tryd.prog 27 #[.agg #[.int .i64 d, .int .i64 f, .int .i64 l, .int .i64 r, .int .i64 p]] w fun e w' => e = .returned (.bool false) ∧ Below w.heap.size w w' := by
  have C0 : Hid (∀ X, Calls Tryd.prog 39 #[.int .i64 d, .int .i64 0, .int .i64 8] X fun e w' => e = .returned (.bool true) ∧ w' = X) := fun X => (by rw [← h0]; exact win_any d 0 8 X)
  clear h0
  have C1 : Hid (∀ X, Calls Tryd.prog 39 #[.int .i64 f, .int .i64 0, .int .i64 12] X fun e w' => e = .returned (.bool false) ∧ w' = X) := fun X => (by rw [← h1]; exact win_any f 0 12 X)
  clear h1
  obtain ⟨bf, hbf⟩ : ∃ b, (f == 0) = b := ⟨_, rfl⟩
  obtain ⟨bd, hbd⟩ : ∃ b, (d == 0) = b := ⟨_, rfl⟩
  obtain ⟨bp, hbp⟩ : ∃ b, (p == 0) = b := ⟨_, rfl⟩
  obtain ⟨br, hbr⟩ : ∃ b, (r == 0) = b := ⟨_, rfl⟩
  obtain ⟨w0, hw0⟩ : ∃ w0, w0 = w.alloc (.cells #[.int .i64 d, .int .i64 f, .int .i64 l, .int .i64 r, .int .i64 p] 23) := ⟨_, rfl⟩
  have HW : Hid (w0 = w.alloc (.cells #[.int .i64 d, .int .i64 f, .int .i64 l, .int .i64 r, .int .i64 p] 23)) := hw0
  have B0 : Hid (Below w.heap.size w w0) := (by show Below _ _ _; rw [hw0]; exact (Below.refl _ _).alloc (Nat.le_refl _) _)
  have y0 : w0.cell? ⟨w.heap.size, 0, none⟩ = some (.int .i64 d) := by rw [hw0]; simp [go_sem]
  have y1 : w0.cell? ⟨w.heap.size, 1, none⟩ = some (.int .i64 f) := by rw [hw0]; simp [go_sem]
  have y2 : w0.cell? ⟨w.heap.size, 2, none⟩ = some (.int .i64 l) := by rw [hw0]; simp [go_sem]
  have y3 : w0.cell? ⟨w.heap.size, 3, none⟩ = some (.int .i64 r) := by rw [hw0]; simp [go_sem]
  have y4 : w0.cell? ⟨w.heap.size, 4, none⟩ = some (.int .i64 p) := by rw [hw0]; simp [go_sem]
  clear hw0
  go_enter Tryd.func27, Tryd.ntmps27
  go_upto_region 1 with fail
  rw [← HW.out]
  go_wp2_with fail
  refine (C0.out _).mono ?_
  rintro e x ⟨rfl, hx⟩
  subst x
  go_wp2_with fail
  refine (C1.out _).mono ?_
  rintro e x ⟨rfl, hx⟩
  subst x
  go_wp2_with fail
  go_ret
  exact ⟨rfl, B0.out⟩
set_option maxHeartbeats 1000000 in
set_option maxRecDepth 20000 in
theorem iok_no2 (d f l r p : Int) (w : World)
    (h0 : inn d 0 8 = true)
    (h1 : inn f 0 12 = true)
    (h2 : inn l 0 12 = false) :
    Calls Tryd.prog 27 #[.agg #[.int .i64 d, .int .i64 f, .int .i64 l, .int .i64 r, .int .i64 p]] w fun e w' => e = .returned (.bool false) ∧ Below w.heap.size w w' := by
  have C0 : Hid (∀ X, Calls Tryd.prog 39 #[.int .i64 d, .int .i64 0, .int .i64 8] X fun e w' => e = .returned (.bool true) ∧ w' = X) := fun X => (by rw [← h0]; exact win_any d 0 8 X)
  clear h0
  have C1 : Hid (∀ X, Calls Tryd.prog 39 #[.int .i64 f, .int .i64 0, .int .i64 12] X fun e w' => e = .returned (.bool true) ∧ w' = X) := fun X => (by rw [← h1]; exact win_any f 0 12 X)
  clear h1
  have C2 : Hid (∀ X, Calls Tryd.prog 39 #[.int .i64 l, .int .i64 0, .int .i64 12] X fun e w' => e = .returned (.bool false) ∧ w' = X) := fun X => (by rw [← h2]; exact win_any l 0 12 X)
  clear h2
  obtain ⟨bf, hbf⟩ : ∃ b, (f == 0) = b := ⟨_, rfl⟩
  obtain ⟨bd, hbd⟩ : ∃ b, (d == 0) = b := ⟨_, rfl⟩
  obtain ⟨bp, hbp⟩ : ∃ b, (p == 0) = b := ⟨_, rfl⟩
  obtain ⟨br, hbr⟩ : ∃ b, (r == 0) = b := ⟨_, rfl⟩
  obtain ⟨w0, hw0⟩ : ∃ w0, w0 = w.alloc (.cells #[.int .i64 d, .int .i64 f, .int .i64 l, .int .i64 r, .int .i64 p] 23) := ⟨_, rfl⟩
  have HW : Hid (w0 = w.alloc (.cells #[.int .i64 d, .int .i64 f, .int .i64 l, .int .i64 r, .int .i64 p] 23)) := hw0
  have B0 : Hid (Below w.heap.size w w0) := (by show Below _ _ _; rw [hw0]; exact (Below.refl _ _).alloc (Nat.le_refl _) _)
  have y0 : w0.cell? ⟨w.heap.size, 0, none⟩ = some (.int .i64 d) := by rw [hw0]; simp [go_sem]
  have y1 : w0.cell? ⟨w.heap.size, 1, none⟩ = some (.int .i64 f) := by rw [hw0]; simp [go_sem]
  have y2 : w0.cell? ⟨w.heap.size, 2, none⟩ = some (.int .i64 l) := by rw [hw0]; simp [go_sem]
  have y3 : w0.cell? ⟨w.heap.size, 3, none⟩ = some (.int .i64 r) := by rw [hw0]; simp [go_sem]
  have y4 : w0.cell? ⟨w.heap.size, 4, none⟩ = some (.int .i64 p) := by rw [hw0]; simp [go_sem]
  clear hw0
  go_enter Tryd.func27, Tryd.ntmps27
  go_upto_region 1 with fail
  rw [← HW.out]
  go_wp2_with fail
  refine (C0.out _).mono ?_
  rintro e x ⟨rfl, hx⟩
  subst x
  go_wp2_with fail
  refine (C1.out _).mono ?_
  rintro e x ⟨rfl, hx⟩
  subst x
  go_wp2_with fail
  refine (C2.out _).mono ?_
  rintro e x ⟨rfl, hx⟩
  subst x
  go_wp2_with fail
  go_ret
  exact ⟨rfl, B0.out⟩
set_option maxHeartbeats 1000000 in
set_option maxRecDepth 20000 in
theorem iok_no3 (d f l r p : Int) (w : World)
    (h0 : inn d 0 8 = true)
    (h1 : inn f 0 12 = true)
    (h2 : inn l 0 12 = true)
    (h3 : ((f == 0) == (d == 0)) = false) :
    Calls Tryd.prog 27 #[.agg #[.int .i64 d, .int .i64 f, .int .i64 l, .int .i64 r, .int .i64 p]] w fun e w' => e = .returned (.bool false) ∧ Below w.heap.size w w' := by
  have C0 : Hid (∀ X, Calls Tryd.prog 39 #[.int .i64 d, .int .i64 0, .int .i64 8] X fun e w' => e = .returned (.bool true) ∧ w' = X) := fun X => (by rw [← h0]; exact win_any d 0 8 X)
  clear h0
  have C1 : Hid (∀ X, Calls Tryd.prog 39 #[.int .i64 f, .int .i64 0, .int .i64 12] X fun e w' => e = .returned (.bool true) ∧ w' = X) := fun X => (by rw [← h1]; exact win_any f 0 12 X)
  clear h1
  have C2 : Hid (∀ X, Calls Tryd.prog 39 #[.int .i64 l, .int .i64 0, .int .i64 12] X fun e w' => e = .returned (.bool true) ∧ w' = X) := fun X => (by rw [← h2]; exact win_any l 0 12 X)
  clear h2
  obtain ⟨bf, hbf⟩ : ∃ b, (f == 0) = b := ⟨_, rfl⟩
  obtain ⟨bd, hbd⟩ : ∃ b, (d == 0) = b := ⟨_, rfl⟩
  obtain ⟨bp, hbp⟩ : ∃ b, (p == 0) = b := ⟨_, rfl⟩
  obtain ⟨br, hbr⟩ : ∃ b, (r == 0) = b := ⟨_, rfl⟩
  rw [hbf, hbd] at h3
  obtain ⟨w0, hw0⟩ : ∃ w0, w0 = w.alloc (.cells #[.int .i64 d, .int .i64 f, .int .i64 l, .int .i64 r, .int .i64 p] 23) := ⟨_, rfl⟩
  have HW : Hid (w0 = w.alloc (.cells #[.int .i64 d, .int .i64 f, .int .i64 l, .int .i64 r, .int .i64 p] 23)) := hw0
  have B0 : Hid (Below w.heap.size w w0) := (by show Below _ _ _; rw [hw0]; exact (Below.refl _ _).alloc (Nat.le_refl _) _)
  have y0 : w0.cell? ⟨w.heap.size, 0, none⟩ = some (.int .i64 d) := by rw [hw0]; simp [go_sem]
  have y1 : w0.cell? ⟨w.heap.size, 1, none⟩ = some (.int .i64 f) := by rw [hw0]; simp [go_sem]
  have y2 : w0.cell? ⟨w.heap.size, 2, none⟩ = some (.int .i64 l) := by rw [hw0]; simp [go_sem]
  have y3 : w0.cell? ⟨w.heap.size, 3, none⟩ = some (.int .i64 r) := by rw [hw0]; simp [go_sem]
  have y4 : w0.cell? ⟨w.heap.size, 4, none⟩ = some (.int .i64 p) := by rw [hw0]; simp [go_sem]
  clear hw0
  go_enter Tryd.func27, Tryd.ntmps27
  go_upto_region 1 with fail
  rw [← HW.out]
  go_wp2_with fail
  refine (C0.out _).mono ?_
  rintro e x ⟨rfl, hx⟩
  subst x
  go_wp2_with fail
  refine (C1.out _).mono ?_
  rintro e x ⟨rfl, hx⟩
  subst x
  go_wp2_with fail
  refine (C2.out _).mono ?_
  rintro e x ⟨rfl, hx⟩
  subst x
  go_wp2_with fail
  go_ret
  exact ⟨rfl, B0.out⟩
set_option maxHeartbeats 1000000 in
set_option maxRecDepth 20000 in
theorem iok_no4 (d f l r p : Int) (w : World)
    (h0 : inn d 0 8 = true)
    (h1 : inn f 0 12 = true)
    (h2 : inn l 0 12 = true)
    (h3 : ((f == 0) == (d == 0)) = true)
    (h4 : inn r 0 3 = false) :
    Calls Tryd.prog 27 #[.agg #[.int .i64 d, .int .i64 f, .int .i64 l, .int .i64 r, .int .i64 p]] w fun e w' => e = .returned (.bool false) ∧ Below w.heap.size w w' := by
  have C0 : Hid (∀ X, Calls Tryd.prog 39 #[.int .i64 d, .int .i64 0, .int .i64 8] X fun e w' => e = .returned (.bool true) ∧ w' = X) := fun X => (by rw [← h0]; exact win_any d 0 8 X)
  clear h0
  have C1 : Hid (∀ X, Calls Tryd.prog 39 #[.int .i64 f, .int .i64 0, .int .i64 12] X fun e w' => e = .returned (.bool true) ∧ w' = X) := fun X => (by rw [← h1]; exact win_any f 0 12 X)
  clear h1
  have C2 : Hid (∀ X, Calls Tryd.prog 39 #[.int .i64 l, .int .i64 0, .int .i64 12] X fun e w' => e = .returned (.bool true) ∧ w' = X) := fun X => (by rw [← h2]; exact win_any l 0 12 X)
  clear h2
  have C4 : Hid (∀ X, Calls Tryd.prog 39 #[.int .i64 r, .int .i64 0, .int .i64 3] X fun e w' => e = .returned (.bool false) ∧ w' = X) := fun X => (by rw [← h4]; exact win_any r 0 3 X)
  clear h4
  obtain ⟨bf, hbf⟩ : ∃ b, (f == 0) = b := ⟨_, rfl⟩
  obtain ⟨bd, hbd⟩ : ∃ b, (d == 0) = b := ⟨_, rfl⟩
  obtain ⟨bp, hbp⟩ : ∃ b, (p == 0) = b := ⟨_, rfl⟩
  obtain ⟨br, hbr⟩ : ∃ b, (r == 0) = b := ⟨_, rfl⟩
  rw [hbf, hbd] at h3
  obtain ⟨w0, hw0⟩ : ∃ w0, w0 = w.alloc (.cells #[.int .i64 d, .int .i64 f, .int .i64 l, .int .i64 r, .int .i64 p] 23) := ⟨_, rfl⟩
  have HW : Hid (w0 = w.alloc (.cells #[.int .i64 d, .int .i64 f, .int .i64 l, .int .i64 r, .int .i64 p] 23)) := hw0
  have B0 : Hid (Below w.heap.size w w0) := (by show Below _ _ _; rw [hw0]; exact (Below.refl _ _).alloc (Nat.le_refl _) _)
  have y0 : w0.cell? ⟨w.heap.size, 0, none⟩ = some (.int .i64 d) := by rw [hw0]; simp [go_sem]
  have y1 : w0.cell? ⟨w.heap.size, 1, none⟩ = some (.int .i64 f) := by rw [hw0]; simp [go_sem]
  have y2 : w0.cell? ⟨w.heap.size, 2, none⟩ = some (.int .i64 l) := by rw [hw0]; simp [go_sem]
  have y3 : w0.cell? ⟨w.heap.size, 3, none⟩ = some (.int .i64 r) := by rw [hw0]; simp [go_sem]
  have y4 : w0.cell? ⟨w.heap.size, 4, none⟩ = some (.int .i64 p) := by rw [hw0]; simp [go_sem]
  clear hw0
  go_enter Tryd.func27, Tryd.ntmps27
  go_upto_region 1 with fail
  rw [← HW.out]
  go_wp2_with fail
  refine (C0.out _).mono ?_
  rintro e x ⟨rfl, hx⟩
  subst x
  go_wp2_with fail
  refine (C1.out _).mono ?_
  rintro e x ⟨rfl, hx⟩
  subst x
  go_wp2_with fail
  refine (C2.out _).mono ?_
  rintro e x ⟨rfl, hx⟩
  subst x
  go_wp2_with fail
  refine (C4.out _).mono ?_
  rintro e x ⟨rfl, hx⟩
  subst x
  go_wp2_with fail
  go_ret
  exact ⟨rfl, B0.out⟩
set_option maxHeartbeats 1000000 in
set_option maxRecDepth 20000 in
theorem iok_no5 (d f l r p : Int) (w : World)
    (h0 : inn d 0 8 = true)
    (h1 : inn f 0 12 = true)
    (h2 : inn l 0 12 = true)
    (h3 : ((f == 0) == (d == 0)) = true)
    (h4 : inn r 0 3 = true)
    (h5 : inn p 0 100 = false) :
    Calls Tryd.prog 27 #[.agg #[.int .i64 d, .int .i64 f, .int .i64 l, .int .i64 r, .int .i64 p]] w fun e w' => e = .returned (.bool false) ∧ Below w.heap.size w w' := by
  have C0 : Hid (∀ X, Calls Tryd.prog 39 #[.int .i64 d, .int .i64 0, .int .i64 8] X fun e w' => e = .returned (.bool true) ∧ w' = X) := fun X => (by rw [← h0]; exact win_any d 0 8 X)
  clear h0
  have C1 : Hid (∀ X, Calls Tryd.prog 39 #[.int .i64 f, .int .i64 0, .int .i64 12] X fun e w' => e = .returned (.bool true) ∧ w' = X) := fun X => (by rw [← h1]; exact win_any f 0 12 X)
  clear h1
  have C2 : Hid (∀ X, Calls Tryd.prog 39 #[.int .i64 l, .int .i64 0, .int .i64 12] X fun e w' => e = .returned (.bool true) ∧ w' = X) := fun X => (by rw [← h2]; exact win_any l 0 12 X)
  clear h2
  have C4 : Hid (∀ X, Calls Tryd.prog 39 #[.int .i64 r, .int .i64 0, .int .i64 3] X fun e w' => e = .returned (.bool true) ∧ w' = X) := fun X => (by rw [← h4]; exact win_any r 0 3 X)
  clear h4
  have C5 : Hid (∀ X, Calls Tryd.prog 39 #[.int .i64 p, .int .i64 0, .int .i64 100] X fun e w' => e = .returned (.bool false) ∧ w' = X) := fun X => (by rw [← h5]; exact win_any p 0 100 X)
  clear h5
  obtain ⟨bf, hbf⟩ : ∃ b, (f == 0) = b := ⟨_, rfl⟩
  obtain ⟨bd, hbd⟩ : ∃ b, (d == 0) = b := ⟨_, rfl⟩
  obtain ⟨bp, hbp⟩ : ∃ b, (p == 0) = b := ⟨_, rfl⟩
  obtain ⟨br, hbr⟩ : ∃ b, (r == 0) = b := ⟨_, rfl⟩
  rw [hbf, hbd] at h3
  obtain ⟨w0, hw0⟩ : ∃ w0, w0 = w.alloc (.cells #[.int .i64 d, .int .i64 f, .int .i64 l, .int .i64 r, .int .i64 p] 23) := ⟨_, rfl⟩
  have HW : Hid (w0 = w.alloc (.cells #[.int .i64 d, .int .i64 f, .int .i64 l, .int .i64 r, .int .i64 p] 23)) := hw0
  have B0 : Hid (Below w.heap.size w w0) := (by show Below _ _ _; rw [hw0]; exact (Below.refl _ _).alloc (Nat.le_refl _) _)
  have y0 : w0.cell? ⟨w.heap.size, 0, none⟩ = some (.int .i64 d) := by rw [hw0]; simp [go_sem]
  have y1 : w0.cell? ⟨w.heap.size, 1, none⟩ = some (.int .i64 f) := by rw [hw0]; simp [go_sem]
  have y2 : w0.cell? ⟨w.heap.size, 2, none⟩ = some (.int .i64 l) := by rw [hw0]; simp [go_sem]
  have y3 : w0.cell? ⟨w.heap.size, 3, none⟩ = some (.int .i64 r) := by rw [hw0]; simp [go_sem]
  have y4 : w0.cell? ⟨w.heap.size, 4, none⟩ = some (.int .i64 p) := by rw [hw0]; simp [go_sem]
  clear hw0
  go_enter Tryd.func27, Tryd.ntmps27
  go_upto_region 1 with fail
  rw [← HW.out]
  go_wp2_with fail
  refine (C0.out _).mono ?_
  rintro e x ⟨rfl, hx⟩
  subst x
  go_wp2_with fail
  refine (C1.out _).mono ?_
  rintro e x ⟨rfl, hx⟩
  subst x
  go_wp2_with fail
  refine (C2.out _).mono ?_
  rintro e x ⟨rfl, hx⟩
  subst x
  go_wp2_with fail
  refine (C4.out _).mono ?_
  rintro e x ⟨rfl, hx⟩
  subst x
  go_wp2_with fail
  refine (C5.out _).mono ?_
  rintro e x ⟨rfl, hx⟩
  subst x
  go_wp2_with fail
  go_ret
  exact ⟨rfl, B0.out⟩
set_option maxHeartbeats 1000000 in
set_option maxRecDepth 20000 in
theorem iok_no6 (d f l r p : Int) (w : World)
    (h0 : inn d 0 8 = true)
    (h1 : inn f 0 12 = true)
    (h2 : inn l 0 12 = true)
    (h3 : ((f == 0) == (d == 0)) = true)
    (h4 : inn r 0 3 = true)
    (h5 : inn p 0 100 = true)
    (h6 : ((p == 0) == (r == 0)) = false) :
    Calls Tryd.prog 27 #[.agg #[.int .i64 d, .int .i64 f, .int .i64 l, .int .i64 r, .int .i64 p]] w fun e w' => e = .returned (.bool false) ∧ Below w.heap.size w w' := by
  have C0 : Hid (∀ X, Calls Tryd.prog 39 #[.int .i64 d, .int .i64 0, .int .i64 8] X fun e w' => e = .returned (.bool true) ∧ w' = X) := fun X => (by rw [← h0]; exact win_any d 0 8 X)
  clear h0
  have C1 : Hid (∀ X, Calls Tryd.prog 39 #[.int .i64 f, .int .i64 0, .int .i64 12] X fun e w' => e = .returned (.bool true) ∧ w' = X) := fun X => (by rw [← h1]; exact win_any f 0 12 X)
  clear h1
  have C2 : Hid (∀ X, Calls Tryd.prog 39 #[.int .i64 l, .int .i64 0, .int .i64 12] X fun e w' => e = .returned (.bool true) ∧ w' = X) := fun X => (by rw [← h2]; exact win_any l 0 12 X)
  clear h2
  have C4 : Hid (∀ X, Calls Tryd.prog 39 #[.int .i64 r, .int .i64 0, .int .i64 3] X fun e w' => e = .returned (.bool true) ∧ w' = X) := fun X => (by rw [← h4]; exact win_any r 0 3 X)
  clear h4
  have C5 : Hid (∀ X, Calls Tryd.prog 39 #[.int .i64 p, .int .i64 0, .int .i64 100] X fun e w' => e = .returned (.bool true) ∧ w' = X) := fun X => (by rw [← h5]; exact win_any p 0 100 X)
  clear h5
  obtain ⟨bf, hbf⟩ : ∃ b, (f == 0) = b := ⟨_, rfl⟩
  obtain ⟨bd, hbd⟩ : ∃ b, (d == 0) = b := ⟨_, rfl⟩
  obtain ⟨bp, hbp⟩ : ∃ b, (p == 0) = b := ⟨_, rfl⟩
  obtain ⟨br, hbr⟩ : ∃ b, (r == 0) = b := ⟨_, rfl⟩
  rw [hbf, hbd] at h3
  rw [hbp, hbr] at h6
  obtain ⟨w0, hw0⟩ : ∃ w0, w0 = w.alloc (.cells #[.int .i64 d, .int .i64 f, .int .i64 l, .int .i64 r, .int .i64 p] 23) := ⟨_, rfl⟩
  have HW : Hid (w0 = w.alloc (.cells #[.int .i64 d, .int .i64 f, .int .i64 l, .int .i64 r, .int .i64 p] 23)) := hw0
  have B0 : Hid (Below w.heap.size w w0) := (by show Below _ _ _; rw [hw0]; exact (Below.refl _ _).alloc (Nat.le_refl _) _)
  have y0 : w0.cell? ⟨w.heap.size, 0, none⟩ = some (.int .i64 d) := by rw [hw0]; simp [go_sem]
  have y1 : w0.cell? ⟨w.heap.size, 1, none⟩ = some (.int .i64 f) := by rw [hw0]; simp [go_sem]
  have y2 : w0.cell? ⟨w.heap.size, 2, none⟩ = some (.int .i64 l) := by rw [hw0]; simp [go_sem]
  have y3 : w0.cell? ⟨w.heap.size, 3, none⟩ = some (.int .i64 r) := by rw [hw0]; simp [go_sem]
  have y4 : w0.cell? ⟨w.heap.size, 4, none⟩ = some (.int .i64 p) := by rw [hw0]; simp [go_sem]
  clear hw0
  go_enter Tryd.func27, Tryd.ntmps27
  go_upto_region 1 with fail
  rw [← HW.out]
  go_wp2_with fail
  refine (C0.out _).mono ?_
  rintro e x ⟨rfl, hx⟩
  subst x
  go_wp2_with fail
  refine (C1.out _).mono ?_
  rintro e x ⟨rfl, hx⟩
  subst x
  go_wp2_with fail
  refine (C2.out _).mono ?_
  rintro e x ⟨rfl, hx⟩
  subst x
  go_wp2_with fail
  refine (C4.out _).mono ?_
  rintro e x ⟨rfl, hx⟩
  subst x
  go_wp2_with fail
  refine (C5.out _).mono ?_
  rintro e x ⟨rfl, hx⟩
  subst x
  go_wp2_with fail
  go_ret
  exact ⟨rfl, B0.out⟩
set_option maxHeartbeats 1000000 in
set_option maxRecDepth 20000 in
theorem iok_yes (d f l r p : Int) (w : World)
    (h0 : inn d 0 8 = true)
    (h1 : inn f 0 12 = true)
    (h2 : inn l 0 12 = true)
    (h3 : ((f == 0) == (d == 0)) = true)
    (h4 : inn r 0 3 = true)
    (h5 : inn p 0 100 = true)
    (h6 : ((p == 0) == (r == 0)) = true) :
    Calls Tryd.prog 27 #[.agg #[.int .i64 d, .int .i64 f, .int .i64 l, .int .i64 r, .int .i64 p]] w fun e w' => e = .returned (.bool true) ∧ Below w.heap.size w w' := by
  have C0 : Hid (∀ X, Calls Tryd.prog 39 #[.int .i64 d, .int .i64 0, .int .i64 8] X fun e w' => e = .returned (.bool true) ∧ w' = X) := fun X => (by rw [← h0]; exact win_any d 0 8 X)
  clear h0
  have C1 : Hid (∀ X, Calls Tryd.prog 39 #[.int .i64 f, .int .i64 0, .int .i64 12] X fun e w' => e = .returned (.bool true) ∧ w' = X) := fun X => (by rw [← h1]; exact win_any f 0 12 X)
  clear h1
  have C2 : Hid (∀ X, Calls Tryd.prog 39 #[.int .i64 l, .int .i64 0, .int .i64 12] X fun e w' => e = .returned (.bool true) ∧ w' = X) := fun X => (by rw [← h2]; exact win_any l 0 12 X)
  clear h2
  have C4 : Hid (∀ X, Calls Tryd.prog 39 #[.int .i64 r, .int .i64 0, .int .i64 3] X fun e w' => e = .returned (.bool true) ∧ w' = X) := fun X => (by rw [← h4]; exact win_any r 0 3 X)
  clear h4
  have C5 : Hid (∀ X, Calls Tryd.prog 39 #[.int .i64 p, .int .i64 0, .int .i64 100] X fun e w' => e = .returned (.bool true) ∧ w' = X) := fun X => (by rw [← h5]; exact win_any p 0 100 X)
  clear h5
  obtain ⟨bf, hbf⟩ : ∃ b, (f == 0) = b := ⟨_, rfl⟩
  obtain ⟨bd, hbd⟩ : ∃ b, (d == 0) = b := ⟨_, rfl⟩
  obtain ⟨bp, hbp⟩ : ∃ b, (p == 0) = b := ⟨_, rfl⟩
  obtain ⟨br, hbr⟩ : ∃ b, (r == 0) = b := ⟨_, rfl⟩
  rw [hbf, hbd] at h3
  rw [hbp, hbr] at h6
  obtain ⟨w0, hw0⟩ : ∃ w0, w0 = w.alloc (.cells #[.int .i64 d, .int .i64 f, .int .i64 l, .int .i64 r, .int .i64 p] 23) := ⟨_, rfl⟩
  have HW : Hid (w0 = w.alloc (.cells #[.int .i64 d, .int .i64 f, .int .i64 l, .int .i64 r, .int .i64 p] 23)) := hw0
  have B0 : Hid (Below w.heap.size w w0) := (by show Below _ _ _; rw [hw0]; exact (Below.refl _ _).alloc (Nat.le_refl _) _)
  have y0 : w0.cell? ⟨w.heap.size, 0, none⟩ = some (.int .i64 d) := by rw [hw0]; simp [go_sem]
  have y1 : w0.cell? ⟨w.heap.size, 1, none⟩ = some (.int .i64 f) := by rw [hw0]; simp [go_sem]
  have y2 : w0.cell? ⟨w.heap.size, 2, none⟩ = some (.int .i64 l) := by rw [hw0]; simp [go_sem]
  have y3 : w0.cell? ⟨w.heap.size, 3, none⟩ = some (.int .i64 r) := by rw [hw0]; simp [go_sem]
  have y4 : w0.cell? ⟨w.heap.size, 4, none⟩ = some (.int .i64 p) := by rw [hw0]; simp [go_sem]
  clear hw0
  go_enter Tryd.func27, Tryd.ntmps27
  go_upto_region 1 with fail
  rw [← HW.out]
  go_wp2_with fail
  refine (C0.out _).mono ?_
  rintro e x ⟨rfl, hx⟩
  subst x
  go_wp2_with fail
  refine (C1.out _).mono ?_
  rintro e x ⟨rfl, hx⟩
  subst x
  go_wp2_with fail
  refine (C2.out _).mono ?_
  rintro e x ⟨rfl, hx⟩
  subst x
  go_wp2_with fail
  refine (C4.out _).mono ?_
  rintro e x ⟨rfl, hx⟩
  subst x
  go_wp2_with fail
  refine (C5.out _).mono ?_
  rintro e x ⟨rfl, hx⟩
  subst x
  go_wp2_with fail
  go_ret
  exact ⟨rfl, B0.out⟩
theorem iok_any (d f l r p : Int) (w : World) : Calls Tryd.prog 27 #[.agg #[.int .i64 d, .int .i64 f, .int .i64 l, .int .i64 r, .int .i64 p]] w fun e w' => e = .returned (.bool (sok d f l r p)) ∧ Below w.heap.size w w' := by
  unfold sok
  cases h0 : inn d 0 8 with
  | false => exact iok_no0 d f l r p w h0
  | true =>
    cases h1 : inn f 0 12 with
    | false => exact iok_no1 d f l r p w h0 h1
    | true =>
      cases h2 : inn l 0 12 with
      | false => exact iok_no2 d f l r p w h0 h1 h2
      | true =>
        cases h3 : ((f == 0) == (d == 0)) with
        | false => exact iok_no3 d f l r p w h0 h1 h2 h3
        | true =>
          cases h4 : inn r 0 3 with
          | false => exact iok_no4 d f l r p w h0 h1 h2 h3 h4
          | true =>
            cases h5 : inn p 0 100 with
            | false => exact iok_no5 d f l r p w h0 h1 h2 h3 h4 h5
            | true =>
              cases h6 : ((p == 0) == (r == 0)) with
              | false => exact iok_no6 d f l r p w h0 h1 h2 h3 h4 h5 h6
              | true =>
                exact iok_yes d f l r p w h0 h1 h2 h3 h4 h5 h6
set_option maxHeartbeats 1000000 in
set_option maxRecDepth 20000 in
theorem mok_no0 (d f l r p : Int) (w : World)
    (h0 : inn d 0 8 = false) :
    Calls Tryd.prog 17 #[.agg #[.int .i64 d, .int .i64 f, .int .i64 l, .int .i64 r, .int .i64 p]] w fun e w' => e = .returned (.bool false) ∧ Below w.heap.size w w' := by
  have C0 : Hid (∀ X, Calls Tryd.prog 13 #[.int .i64 d, .int .i64 0, .int .i64 8] X fun e w' => e = .returned (.bool false) ∧ w' = X) := fun X => (by rw [← h0]; exact sin_any d 0 8 X)
  clear h0
  obtain ⟨bf, hbf⟩ : ∃ b, (f == 0) = b := ⟨_, rfl⟩
  obtain ⟨bd, hbd⟩ : ∃ b, (d == 0) = b := ⟨_, rfl⟩
  obtain ⟨bp, hbp⟩ : ∃ b, (p == 0) = b := ⟨_, rfl⟩
  obtain ⟨br, hbr⟩ : ∃ b, (r == 0) = b := ⟨_, rfl⟩
  obtain ⟨w0, hw0⟩ : ∃ w0, w0 = w.alloc (.cells #[.int .i64 d, .int .i64 f, .int .i64 l, .int .i64 r, .int .i64 p] 23) := ⟨_, rfl⟩
  have HW : Hid (w0 = w.alloc (.cells #[.int .i64 d, .int .i64 f, .int .i64 l, .int .i64 r, .int .i64 p] 23)) := hw0
  have B0 : Hid (Below w.heap.size w w0) := (by show Below _ _ _; rw [hw0]; exact (Below.refl _ _).alloc (Nat.le_refl _) _)
  have y0 : w0.cell? ⟨w.heap.size, 0, none⟩ = some (.int .i64 d) := by rw [hw0]; simp [go_sem]
  have y1 : w0.cell? ⟨w.heap.size, 1, none⟩ = some (.int .i64 f) := by rw [hw0]; simp [go_sem]
  have y2 : w0.cell? ⟨w.heap.size, 2, none⟩ = some (.int .i64 l) := by rw [hw0]; simp [go_sem]
  have y3 : w0.cell? ⟨w.heap.size, 3, none⟩ = some (.int .i64 r) := by rw [hw0]; simp [go_sem]
  have y4 : w0.cell? ⟨w.heap.size, 4, none⟩ = some (.int .i64 p) := by rw [hw0]; simp [go_sem]
  clear hw0
  go_enter Tryd.func17, Tryd.ntmps17
  go_upto_region 1 with fail
  rw [← HW.out]
  go_wp2_with fail
  refine (C0.out _).mono ?_
  rintro e x ⟨rfl, hx⟩
  subst x
  go_wp2_with fail
  go_ret
  exact ⟨rfl, B0.out⟩
set_option maxHeartbeats 1000000 in
set_option maxRecDepth 20000 in
theorem mok_no1 (d f l r p : Int) (w : World)
    (h0 : inn d 0 8 = true)
    (h1 : inn f 0 12 = false) :
    Calls Tryd.prog 17 #[.agg #[.int .i64 d, .int .i64 f, .int .i64 l, .int .i64 r, .int .i64 p]] w fun e w' => e = .returned (.bool false) ∧ Below w.heap.size w w' := by
  have C0 : Hid (∀ X, Calls Tryd.prog 13 #[.int .i64 d, .int .i64 0, .int .i64 8] X fun e w' => e = .returned (.bool true) ∧ w' = X) := fun X => (by rw [← h0]; exact sin_any d 0 8 X)
  clear h0
  have C1 : Hid (∀ X, Calls Tryd.prog 13 #[.int .i64 f, .int .i64 0, .int .i64 12] X fun e w' => e = .returned (.bool false) ∧ w' = X) := fun X => (by rw [← h1]; exact sin_any f 0 12 X)
  clear h1
  obtain ⟨bf, hbf⟩ : ∃ b, (f == 0) = b := ⟨_, rfl⟩
  obtain ⟨bd, hbd⟩ : ∃ b, (d == 0) = b := ⟨_, rfl⟩
  obtain ⟨bp, hbp⟩ : ∃ b, (p == 0) = b := ⟨_, rfl⟩
  obtain ⟨br, hbr⟩ : ∃ b, (r == 0) = b := ⟨_, rfl⟩
  obtain ⟨w0, hw0⟩ : ∃ w0, w0 = w.alloc (.cells #[.int .i64 d, .int .i64 f, .int .i64 l, .int .i64 r, .int .i64 p] 23) := ⟨_, rfl⟩
  have HW : Hid (w0 = w.alloc (.cells #[.int .i64 d, .int .i64 f, .int .i64 l, .int .i64 r, .int .i64 p] 23)) := hw0
  have B0 : Hid (Below w.heap.size w w0) := (by show Below _ _ _; rw [hw0]; exact (Below.refl _ _).alloc (Nat.le_refl _) _)
  have y0 : w0.cell? ⟨w.heap.size, 0, none⟩ = some (.int .i64 d) := by rw [hw0]; simp [go_sem]
  have y1 : w0.cell? ⟨w.heap.size, 1, none⟩ = some (.int .i64 f) := by rw [hw0]; simp [go_sem]
  have y2 : w0.cell? ⟨w.heap.size, 2, none⟩ = some (.int .i64 l) := by rw [hw0]; simp [go_sem]
  have y3 : w0.cell? ⟨w.heap.size, 3, none⟩ = some (.int .i64 r) := by rw [hw0]; simp [go_sem]
  have y4 : w0.cell? ⟨w.heap.size, 4, none⟩ = some (.int .i64 p) := by rw [hw0]; simp [go_sem]
  clear hw0
  go_enter Tryd.func17, Tryd.ntmps17
  go_upto_region 1 with fail
  rw [← HW.out]
  go_wp2_with fail
  refine (C0.out _).mono ?_
  rintro e x ⟨rfl, hx⟩
  subst x
  go_wp2_with fail
  refine (C1.out _).mono ?_
  rintro e x ⟨rfl, hx⟩
  subst x
  go_wp2_with fail
  go_ret
  exact ⟨rfl, B0.out⟩
set_option maxHeartbeats 1000000 in
set_option maxRecDepth 20000 in
theorem mok_no2 (d f l r p : Int) (w : World)
    (h0 : inn d 0 8 = true)
    (h1 : inn f 0 12 = true)
    (h2 : inn l 0 12 = false) :
    Calls Tryd.prog 17 #[.agg #[.int .i64 d, .int .i64 f, .int .i64 l, .int .i64 r, .int .i64 p]] w fun e w' => e = .returned (.bool false) ∧ Below w.heap.size w w' := by
  have C0 : Hid (∀ X, Calls Tryd.prog 13 #[.int .i64 d, .int .i64 0, .int .i64 8] X fun e w' => e = .returned (.bool true) ∧ w' = X) := fun X => (by rw [← h0]; exact sin_any d 0 8 X)
  clear h0
  have C1 : Hid (∀ X, Calls Tryd.prog 13 #[.int .i64 f, .int .i64 0, .int .i64 12] X fun e w' => e = .returned (.bool true) ∧ w' = X) := fun X => (by rw [← h1]; exact sin_any f 0 12 X)
  clear h1
  have C2 : Hid (∀ X, Calls Tryd.prog 13 #[.int .i64 l, .int .i64 0, .int .i64 12] X fun e w' => e = .returned (.bool false) ∧ w' = X) := fun X => (by rw [← h2]; exact sin_any l 0 12 X)
  clear h2
  obtain ⟨bf, hbf⟩ : ∃ b, (f == 0) = b := ⟨_, rfl⟩
  obtain ⟨bd, hbd⟩ : ∃ b, (d == 0) = b := ⟨_, rfl⟩
  obtain ⟨bp, hbp⟩ : ∃ b, (p == 0) = b := ⟨_, rfl⟩
  obtain ⟨br, hbr⟩ : ∃ b, (r == 0) = b := ⟨_, rfl⟩
  obtain ⟨w0, hw0⟩ : ∃ w0, w0 = w.alloc (.cells #[.int .i64 d, .int .i64 f, .int .i64 l, .int .i64 r, .int .i64 p] 23) := ⟨_, rfl⟩
  have HW : Hid (w0 = w.alloc (.cells #[.int .i64 d, .int .i64 f, .int .i64 l, .int .i64 r, .int .i64 p] 23)) := hw0
  have B0 : Hid (Below w.heap.size w w0) := (by show Below _ _ _; rw [hw0]; exact (Below.refl _ _).alloc (Nat.le_refl _) _)
  have y0 : w0.cell? ⟨w.heap.size, 0, none⟩ = some (.int .i64 d) := by rw [hw0]; simp [go_sem]
  have y1 : w0.cell? ⟨w.heap.size, 1, none⟩ = some (.int .i64 f) := by rw [hw0]; simp [go_sem]
  have y2 : w0.cell? ⟨w.heap.size, 2, none⟩ = some (.int .i64 l) := by rw [hw0]; simp [go_sem]
  have y3 : w0.cell? ⟨w.heap.size, 3, none⟩ = some (.int .i64 r) := by rw [hw0]; simp [go_sem]
  have y4 : w0.cell? ⟨w.heap.size, 4, none⟩ = some (.int .i64 p) := by rw [hw0]; simp [go_sem]
  clear hw0
  go_enter Tryd.func17, Tryd.ntmps17
  go_upto_region 1 with fail
  rw [← HW.out]
  go_wp2_with fail
  refine (C0.out _).mono ?_
  rintro e x ⟨rfl, hx⟩
  subst x
  go_wp2_with fail
  refine (C1.out _).mono ?_
  rintro e x ⟨rfl, hx⟩
  subst x
  go_wp2_with fail
  refine (C2.out _).mono ?_
  rintro e x ⟨rfl, hx⟩
  subst x
  go_wp2_with fail
  go_ret
  exact ⟨rfl, B0.out⟩
set_option maxHeartbeats 1000000 in
set_option maxRecDepth 20000 in
theorem mok_no3 (d f l r p : Int) (w : World)
    (h0 : inn d 0 8 = true)
    (h1 : inn f 0 12 = true)
    (h2 : inn l 0 12 = true)
    (h3 : ((f == 0) == (d == 0)) = false) :
    Calls Tryd.prog 17 #[.agg #[.int .i64 d, .int .i64 f, .int .i64 l, .int .i64 r, .int .i64 p]] w fun e w' => e = .returned (.bool false) ∧ Below w.heap.size w w' := by
  have C0 : Hid (∀ X, Calls Tryd.prog 13 #[.int .i64 d, .int .i64 0, .int .i64 8] X fun e w' => e = .returned (.bool true) ∧ w' = X) := fun X => (by rw [← h0]; exact sin_any d 0 8 X)
  clear h0
  have C1 : Hid (∀ X, Calls Tryd.prog 13 #[.int .i64 f, .int .i64 0, .int .i64 12] X fun e w' => e = .returned (.bool true) ∧ w' = X) := fun X => (by rw [← h1]; exact sin_any f 0 12 X)
  clear h1
  have C2 : Hid (∀ X, Calls Tryd.prog 13 #[.int .i64 l, .int .i64 0, .int .i64 12] X fun e w' => e = .returned (.bool true) ∧ w' = X) := fun X => (by rw [← h2]; exact sin_any l 0 12 X)
  clear h2
  obtain ⟨bf, hbf⟩ : ∃ b, (f == 0) = b := ⟨_, rfl⟩
  obtain ⟨bd, hbd⟩ : ∃ b, (d == 0) = b := ⟨_, rfl⟩
  obtain ⟨bp, hbp⟩ : ∃ b, (p == 0) = b := ⟨_, rfl⟩
  obtain ⟨br, hbr⟩ : ∃ b, (r == 0) = b := ⟨_, rfl⟩
  rw [hbf, hbd] at h3
  obtain ⟨w0, hw0⟩ : ∃ w0, w0 = w.alloc (.cells #[.int .i64 d, .int .i64 f, .int .i64 l, .int .i64 r, .int .i64 p] 23) := ⟨_, rfl⟩
  have HW : Hid (w0 = w.alloc (.cells #[.int .i64 d, .int .i64 f, .int .i64 l, .int .i64 r, .int .i64 p] 23)) := hw0
  have B0 : Hid (Below w.heap.size w w0) := (by show Below _ _ _; rw [hw0]; exact (Below.refl _ _).alloc (Nat.le_refl _) _)
  have y0 : w0.cell? ⟨w.heap.size, 0, none⟩ = some (.int .i64 d) := by rw [hw0]; simp [go_sem]
  have y1 : w0.cell? ⟨w.heap.size, 1, none⟩ = some (.int .i64 f) := by rw [hw0]; simp [go_sem]
  have y2 : w0.cell? ⟨w.heap.size, 2, none⟩ = some (.int .i64 l) := by rw [hw0]; simp [go_sem]
  have y3 : w0.cell? ⟨w.heap.size, 3, none⟩ = some (.int .i64 r) := by rw [hw0]; simp [go_sem]
  have y4 : w0.cell? ⟨w.heap.size, 4, none⟩ = some (.int .i64 p) := by rw [hw0]; simp [go_sem]
  clear hw0
  go_enter Tryd.func17, Tryd.ntmps17
  go_upto_region 1 with fail
  rw [← HW.out]
  go_wp2_with fail
  refine (C0.out _).mono ?_
  rintro e x ⟨rfl, hx⟩
  subst x
  go_wp2_with fail
  refine (C1.out _).mono ?_
  rintro e x ⟨rfl, hx⟩
  subst x
  go_wp2_with fail
  refine (C2.out _).mono ?_
  rintro e x ⟨rfl, hx⟩
  subst x
  go_wp2_with fail
  go_ret
  exact ⟨rfl, B0.out⟩
set_option maxHeartbeats 1000000 in
set_option maxRecDepth 20000 in
theorem mok_no4 (d f l r p : Int) (w : World)
    (h0 : inn d 0 8 = true)
    (h1 : inn f 0 12 = true)
    (h2 : inn l 0 12 = true)
    (h3 : ((f == 0) == (d == 0)) = true)
    (h4 : inn r 0 3 = false) :
    Calls Tryd.prog 17 #[.agg #[.int .i64 d, .int .i64 f, .int .i64 l, .int .i64 r, .int .i64 p]] w fun e w' => e = .returned (.bool false) ∧ Below w.heap.size w w' := by
  have C0 : Hid (∀ X, Calls Tryd.prog 13 #[.int .i64 d, .int .i64 0, .int .i64 8] X fun e w' => e = .returned (.bool true) ∧ w' = X) := fun X => (by rw [← h0]; exact sin_any d 0 8 X)
  clear h0
  have C1 : Hid (∀ X, Calls Tryd.prog 13 #[.int .i64 f, .int .i64 0, .int .i64 12] X fun e w' => e = .returned (.bool true) ∧ w' = X) := fun X => (by rw [← h1]; exact sin_any f 0 12 X)
  clear h1
  have C2 : Hid (∀ X, Calls Tryd.prog 13 #[.int .i64 l, .int .i64 0, .int .i64 12] X fun e w' => e = .returned (.bool true) ∧ w' = X) := fun X => (by rw [← h2]; exact sin_any l 0 12 X)
  clear h2
  have C4 : Hid (∀ X, Calls Tryd.prog 13 #[.int .i64 r, .int .i64 0, .int .i64 3] X fun e w' => e = .returned (.bool false) ∧ w' = X) := fun X => (by rw [← h4]; exact sin_any r 0 3 X)
  clear h4
  obtain ⟨bf, hbf⟩ : ∃ b, (f == 0) = b := ⟨_, rfl⟩
  obtain ⟨bd, hbd⟩ : ∃ b, (d == 0) = b := ⟨_, rfl⟩
  obtain ⟨bp, hbp⟩ : ∃ b, (p == 0) = b := ⟨_, rfl⟩
  obtain ⟨br, hbr⟩ : ∃ b, (r == 0) = b := ⟨_, rfl⟩
  rw [hbf, hbd] at h3
  obtain ⟨w0, hw0⟩ : ∃ w0, w0 = w.alloc (.cells #[.int .i64 d, .int .i64 f, .int .i64 l, .int .i64 r, .int .i64 p] 23) := ⟨_, rfl⟩
  have HW : Hid (w0 = w.alloc (.cells #[.int .i64 d, .int .i64 f, .int .i64 l, .int .i64 r, .int .i64 p] 23)) := hw0
  have B0 : Hid (Below w.heap.size w w0) := (by show Below _ _ _; rw [hw0]; exact (Below.refl _ _).alloc (Nat.le_refl _) _)
  have y0 : w0.cell? ⟨w.heap.size, 0, none⟩ = some (.int .i64 d) := by rw [hw0]; simp [go_sem]
  have y1 : w0.cell? ⟨w.heap.size, 1, none⟩ = some (.int .i64 f) := by rw [hw0]; simp [go_sem]
  have y2 : w0.cell? ⟨w.heap.size, 2, none⟩ = some (.int .i64 l) := by rw [hw0]; simp [go_sem]
  have y3 : w0.cell? ⟨w.heap.size, 3, none⟩ = some (.int .i64 r) := by rw [hw0]; simp [go_sem]
  have y4 : w0.cell? ⟨w.heap.size, 4, none⟩ = some (.int .i64 p) := by rw [hw0]; simp [go_sem]
  clear hw0
  go_enter Tryd.func17, Tryd.ntmps17
  go_upto_region 1 with fail
  rw [← HW.out]
  go_wp2_with fail
  refine (C0.out _).mono ?_
  rintro e x ⟨rfl, hx⟩
  subst x
  go_wp2_with fail
  refine (C1.out _).mono ?_
  rintro e x ⟨rfl, hx⟩
  subst x
  go_wp2_with fail
  refine (C2.out _).mono ?_
  rintro e x ⟨rfl, hx⟩
  subst x
  go_wp2_with fail
  refine (C4.out _).mono ?_
  rintro e x ⟨rfl, hx⟩
  subst x
  go_wp2_with fail
  go_ret
  exact ⟨rfl, B0.out⟩
set_option maxHeartbeats 1000000 in
set_option maxRecDepth 20000 in
theorem mok_no5 (d f l r p : Int) (w : World)
    (h0 : inn d 0 8 = true)
    (h1 : inn f 0 12 = true)
    (h2 : inn l 0 12 = true)
    (h3 : ((f == 0) == (d == 0)) = true)
    (h4 : inn r 0 3 = true)
    (h5 : inn p 0 100 = false) :
    Calls Tryd.prog 17 #[.agg #[.int .i64 d, .int .i64 f, .int .i64 l, .int .i64 r, .int .i64 p]] w fun e w' => e = .returned (.bool false) ∧ Below w.heap.size w w' := by
  have C0 : Hid (∀ X, Calls Tryd.prog 13 #[.int .i64 d, .int .i64 0, .int .i64 8] X fun e w' => e = .returned (.bool true) ∧ w' = X) := fun X => (by rw [← h0]; exact sin_any d 0 8 X)
  clear h0
  have C1 : Hid (∀ X, Calls Tryd.prog 13 #[.int .i64 f, .int .i64 0, .int .i64 12] X fun e w' => e = .returned (.bool true) ∧ w' = X) := fun X => (by rw [← h1]; exact sin_any f 0 12 X)
  clear h1
  have C2 : Hid (∀ X, Calls Tryd.prog 13 #[.int .i64 l, .int .i64 0, .int .i64 12] X fun e w' => e = .returned (.bool true) ∧ w' = X) := fun X => (by rw [← h2]; exact sin_any l 0 12 X)
  clear h2
  have C4 : Hid (∀ X, Calls Tryd.prog 13 #[.int .i64 r, .int .i64 0, .int .i64 3] X fun e w' => e = .returned (.bool true) ∧ w' = X) := fun X => (by rw [← h4]; exact sin_any r 0 3 X)
  clear h4
  have C5 : Hid (∀ X, Calls Tryd.prog 13 #[.int .i64 p, .int .i64 0, .int .i64 100] X fun e w' => e = .returned (.bool false) ∧ w' = X) := fun X => (by rw [← h5]; exact sin_any p 0 100 X)
  clear h5
  obtain ⟨bf, hbf⟩ : ∃ b, (f == 0) = b := ⟨_, rfl⟩
  obtain ⟨bd, hbd⟩ : ∃ b, (d == 0) = b := ⟨_, rfl⟩
  obtain ⟨bp, hbp⟩ : ∃ b, (p == 0) = b := ⟨_, rfl⟩
  obtain ⟨br, hbr⟩ : ∃ b, (r == 0) = b := ⟨_, rfl⟩
  rw [hbf, hbd] at h3
  obtain ⟨w0, hw0⟩ : ∃ w0, w0 = w.alloc (.cells #[.int .i64 d, .int .i64 f, .int .i64 l, .int .i64 r, .int .i64 p] 23) := ⟨_, rfl⟩
  have HW : Hid (w0 = w.alloc (.cells #[.int .i64 d, .int .i64 f, .int .i64 l, .int .i64 r, .int .i64 p] 23)) := hw0
  have B0 : Hid (Below w.heap.size w w0) := (by show Below _ _ _; rw [hw0]; exact (Below.refl _ _).alloc (Nat.le_refl _) _)
  have y0 : w0.cell? ⟨w.heap.size, 0, none⟩ = some (.int .i64 d) := by rw [hw0]; simp [go_sem]
  have y1 : w0.cell? ⟨w.heap.size, 1, none⟩ = some (.int .i64 f) := by rw [hw0]; simp [go_sem]
  have y2 : w0.cell? ⟨w.heap.size, 2, none⟩ = some (.int .i64 l) := by rw [hw0]; simp [go_sem]
  have y3 : w0.cell? ⟨w.heap.size, 3, none⟩ = some (.int .i64 r) := by rw [hw0]; simp [go_sem]
  have y4 : w0.cell? ⟨w.heap.size, 4, none⟩ = some (.int .i64 p) := by rw [hw0]; simp [go_sem]
  clear hw0
  go_enter Tryd.func17, Tryd.ntmps17
  go_upto_region 1 with fail
  rw [← HW.out]
  go_wp2_with fail
  refine (C0.out _).mono ?_
  rintro e x ⟨rfl, hx⟩
  subst x
  go_wp2_with fail
  refine (C1.out _).mono ?_
  rintro e x ⟨rfl, hx⟩
  subst x
  go_wp2_with fail
  refine (C2.out _).mono ?_
  rintro e x ⟨rfl, hx⟩
  subst x
  go_wp2_with fail
  refine (C4.out _).mono ?_
  rintro e x ⟨rfl, hx⟩
  subst x
  go_wp2_with fail
  refine (C5.out _).mono ?_
  rintro e x ⟨rfl, hx⟩
  subst x
  go_wp2_with fail
  go_ret
  exact ⟨rfl, B0.out⟩
set_option maxHeartbeats 1000000 in
set_option maxRecDepth 20000 in
theorem mok_no6 (d f l r p : Int) (w : World)
    (h0 : inn d 0 8 = true)
    (h1 : inn f 0 12 = true)
    (h2 : inn l 0 12 = true)
    (h3 : ((f == 0) == (d == 0)) = true)
    (h4 : inn r 0 3 = true)
    (h5 : inn p 0 100 = true)
    (h6 : ((p == 0) == (r == 0)) = false) :
    Calls Tryd.prog 17 #[.agg #[.int .i64 d, .int .i64 f, .int .i64 l, .int .i64 r, .int .i64 p]] w fun e w' => e = .returned (.bool false) ∧ Below w.heap.size w w' := by
  have C0 : Hid (∀ X, Calls Tryd.prog 13 #[.int .i64 d, .int .i64 0, .int .i64 8] X fun e w' => e = .returned (.bool true) ∧ w' = X) := fun X => (by rw [← h0]; exact sin_any d 0 8 X)
  clear h0
  have C1 : Hid (∀ X, Calls Tryd.prog 13 #[.int .i64 f, .int .i64 0, .int .i64 12] X fun e w' => e = .returned (.bool true) ∧ w' = X) := fun X => (by rw [← h1]; exact sin_any f 0 12 X)
  clear h1
  have C2 : Hid (∀ X, Calls Tryd.prog 13 #[.int .i64 l, .int .i64 0, .int .i64 12] X fun e w' => e = .returned (.bool true) ∧ w' = X) := fun X => (by rw [← h2]; exact sin_any l 0 12 X)
  clear h2
  have C4 : Hid (∀ X, Calls Tryd.prog 13 #[.int .i64 r, .int .i64 0, .int .i64 3] X fun e w' => e = .returned (.bool true) ∧ w' = X) := fun X => (by rw [← h4]; exact sin_any r 0 3 X)
  clear h4
  have C5 : Hid (∀ X, Calls Tryd.prog 13 #[.int .i64 p, .int .i64 0, .int .i64 100] X fun e w' => e = .returned (.bool true) ∧ w' = X) := fun X => (by rw [← h5]; exact sin_any p 0 100 X)
  clear h5
  obtain ⟨bf, hbf⟩ : ∃ b, (f == 0) = b := ⟨_, rfl⟩
  obtain ⟨bd, hbd⟩ : ∃ b, (d == 0) = b := ⟨_, rfl⟩
  obtain ⟨bp, hbp⟩ : ∃ b, (p == 0) = b := ⟨_, rfl⟩
  obtain ⟨br, hbr⟩ : ∃ b, (r == 0) = b := ⟨_, rfl⟩
  rw [hbf, hbd] at h3
  rw [hbp, hbr] at h6
  obtain ⟨w0, hw0⟩ : ∃ w0, w0 = w.alloc (.cells #[.int .i64 d, .int .i64 f, .int .i64 l, .int .i64 r, .int .i64 p] 23) := ⟨_, rfl⟩
  have HW : Hid (w0 = w.alloc (.cells #[.int .i64 d, .int .i64 f, .int .i64 l, .int .i64 r, .int .i64 p] 23)) := hw0
  have B0 : Hid (Below w.heap.size w w0) := (by show Below _ _ _; rw [hw0]; exact (Below.refl _ _).alloc (Nat.le_refl _) _)
  have y0 : w0.cell? ⟨w.heap.size, 0, none⟩ = some (.int .i64 d) := by rw [hw0]; simp [go_sem]
  have y1 : w0.cell? ⟨w.heap.size, 1, none⟩ = some (.int .i64 f) := by rw [hw0]; simp [go_sem]
  have y2 : w0.cell? ⟨w.heap.size, 2, none⟩ = some (.int .i64 l) := by rw [hw0]; simp [go_sem]
  have y3 : w0.cell? ⟨w.heap.size, 3, none⟩ = some (.int .i64 r) := by rw [hw0]; simp [go_sem]
  have y4 : w0.cell? ⟨w.heap.size, 4, none⟩ = some (.int .i64 p) := by rw [hw0]; simp [go_sem]
  clear hw0
  go_enter Tryd.func17, Tryd.ntmps17
  go_upto_region 1 with fail
  rw [← HW.out]
  go_wp2_with fail
  refine (C0.out _).mono ?_
  rintro e x ⟨rfl, hx⟩
  subst x
  go_wp2_with fail
  refine (C1.out _).mono ?_
  rintro e x ⟨rfl, hx⟩
  subst x
  go_wp2_with fail
  refine (C2.out _).mono ?_
  rintro e x ⟨rfl, hx⟩
  subst x
  go_wp2_with fail
  refine (C4.out _).mono ?_
  rintro e x ⟨rfl, hx⟩
  subst x
  go_wp2_with fail
  refine (C5.out _).mono ?_
  rintro e x ⟨rfl, hx⟩
  subst x
  go_wp2_with fail
  go_ret
  exact ⟨rfl, B0.out⟩
set_option maxHeartbeats 1000000 in
set_option maxRecDepth 20000 in
theorem mok_yes (d f l r p : Int) (w : World)
    (h0 : inn d 0 8 = true)
    (h1 : inn f 0 12 = true)
    (h2 : inn l 0 12 = true)
    (h3 : ((f == 0) == (d == 0)) = true)
    (h4 : inn r 0 3 = true)
    (h5 : inn p 0 100 = true)
    (h6 : ((p == 0) == (r == 0)) = true) :
    Calls Tryd.prog 17 #[.agg #[.int .i64 d, .int .i64 f, .int .i64 l, .int .i64 r, .int .i64 p]] w fun e w' => e = .returned (.bool true) ∧ Below w.heap.size w w' := by
  have C0 : Hid (∀ X, Calls Tryd.prog 13 #[.int .i64 d, .int .i64 0, .int .i64 8] X fun e w' => e = .returned (.bool true) ∧ w' = X) := fun X => (by rw [← h0]; exact sin_any d 0 8 X)
  clear h0
  have C1 : Hid (∀ X, Calls Tryd.prog 13 #[.int .i64 f, .int .i64 0, .int .i64 12] X fun e w' => e = .returned (.bool true) ∧ w' = X) := fun X => (by rw [← h1]; exact sin_any f 0 12 X)
  clear h1
  have C2 : Hid (∀ X, Calls Tryd.prog 13 #[.int .i64 l, .int .i64 0, .int .i64 12] X fun e w' => e = .returned (.bool true) ∧ w' = X) := fun X => (by rw [← h2]; exact sin_any l 0 12 X)
  clear h2
  have C4 : Hid (∀ X, Calls Tryd.prog 13 #[.int .i64 r, .int .i64 0, .int .i64 3] X fun e w' => e = .returned (.bool true) ∧ w' = X) := fun X => (by rw [← h4]; exact sin_any r 0 3 X)
  clear h4
  have C5 : Hid (∀ X, Calls Tryd.prog 13 #[.int .i64 p, .int .i64 0, .int .i64 100] X fun e w' => e = .returned (.bool true) ∧ w' = X) := fun X => (by rw [← h5]; exact sin_any p 0 100 X)
  clear h5
  obtain ⟨bf, hbf⟩ : ∃ b, (f == 0) = b := ⟨_, rfl⟩
  obtain ⟨bd, hbd⟩ : ∃ b, (d == 0) = b := ⟨_, rfl⟩
  obtain ⟨bp, hbp⟩ : ∃ b, (p == 0) = b := ⟨_, rfl⟩
  obtain ⟨br, hbr⟩ : ∃ b, (r == 0) = b := ⟨_, rfl⟩
  rw [hbf, hbd] at h3
  rw [hbp, hbr] at h6
  obtain ⟨w0, hw0⟩ : ∃ w0, w0 = w.alloc (.cells #[.int .i64 d, .int .i64 f, .int .i64 l, .int .i64 r, .int .i64 p] 23) := ⟨_, rfl⟩
  have HW : Hid (w0 = w.alloc (.cells #[.int .i64 d, .int .i64 f, .int .i64 l, .int .i64 r, .int .i64 p] 23)) := hw0
  have B0 : Hid (Below w.heap.size w w0) := (by show Below _ _ _; rw [hw0]; exact (Below.refl _ _).alloc (Nat.le_refl _) _)
  have y0 : w0.cell? ⟨w.heap.size, 0, none⟩ = some (.int .i64 d) := by rw [hw0]; simp [go_sem]
  have y1 : w0.cell? ⟨w.heap.size, 1, none⟩ = some (.int .i64 f) := by rw [hw0]; simp [go_sem]
  have y2 : w0.cell? ⟨w.heap.size, 2, none⟩ = some (.int .i64 l) := by rw [hw0]; simp [go_sem]
  have y3 : w0.cell? ⟨w.heap.size, 3, none⟩ = some (.int .i64 r) := by rw [hw0]; simp [go_sem]
  have y4 : w0.cell? ⟨w.heap.size, 4, none⟩ = some (.int .i64 p) := by rw [hw0]; simp [go_sem]
  clear hw0
  go_enter Tryd.func17, Tryd.ntmps17
  go_upto_region 1 with fail
  rw [← HW.out]
  go_wp2_with fail
  refine (C0.out _).mono ?_
  rintro e x ⟨rfl, hx⟩
  subst x
  go_wp2_with fail
  refine (C1.out _).mono ?_
  rintro e x ⟨rfl, hx⟩
  subst x
  go_wp2_with fail
  refine (C2.out _).mono ?_
  rintro e x ⟨rfl, hx⟩
  subst x
  go_wp2_with fail
  refine (C4.out _).mono ?_
  rintro e x ⟨rfl, hx⟩
  subst x
  go_wp2_with fail
  refine (C5.out _).mono ?_
  rintro e x ⟨rfl, hx⟩
  subst x
  go_wp2_with fail
  go_ret
  exact ⟨rfl, B0.out⟩
theorem mok_any (d f l r p : Int) (w : World) : Calls Tryd.prog 17 #[.agg #[.int .i64 d, .int .i64 f, .int .i64 l, .int .i64 r, .int .i64 p]] w fun e w' => e = .returned (.bool (sok d f l r p)) ∧ Below w.heap.size w w' := by
  unfold sok
  cases h0 : inn d 0 8 with
  | false => exact mok_no0 d f l r p w h0
  | true =>
    cases h1 : inn f 0 12 with
    | false => exact mok_no1 d f l r p w h0 h1
    | true =>
      cases h2 : inn l 0 12 with
      | false => exact mok_no2 d f l r p w h0 h1 h2
      | true =>
        cases h3 : ((f == 0) == (d == 0)) with
        | false => exact mok_no3 d f l r p w h0 h1 h2 h3
        | true =>
          cases h4 : inn r 0 3 with
          | false => exact mok_no4 d f l r p w h0 h1 h2 h3 h4
          | true =>
            cases h5 : inn p 0 100 with
            | false => exact mok_no5 d f l r p w h0 h1 h2 h3 h4 h5
            | true =>
              cases h6 : ((p == 0) == (r == 0)) with
              | false => exact mok_no6 d f l r p w h0 h1 h2 h3 h4 h5 h6
              | true =>
                exact mok_yes d f l r p w h0 h1 h2 h3 h4 h5 h6
end Go.Proofs.YtnbhfjcpimdnlaaDoor.Ph
