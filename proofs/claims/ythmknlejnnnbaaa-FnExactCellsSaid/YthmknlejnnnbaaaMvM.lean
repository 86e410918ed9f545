/- Moved: the model and the program at all boxes. -/
import Derived.Test.YthmknlejnnnbaaaMvB
namespace Go.Proofs.Ythmknlejnnnbaaa.Mv
open Go.ChangeShapes Go.WideShapes Go.ChangeAt Go.RowKit
open Go.Proofs.Ythmknlejnnnbaaa.Lists

def okM (r c : Int) (L : List Int) (r' c' : Int) (M : List Int) : Bool := Bx.okB r c L && (Bx.okB r' c' M && (decide (r = r') && decide (c = c')))

theorem size_of {r c : Int} {L : List Int} (h : Bx.okB r c L = true) : (1 ≤ r ∧ r ≤ 24) ∧ (1 ≤ c ∧ c ≤ 24) ∧ (L.length : Int) = r * c := by
  unfold Bx.okB Bx.heads at h
  simp only [Bool.and_eq_true, decide_eq_true_eq, Bx.inn_iff] at h
  exact ⟨h.1.1, h.1.2.1, h.1.2.2⟩

set_option maxRecDepth 20000 in
set_option maxHeartbeats 1000000 in
theorem smoved_no (r c : Int) (L : List Int) (lv : Int) (r' c' : Int) (M : List Int) (v u : Value) (w : World) (hL : Lists.Reads w v L) (hM : Lists.Reads w u M) (fL : L.length < 9223372036854775808) (fM : M.length < 9223372036854775808) (h : okM r c L r' c' M = false) :
    Calls Try.prog 6 #[Bx.sv r c v, .int .i64 lv, Bx.sv r' c' u] w fun e w' => e = .returned (.tuple #[.int .i64 0, .int .i64 0, .bool false]) ∧ Below w.heap.size w w' := by
  obtain ⟨w0, hw0⟩ : ∃ w0, w0 = (w.alloc (Obj.cells #[.int .i64 r, .int .i64 c, v] 28)).alloc (Obj.cells #[.int .i64 r', .int .i64 c', u] 28) := ⟨_, rfl⟩
  have HW0 : Hid (w0 = (w.alloc (Obj.cells #[.int .i64 r, .int .i64 c, v] 28)).alloc (Obj.cells #[.int .i64 r', .int .i64 c', u] 28)) := hw0
  have B0 : Hid (Below w.heap.size w w0) := (by show Below _ _ _; rw [hw0]; exact ((Below.refl _ _).alloc (Nat.le_refl _) _).alloc (by simp) _)
  have z0 : Hid (w0.heap.size = w.heap.size + 2) := (by show _ = _; rw [hw0]; simp)
  have X1 : Hid (Bo.Box w0 w.heap.size (.int .i64 r) (.int .i64 c) v) := (by show Bo.Box _ _ _ _ _; rw [hw0]; unfold Bo.Box; simp [go_sem])
  have X2 : Hid (Bo.Box w0 (w.heap.size + 1) (.int .i64 r') (.int .i64 c') u) := (by show Bo.Box _ _ _ _ _; rw [hw0]; unfold Bo.Box; simp [go_sem])
  have S1 : Hid (∀ w', Below w.heap.size w w' → Calls Try.prog 17 #[Bx.sv r c v] w' fun e w'' => e = .returned (.bool (Bx.okB r c L)) ∧ Below w'.heap.size w' w'') := fun w' hb => Bx.sok_any r c L v w' (hL.on hb) fL
  have S2 : Hid (∀ w', Below w.heap.size w w' → Calls Try.prog 17 #[Bx.sv r' c' u] w' fun e w'' => e = .returned (.bool (Bx.okB r' c' M)) ∧ Below w'.heap.size w' w'') := fun w' hb => Bx.sok_any r' c' M u w' (hM.on hb) fM
  unfold okM at h
  clear hL hM hw0 fL fM
  cases e1 : Bx.okB r c L
  · rw [e1] at S1
    clear h e1 S2
    go_enter Try.func6, Try.ntmps6
    go_wp2_with fail
    rw [← HW0.out]
    refine (S1.out _ B0.out).mono ?_
    rintro e w1 ⟨rfl, b1⟩
    have B1 : Hid (Below w.heap.size w w1) := B0.out.trans (b1.mono B0.out.size)
    clear b1
    go_wp2_with fail
    go_ret3
    exact ⟨rfl, B1.out⟩
  cases e2 : Bx.okB r' c' M
  · rw [e1] at S1
    rw [e2] at S2
    clear h e1 e2
    go_enter Try.func6, Try.ntmps6
    go_wp2_with fail
    rw [← HW0.out]
    refine (S1.out _ B0.out).mono ?_
    rintro e w1 ⟨rfl, b1⟩
    have B1 : Hid (Below w.heap.size w w1) := B0.out.trans (b1.mono B0.out.size)
    obtain ⟨y0, y1, y2⟩ := X2.out.on b1 (by have := z0.out; omega)
    clear b1
    go_wp2_with fail
    refine (S2.out _ B1.out).mono ?_
    rintro e w2 ⟨rfl, b2⟩
    have B2 : Hid (Below w.heap.size w w2) := B1.out.trans (b2.mono B1.out.size)
    clear b2
    go_wp2_with fail
    go_ret3
    exact ⟨rfl, B2.out⟩
  · rw [e1, e2] at h
    rw [e1] at S1
    rw [e2] at S2
    clear e1 e2
    have hcc : r = r' → (c != c') = true := by
      intro e
      simp [e] at h
      simpa using h
    by_cases er : r = r'
    · have hr : (r != r') = false := by simp [er]
      have hc := hcc er
      clear h hcc er
      go_enter Try.func6, Try.ntmps6
      go_wp2_with fail
      rw [← HW0.out]
      refine (S1.out _ B0.out).mono ?_
      rintro e w1 ⟨rfl, b1⟩
      have B1 : Hid (Below w.heap.size w w1) := B0.out.trans (b1.mono B0.out.size)
      have Y1 : Hid (Bo.Box w1 w.heap.size (.int .i64 r) (.int .i64 c) v) := X1.out.on b1 (by have := z0.out; omega)
      have Y2 : Hid (Bo.Box w1 (w.heap.size + 1) (.int .i64 r') (.int .i64 c') u) := X2.out.on b1 (by have := z0.out; omega)
      have z1 : Hid (w0.heap.size ≤ w1.heap.size) := b1.size
      obtain ⟨y0, y1, y2⟩ := Y2.out
      clear b1
      go_wp2_with fail
      refine (S2.out _ B1.out).mono ?_
      rintro e w2 ⟨rfl, b2⟩
      have B2 : Hid (Below w.heap.size w w2) := B1.out.trans (b2.mono B1.out.size)
      obtain ⟨p0, p1, p2⟩ := Y1.out.on b2 (by have := z0.out; have := z1.out; omega)
      obtain ⟨q0, q1, q2⟩ := Y2.out.on b2 (by have := z0.out; have := z1.out; omega)
      clear b2 y0 y1 y2
      go_wp2_with fail
      go_ret3
      exact ⟨rfl, B2.out⟩
    · have hr : (r != r') = true := by simp [er]
      clear h hcc er
      go_enter Try.func6, Try.ntmps6
      go_wp2_with fail
      rw [← HW0.out]
      refine (S1.out _ B0.out).mono ?_
      rintro e w1 ⟨rfl, b1⟩
      have B1 : Hid (Below w.heap.size w w1) := B0.out.trans (b1.mono B0.out.size)
      have Y1 : Hid (Bo.Box w1 w.heap.size (.int .i64 r) (.int .i64 c) v) := X1.out.on b1 (by have := z0.out; omega)
      have Y2 : Hid (Bo.Box w1 (w.heap.size + 1) (.int .i64 r') (.int .i64 c') u) := X2.out.on b1 (by have := z0.out; omega)
      have z1 : Hid (w0.heap.size ≤ w1.heap.size) := b1.size
      obtain ⟨y0, y1, y2⟩ := Y2.out
      clear b1
      go_wp2_with fail
      refine (S2.out _ B1.out).mono ?_
      rintro e w2 ⟨rfl, b2⟩
      have B2 : Hid (Below w.heap.size w w2) := B1.out.trans (b2.mono B1.out.size)
      obtain ⟨p0, p1, p2⟩ := Y1.out.on b2 (by have := z0.out; have := z1.out; omega)
      obtain ⟨q0, q1, q2⟩ := Y2.out.on b2 (by have := z0.out; have := z1.out; omega)
      clear b2 y0 y1 y2
      go_wp2_with fail
      go_ret3
      exact ⟨rfl, B2.out⟩
set_option maxRecDepth 20000 in
set_option maxHeartbeats 1000000 in
theorem imoved_no (r c : Int) (L : List Int) (lv : Int) (r' c' : Int) (M : List Int) (v u : Value) (w : World) (hL : Lists.Reads w v L) (hM : Lists.Reads w u M) (fL : L.length < 9223372036854775808) (fM : M.length < 9223372036854775808) (h : okM r c L r' c' M = false) :
    Calls Try.prog 8 #[Bx.sv r c v, .int .i64 lv, Bx.sv r' c' u] w fun e w' => e = .returned (.tuple #[.int .i64 0, .int .i64 0, .bool false]) ∧ Below w.heap.size w w' := by
  obtain ⟨w0, hw0⟩ : ∃ w0, w0 = (w.alloc (Obj.cells #[.int .i64 r, .int .i64 c, v] 28)).alloc (Obj.cells #[.int .i64 r', .int .i64 c', u] 28) := ⟨_, rfl⟩
  have HW0 : Hid (w0 = (w.alloc (Obj.cells #[.int .i64 r, .int .i64 c, v] 28)).alloc (Obj.cells #[.int .i64 r', .int .i64 c', u] 28)) := hw0
  have B0 : Hid (Below w.heap.size w w0) := (by show Below _ _ _; rw [hw0]; exact ((Below.refl _ _).alloc (Nat.le_refl _) _).alloc (by simp) _)
  have z0 : Hid (w0.heap.size = w.heap.size + 2) := (by show _ = _; rw [hw0]; simp)
  have X1 : Hid (Bo.Box w0 w.heap.size (.int .i64 r) (.int .i64 c) v) := (by show Bo.Box _ _ _ _ _; rw [hw0]; unfold Bo.Box; simp [go_sem])
  have X2 : Hid (Bo.Box w0 (w.heap.size + 1) (.int .i64 r') (.int .i64 c') u) := (by show Bo.Box _ _ _ _ _; rw [hw0]; unfold Bo.Box; simp [go_sem])
  have S1 : Hid (∀ w', Below w.heap.size w w' → Calls Try.prog 20 #[Bx.sv r c v] w' fun e w'' => e = .returned (.bool (Bx.okB r c L)) ∧ Below w'.heap.size w' w'') := fun w' hb => Bx.iok_any r c L v w' (hL.on hb) fL
  have S2 : Hid (∀ w', Below w.heap.size w w' → Calls Try.prog 20 #[Bx.sv r' c' u] w' fun e w'' => e = .returned (.bool (Bx.okB r' c' M)) ∧ Below w'.heap.size w' w'') := fun w' hb => Bx.iok_any r' c' M u w' (hM.on hb) fM
  unfold okM at h
  clear hL hM hw0 fL fM
  cases e1 : Bx.okB r c L
  · rw [e1] at S1
    clear h e1 S2
    go_enter Try.func8, Try.ntmps8
    go_wp2_with fail
    rw [← HW0.out]
    refine (S1.out _ B0.out).mono ?_
    rintro e w1 ⟨rfl, b1⟩
    have B1 : Hid (Below w.heap.size w w1) := B0.out.trans (b1.mono B0.out.size)
    clear b1
    go_wp2_with fail
    go_ret3
    exact ⟨rfl, B1.out⟩
  cases e2 : Bx.okB r' c' M
  · rw [e1] at S1
    rw [e2] at S2
    clear h e1 e2
    go_enter Try.func8, Try.ntmps8
    go_wp2_with fail
    rw [← HW0.out]
    refine (S1.out _ B0.out).mono ?_
    rintro e w1 ⟨rfl, b1⟩
    have B1 : Hid (Below w.heap.size w w1) := B0.out.trans (b1.mono B0.out.size)
    obtain ⟨y0, y1, y2⟩ := X2.out.on b1 (by have := z0.out; omega)
    clear b1
    go_wp2_with fail
    refine (S2.out _ B1.out).mono ?_
    rintro e w2 ⟨rfl, b2⟩
    have B2 : Hid (Below w.heap.size w w2) := B1.out.trans (b2.mono B1.out.size)
    clear b2
    go_wp2_with fail
    go_ret3
    exact ⟨rfl, B2.out⟩
  · rw [e1, e2] at h
    rw [e1] at S1
    rw [e2] at S2
    clear e1 e2
    have hcc : r = r' → (c != c') = true := by
      intro e
      simp [e] at h
      simpa using h
    by_cases er : r = r'
    · have hr : (r != r') = false := by simp [er]
      have hc := hcc er
      clear h hcc er
      go_enter Try.func8, Try.ntmps8
      go_wp2_with fail
      rw [← HW0.out]
      refine (S1.out _ B0.out).mono ?_
      rintro e w1 ⟨rfl, b1⟩
      have B1 : Hid (Below w.heap.size w w1) := B0.out.trans (b1.mono B0.out.size)
      have Y1 : Hid (Bo.Box w1 w.heap.size (.int .i64 r) (.int .i64 c) v) := X1.out.on b1 (by have := z0.out; omega)
      have Y2 : Hid (Bo.Box w1 (w.heap.size + 1) (.int .i64 r') (.int .i64 c') u) := X2.out.on b1 (by have := z0.out; omega)
      have z1 : Hid (w0.heap.size ≤ w1.heap.size) := b1.size
      obtain ⟨y0, y1, y2⟩ := Y2.out
      clear b1
      go_wp2_with fail
      refine (S2.out _ B1.out).mono ?_
      rintro e w2 ⟨rfl, b2⟩
      have B2 : Hid (Below w.heap.size w w2) := B1.out.trans (b2.mono B1.out.size)
      obtain ⟨p0, p1, p2⟩ := Y1.out.on b2 (by have := z0.out; have := z1.out; omega)
      obtain ⟨q0, q1, q2⟩ := Y2.out.on b2 (by have := z0.out; have := z1.out; omega)
      clear b2 y0 y1 y2
      go_wp2_with fail
      go_ret3
      exact ⟨rfl, B2.out⟩
    · have hr : (r != r') = true := by simp [er]
      clear h hcc er
      go_enter Try.func8, Try.ntmps8
      go_wp2_with fail
      rw [← HW0.out]
      refine (S1.out _ B0.out).mono ?_
      rintro e w1 ⟨rfl, b1⟩
      have B1 : Hid (Below w.heap.size w w1) := B0.out.trans (b1.mono B0.out.size)
      have Y1 : Hid (Bo.Box w1 w.heap.size (.int .i64 r) (.int .i64 c) v) := X1.out.on b1 (by have := z0.out; omega)
      have Y2 : Hid (Bo.Box w1 (w.heap.size + 1) (.int .i64 r') (.int .i64 c') u) := X2.out.on b1 (by have := z0.out; omega)
      have z1 : Hid (w0.heap.size ≤ w1.heap.size) := b1.size
      obtain ⟨y0, y1, y2⟩ := Y2.out
      clear b1
      go_wp2_with fail
      refine (S2.out _ B1.out).mono ?_
      rintro e w2 ⟨rfl, b2⟩
      have B2 : Hid (Below w.heap.size w w2) := B1.out.trans (b2.mono B1.out.size)
      obtain ⟨p0, p1, p2⟩ := Y1.out.on b2 (by have := z0.out; have := z1.out; omega)
      obtain ⟨q0, q1, q2⟩ := Y2.out.on b2 (by have := z0.out; have := z1.out; omega)
      clear b2 y0 y1 y2
      go_wp2_with fail
      go_ret3
      exact ⟨rfl, B2.out⟩

theorem okM_of {r c r' c' : Int} {L M : List Int} (h : okM r c L r' c' M = true) : Bx.okB r c L = true ∧ Bx.okB r' c' M = true ∧ r = r' ∧ c = c' := by
  unfold okM at h
  simp only [Bool.and_eq_true, decide_eq_true_eq] at h
  exact ⟨h.1, h.2.1, h.2.2.1, h.2.2.2⟩
end Go.Proofs.Ythmknlejnnnbaaa.Mv
