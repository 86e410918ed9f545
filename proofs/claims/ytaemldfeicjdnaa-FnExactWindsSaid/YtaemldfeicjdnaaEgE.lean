/- Whether a loop closes: the model. -/
import Derived.Test.YtaemldfeicjdnaaEgD
namespace Go.Proofs.Ytaemldfeicjdnaa.Lp
open Go.ChangeShapes Go.WideShapes Go.ChangeAt Go.RowKit
open Go.Proofs.Ytaemldfeicjdnaa.Lists

def closedB (x y : Int) (L : List Int) : Bool := okL x y L && (decide (px x L L.length = x) && decide (py y L L.length = y))

set_option maxHeartbeats 1000000 in
theorem sclosed_none (x y : Int) (L : List Int) (v : Value) (w : World) (hL : Lists.Reads w v L) (hf : L.length < 9223372036854775808) (h : wayL x y L = []) :
    Calls Try.prog 23 #[sv x y v] w fun e w' => e = .returned (.bool (okL x y L)) ∧ Below w.heap.size w w' := by
  obtain ⟨w0, hw0⟩ : ∃ w0, w0 = w.alloc (Obj.cells #[.int .i64 x, .int .i64 y, v] 41) := ⟨_, rfl⟩
  have HW0 : Hid (w0 = w.alloc (Obj.cells #[.int .i64 x, .int .i64 y, v] 41)) := hw0
  have B0 : Hid (Below w.heap.size w w0) := (by show Below _ _ _; rw [hw0]; exact (Below.refl _ _).alloc (Nat.le_refl _) _)
  have z0 : w0.heap.size = w.heap.size + 1 := by rw [hw0]; simp
  have X0 : Hid (Box3 w0 w.heap.size (.int .i64 x) (.int .i64 y) v) := (by show Box3 _ _ _ _ _; rw [hw0]; unfold Box3; simp [go_sem])
  have WA : Hid (Calls Try.prog 30 #[sv x y v] w0 fun e w' => ∃ v', e = .returned v' ∧ Eg.Row w' w0.heap.size v' [] ∧ Below w0.heap.size w0 w') := by
    have := way_any x y L v w0 (hL.on B0.out) hf
    rwa [h] at this
  have SO : Hid (∀ w', Below w.heap.size w w' → Calls Try.prog 34 #[sv x y v] w' fun e w'' => e = .returned (.bool (okL x y L)) ∧ Below w'.heap.size w' w'') := fun w' hb => sok_any x y L v w' (hL.on hb) hf
  generalize okL x y L = r at *
  clear hL h hw0
  go_enter Try.func23, Try.ntmps23
  go_wp2_with fail
  rw [← HW0.out]
  refine WA.out.mono ?_
  rintro e w1 ⟨v1, rfl, r1, b1⟩
  obtain ⟨a, cap, rfl⟩ := r1.form
  have B1 : Hid (Below w.heap.size w w1) := B0.out.trans (b1.mono B0.out.size)
  obtain ⟨c0, c1, c2⟩ := X0.out.on b1 (by omega)
  clear r1 b1 HW0 WA X0
  simp only [List.length_nil]
  go_wp2_with fail
  refine (SO.out w1 B1.out).mono ?_
  rintro e w2 ⟨rfl, b2⟩
  have B2 : Hid (Below w.heap.size w w2) := B1.out.trans (b2.mono B1.out.size)
  clear b2
  go_wp2_with fail
  go_ret
  exact ⟨rfl, B2.out⟩

set_option maxHeartbeats 1000000 in
theorem sclosed_some (x y : Int) (L : List Int) (v : Value) (w : World) (hL : Lists.Reads w v L) (m : Nat) (hm : L.length = m + 1) (h : okL x y L = true) :
    Calls Try.prog 23 #[sv x y v] w fun e w' => e = .returned (.bool (decide (px x L L.length = x) && decide (py y L L.length = y))) ∧ Below w.heap.size w w' := by
  obtain ⟨l1, hx, hy, hd⟩ := ok_parts h
  have hw : wayL x y L = way x y L (m + 1) := by unfold wayL; rw [h, hm]; rfl
  obtain ⟨w0, hw0⟩ : ∃ w0, w0 = w.alloc (Obj.cells #[.int .i64 x, .int .i64 y, v] 41) := ⟨_, rfl⟩
  have HW0 : Hid (w0 = w.alloc (Obj.cells #[.int .i64 x, .int .i64 y, v] 41)) := hw0
  have B0 : Hid (Below w.heap.size w w0) := (by show Below _ _ _; rw [hw0]; exact (Below.refl _ _).alloc (Nat.le_refl _) _)
  have z0 : w0.heap.size = w.heap.size + 1 := by rw [hw0]; simp
  have X0 : Hid (Box3 w0 w.heap.size (.int .i64 x) (.int .i64 y) v) := (by show Box3 _ _ _ _ _; rw [hw0]; unfold Box3; simp [go_sem])
  have WA : Hid (Calls Try.prog 30 #[sv x y v] w0 fun e w' => ∃ v', e = .returned v' ∧ Eg.Row w' w0.heap.size v' (way x y L (m + 1)) ∧ Below w0.heap.size w0 w') := by
    have := way_any x y L v w0 (hL.on B0.out) (by omega)
    rwa [hw] at this
  have PX : Hid (px x L L.length = px x L m + dx (L.getD m 0)) := (by show _ = _; rw [hm]; rfl)
  have PY : Hid (py y L L.length = py y L m + dy (L.getD m 0)) := (by show _ = _; rw [hm]; rfl)
  rw [PX.out, PY.out]
  have bx := px_le x L m hx
  have by' := py_le y L m hy
  obtain ⟨d0, d3⟩ := hd m (by omega)
  have WC := way_c (x := x) (y := y) (L := L) (Nat.lt_succ_self m)
  have hm2 : m + 1 ≤ 2000 := by omega
  have AH : Hid (∀ w', Calls Try.prog 35 #[.agg #[.int .i64 (px x L m), .int .i64 (py y L m), .int .i64 (L.getD m 0)]] w' fun e w'' => e = .returned (.tuple #[.int .i64 (px x L m + dx (L.getD m 0)), .int .i64 (py y L m + dy (L.getD m 0))]) ∧ Below w'.heap.size w' w'') := fun w' => ahead_any _ _ _ w' d0 d3 (by omega) (by omega)
  generalize px x L m + dx (L.getD m 0) = p' at *
  generalize py y L m + dy (L.getD m 0) = q' at *
  have WL := way_len x y L (m + 1)
  generalize way x y L (m + 1) = C at *
  clear hL h hw0 hw hd PX PY
  go_enter Try.func23, Try.ntmps23
  go_wp2_with fail
  rw [← HW0.out]
  refine WA.out.mono ?_
  rintro e w1 ⟨v1, rfl, r1, b1⟩
  have B1 : Hid (Below w.heap.size w w1) := B0.out.trans (b1.mono B0.out.size)
  obtain ⟨b, o, hc, hv⟩ := eg_at r1.reads
  obtain ⟨h1, cap, rfl⟩ := hv (by omega)
  have q := hc m (by omega)
  unfold Eg.Cs at q
  rw [WC.1, WC.2.1, WC.2.2] at q
  obtain ⟨q0, q1, q2⟩ := q
  obtain ⟨c0, c1, c2⟩ := X0.out.on b1 (by omega)
  rw [WL]
  have z1 := b1.size
  clear r1 b1 HW0 WA X0 hc hv WC
  generalize px x L m = p at *
  generalize py y L m = r at *
  generalize L.getD m 0 = d at *
  have i1 : ¬ ((m + 1 : Nat) : Int) = 0 := by omega
  have i2 : IntKind.i64.wrap (((m + 1 : Nat) : Int) - 1) = (m : Int) := by rw [show ((m + 1 : Nat) : Int) - 1 = (m : Int) by omega]; exact IntWalk.i64_in _ (by omega)
  have i3 : (0 : Int) ≤ (m : Int) := by omega
  have i4 : (m : Int) < ((m + 1 : Nat) : Int) := by omega
  obtain ⟨N, hN⟩ : ∃ N : Nat, N = m + 1 := ⟨_, rfl⟩
  rw [← hN] at i1 i2 i4 ⊢
  clear hN
  go_wp2_with fail
  refine (AH.out w1).mono ?_
  rintro e w2 ⟨rfl, b2⟩
  have e0 : w2.cell? ⟨w.heap.size, 0, none⟩ = some (.int .i64 x) := (b2.cell (p := ⟨w.heap.size, 0, none⟩) (by show w.heap.size < _; omega)).trans c0
  have e1 : w2.cell? ⟨w.heap.size, 1, none⟩ = some (.int .i64 y) := (b2.cell (p := ⟨w.heap.size, 1, none⟩) (by show w.heap.size < _; omega)).trans c1
  have B2 : Hid (Below w.heap.size w w2) := B1.out.trans (b2.mono B1.out.size)
  clear b2 c0 c1 c2 q0 q1 q2 AH
  by_cases h2 : p' = x
  · by_cases h3 : q' = y
    · subst h2 h3
      go_wp2_with fail
      go_ret
      exact ⟨by simp, B2.out⟩
    · subst h2
      go_wp2_with fail
      go_ret
      exact ⟨by simp [h3], B2.out⟩
  · go_wp2_with fail
    go_ret
    exact ⟨by simp [h2], B2.out⟩
theorem sclosed_any (x y : Int) (L : List Int) (v : Value) (w : World) (hL : Lists.Reads w v L) (hf : L.length < 9223372036854775808) :
    Calls Try.prog 23 #[sv x y v] w fun e w' => e = .returned (.bool (closedB x y L)) ∧ Below w.heap.size w w' := by
  unfold closedB
  cases h : okL x y L
  · have hw : wayL x y L = [] := by unfold wayL; rw [h]; rfl
    have := sclosed_none x y L v w hL hf hw
    rwa [h] at this
  · cases hl : L.length with
    | zero =>
      have e : L = [] := List.eq_nil_of_length_eq_zero hl
      have hw : wayL x y L = [] := by unfold wayL; rw [h, hl]; rfl
      have := sclosed_none x y L v w hL hf hw
      rw [h] at this
      simpa [px, py] using this
    | succ m =>
      have := sclosed_some x y L v w hL m hl h
      rw [hl] at this
      simpa using this
end Go.Proofs.Ytaemldfeicjdnaa.Lp
