/- Turns, in the program and in its model. -/
import Derived.Test.YtgnnmepjdmcecaaSinS
namespace Go.Proofs.Ytgnnmepjdmcecaa.Flt
open Go.ChangeShapes Go.WideShapes Go.ChangeAt Go.RowKit
attribute [local go_sem] run_store_float

theorem tm_cases (k : Int) : k.tmod 36 = k % 36 ∨ k.tmod 36 = k % 36 - 36 := by
  rcases Int.le_total 0 k with h | h
  · exact .inl (Int.tmod_eq_emod_of_nonneg h)
  · have := Int.neg_tmod (-k) 36
    rw [Int.neg_neg] at this
    rw [this, Int.tmod_eq_emod_of_nonneg (by omega)]; omega
theorem md_eq (k : Int) : md k = k % 36 := by
  unfold md
  have := tm_bound k
  have := tm_cases k
  rw [tm_pos _ (by omega)]
  omega
theorem md_nine (k : Int) : md (k.tmod 36 + 9) = (k + 9) % 36 := by
  rw [md_eq]
  have := tm_cases k
  omega

abbrev pr (a b : Nat) : Value := .agg #[.float .f64 a, .float .f64 b]
/-- A block with two cells that may be written. -/
def Bx (w : World) (k : Nat) (x y : Value) : Prop := w.cell? ⟨k, 0, none⟩ = some x ∧ w.cell? ⟨k, 1, none⟩ = some y ∧ w.frozen? ⟨k, 0, none⟩ = false ∧ w.frozen? ⟨k, 1, none⟩ = false ∧ k < w.heap.size
theorem Bx.below {w w' : World} {k B : Nat} {x y : Value} (h : Bx w k x y) (hb : Below B w w') (hB : k < B) : Bx w' k x y :=
  ⟨(hb.cell (p := ⟨k, 0, none⟩) hB).trans h.1, (hb.cell (p := ⟨k, 1, none⟩) hB).trans h.2.1, (hb.frozen (p := ⟨k, 0, none⟩) hB).trans h.2.2.1, (hb.frozen (p := ⟨k, 1, none⟩) hB).trans h.2.2.2.1, Nat.lt_of_lt_of_le h.2.2.2.2 hb.size⟩
theorem Bx.on {w w' : World} {k : Nat} {x y : Value} (h : Bx w k x y) (hb : Below w.heap.size w w') : Bx w' k x y := h.below hb h.2.2.2.2
theorem Bx.drewN {w : World} {k : Nat} {x y : Value} (h : Bx w k x y) (n : Nat) : Bx (w.drewN n) k x y := h.on (below_drewN (Below.refl _ _) n)
theorem Bx.alloc {w : World} {k : Nat} {x y : Value} (h : Bx w k x y) (o : Obj) : Bx (w.alloc o) k x y := h.on ((Below.refl _ _).alloc (Nat.le_refl _) o)
theorem Bx.new (w : World) (x y : Value) (t : TypeId) : Bx (w.alloc (.cells #[x, y] t)) w.heap.size x y := by
  refine ⟨?_, ?_, ?_, ?_, ?_⟩ <;> simp [go_sem]


set_option maxHeartbeats 1000000 in
theorem sturn (k : Int) (w : World) : Calls Try.prog 25 #[.int .i64 k] w fun e w' => ∃ a b, e = .returned (pr a b) ∧ cn a = sine ((k + 9) % 36) ∧ cn b = sine (k % 36) ∧ Below w.heap.size w w' := by
  obtain ⟨b0, b1⟩ := tm_bound k
  have E1 : Hid (md (k.tmod 36 + 9) = (k + 9) % 36) := md_nine k
  have E2 : Hid (md k = k % 36) := md_eq k
  obtain ⟨r, hr⟩ : ∃ r, k.tmod 36 = r := ⟨_, rfl⟩
  rw [hr] at b0 b1 E1
  go_enter Try.func25, Try.ntmps25
  go_wp2_with fail
  refine (ssine _ _).mono ?_
  rintro e w1 ⟨x, rfl, hx, hb1⟩
  have HX : Hid (cn x = sine ((k + 9) % 36)) := (by show cn x = _; rw [hx, E1.out])
  have X1 : Hid (Bx w1 w.heap.size (.float .f64 0) (.float .f64 0)) := (Bx.new w (.float .f64 0) (.float .f64 0) 29).on hb1
  have B1 : Hid (Below w.heap.size w w1) := ((Below.refl _ _).alloc (Nat.le_refl _) _).trans (hb1.mono (by simp))
  clear hx hb1
  go_wp2_with fail
  refine (ssine _ _).mono ?_
  rintro e w2 ⟨y, rfl, hy, hb2⟩
  have HY : Hid (cn y = sine (k % 36)) := (by show cn y = _; rw [hy, E2.out])
  obtain ⟨c0, c1, f0, f1, z2⟩ := X1.out.on hb2
  have B2 : Hid (Below w.heap.size w w2) := B1.out.trans (hb2.mono B1.out.size)
  clear hy hb2
  go_wp2_with fail
  refine bodyPost_ret (v := pr x y) (by simp [results, Try.results25, go_sem, c0, c1]) rfl ⟨x, y, rfl, HX.out, HY.out, ?_⟩
  exact (B2.out.setCell (Nat.le_refl _) _).setCell (Nat.le_refl _) _

set_option maxHeartbeats 400000 in
theorem pairOf_any (a b : Nat) (w : World) : Calls Try.prog 19 #[.complex .f64 a b] w fun e w' => e = .returned (pr a b) ∧ Below w.heap.size w w' := by
  go_enter Try.func19, Try.ntmps19
  go_wp2
  refine bodyPost_ret (v := pr a b) (by simp [results, Try.results19, go_sem]) rfl ⟨rfl, ?_⟩
  exact (Below.refl _ _).alloc (Nat.le_refl _) _

set_option maxHeartbeats 400000 in
theorem imod (k : Int) (w : World) : Calls Try.prog 32 #[.int .i64 k, .int .i64 36] w fun e w' => e = .returned (.int .i64 (k % 36)) ∧ w' = w := by
  obtain ⟨b0, b1⟩ := tm_bound k
  have E2 : md k = k % 36 := md_eq k
  unfold md at E2
  obtain ⟨r, hr⟩ : ∃ r, k.tmod 36 = r := ⟨_, rfl⟩
  rw [hr] at b0 b1 E2
  go_enter Try.func32, Try.ntmps32
  go_wp2
  go_ret
  exact ⟨rfl, rfl⟩

set_option maxHeartbeats 1000000 in
theorem iturn (k : Int) (w : World) : Calls Try.prog 28 #[.int .i64 k] w fun e w' => ∃ a b, e = .returned (.complex .f64 a b) ∧ cn a = sine ((k + 9) % 36) ∧ cn b = sine (k % 36) ∧ Below w.heap.size w w' := by
  obtain ⟨r, hr⟩ : ∃ r, r = k % 36 := ⟨_, rfl⟩
  have r0 : 0 ≤ r := by omega
  have r1 : r < 36 := by omega
  have HR : Hid (r = k % 36) := hr
  have E1 : (r + 9).tmod 36 = (k + 9) % 36 := by rw [tm_pos _ (by omega)]; omega
  obtain ⟨q, hq⟩ : ∃ q, q = (k + 9) % 36 := ⟨_, rfl⟩
  have q0 : 0 ≤ q := by omega
  have q1 : q < 36 := by omega
  have HQ : Hid (q = (k + 9) % 36) := hq
  rw [← hq] at E1 ⊢
  rw [← hr]
  clear hr hq
  go_enter Try.func28, Try.ntmps28
  go_wp2_with fail
  refine (imod _ _).mono ?_
  rintro e w0 ⟨rfl, rfl⟩
  rw [← HR.out]
  go_wp2_with fail
  refine (isine _ _ (by omega) (by omega)).mono ?_
  rintro e w1 ⟨x, rfl, hx, hb1⟩
  have HX : Hid (cn x = sine q) := hx
  have B1 : Hid (Below w0.heap.size w0 w1) := hb1
  clear hx hb1
  go_wp2_with fail
  refine (isine _ _ (by omega) (by omega)).mono ?_
  rintro e w2 ⟨y, rfl, hy, hb2⟩
  have HY : Hid (cn y = sine r) := hy
  have B2 : Hid (Below w0.heap.size w0 w2) := B1.out.trans (hb2.mono B1.out.size)
  clear hy hb2
  go_wp2_with fail
  go_ret
  exact ⟨x, y, rfl, HX.out, HY.out, B2.out⟩
end Go.Proofs.Ytgnnmepjdmcecaa.Flt
