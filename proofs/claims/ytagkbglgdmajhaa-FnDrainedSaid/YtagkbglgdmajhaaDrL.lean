/- The law walked; what model and program answer comes in as hypotheses. -/
import Derived.Test.YtagkbglgdmajhaaBo
namespace Go.Proofs.Ytagkbglgdmajhaa.LawDrL
open Go.ChangeShapes Go.WideShapes Go.ChangeAt Go.RowKit
open Go.Proofs.Ytagkbglgdmajhaa.Lists

theorem below_drewN {B : Nat} {a w : World} (h : Below B a w) (n : Nat) : Below B a (w.drewN n) := h.trans ⟨rfl, rfl, rfl, Nat.le_refl _, fun _ _ => rfl⟩
theorem row_on {w w' : World} {base n : Nat} {v : Value} {xs : List Value} (h : w.ownsRow base 2 1 v n xs) (hb : Below w.heap.size w w') : w'.ownsRow base 2 1 v n xs := by
  refine h.kept (row := none) ⟨hb.os, hb.tape, hb.output, hb.size, fun k hk _ => hb.block k hk⟩ ?_
  by_cases e : v.ownBlock = none
  · exact Or.inl e
  · exact Or.inr e
theorem row_off {w w' : World} {base n : Nat} {row : Option Nat} {v : Value} {xs : List Value} (h : w.ownsRow base 2 1 v n xs) (hg : w.grownBy w' row) (hne : ∀ k j, v.ownBlock = some k → row = some j → k ≠ j) : w'.ownsRow base 2 1 v n xs := by
  refine h.kept hg ?_
  cases e : v.ownBlock with
  | none => exact Or.inl rfl
  | some k => exact Or.inr fun x => hne k k e x.symm rfl

set_option maxRecDepth 20000 in
set_option maxHeartbeats 2000000 in
theorem drainLaw (w : World) (a0_0 a0_1 : Int) (v0 : Value) (L0 : List Int) (h0 : Lists.Reads w v0 L0) (f0 : L0.length < 9223372036854775808) (X0 : List Int) (hX0 : X0.length ≤ 1000) (X1 : List Int) (hX1 : X1.length ≤ 1000)
    (SA : ∀ (w : World) (t0 : Value), Lists.Reads w t0 L0 → Calls Try.prog 6 #[Bo.sv a0_0 a0_1 t0] w fun e w' => ∃ u0, ∃ u1, e = .returned (.tuple #[u0, u1]) ∧ w'.ownsRow w.heap.size 2 1 u0 X0.length (ints X0) ∧ w'.ownsRow w.heap.size 2 1 u1 X1.length (ints X1) ∧ (∀ k, u0.ownBlock = some k → u1.ownBlock = some k → False) ∧ Below w.heap.size w w')
    (IA : ∀ (w : World) (t0 : Value), Lists.Reads w t0 L0 → Calls Try.prog 8 #[Bo.sv a0_0 a0_1 t0] w fun e w' => ∃ u0, ∃ u1, e = .returned (.tuple #[u0, u1]) ∧ w'.ownsRow w.heap.size 2 1 u0 X0.length (ints X0) ∧ w'.ownsRow w.heap.size 2 1 u1 X1.length (ints X1) ∧ (∀ k, u0.ownBlock = some k → u1.ownBlock = some k → False) ∧ Below w.heap.size w w') :
    Calls Try.prog 3 #[Bo.sv a0_0 a0_1 v0] w fun e w' => e = .returned (.bool true) ∧ Below w.heap.size w w' := by
  obtain ⟨s0, c0, rfl⟩ := h0.form
  have SZ0 : Hid (∀ (w' : World) (l : Int), 0 ≤ l → l ≤ 1048576 → Calls Try.prog 5 #[Bo.sv a0_0 a0_1 (.slice s0 L0.length c0), .int .i64 l] w' fun e w'' => (∃ r : Int, e = .returned (.int .i64 r) ∧ (0 ≤ r → L0.length ≤ 1048576) ∧ r ≤ 1048576) ∧ Below w'.heap.size w' w'') := fun w' l q0 q1 => Bo.sz_any a0_0 a0_1 s0 L0.length c0 l w' q0 q1 f0
  have TO0 : Hid (L0.length ≤ 1048576 → ∀ w', Below w.heap.size w w' → Calls Try.prog 7 #[Bo.sv a0_0 a0_1 (.slice s0 L0.length c0)] w' fun e w'' => ∃ g, e = .returned (Bo.sv a0_0 a0_1 (.slice (some ⟨g, 0, none⟩) L0.length L0.length)) ∧ w''.ownsRow w'.heap.size 2 1 (.slice (some ⟨g, 0, none⟩) L0.length L0.length) L0.length (ints L0) ∧ Below w'.heap.size w' w'') := fun hl w' hb => Bo.to_st a0_0 a0_1 L0 _ w' (h0.on hb) hl
  have EQ0 : Hid (∀ w' A B t u, w'.ownsRow A 2 1 t L0.length (ints L0) → w'.ownsRow B 2 1 u L0.length (ints L0) → Calls Try.prog 10 #[Bo.sv a0_0 a0_1 t, Bo.sv a0_0 a0_1 u] w' fun e w'' => e = .returned (.bool true) ∧ Below w'.heap.size w' w'') := fun w' A B t u h h' => Bo.eq_st a0_0 a0_1 L0 t u A B w' h h'
  have SU : Hid (∀ (w' : World) (B0 : Nat) (t0 : Value), w'.ownsRow B0 2 1 t0 L0.length (ints L0) → Calls Try.prog 6 #[Bo.sv a0_0 a0_1 t0] w' fun e w'' => ∃ u0, ∃ u1, e = .returned (.tuple #[u0, u1]) ∧ w''.ownsRow w'.heap.size 2 1 u0 X0.length (ints X0) ∧ w''.ownsRow w'.heap.size 2 1 u1 X1.length (ints X1) ∧ (∀ k, u0.ownBlock = some k → u1.ownBlock = some k → False) ∧ Below w'.heap.size w' w'') := fun w' B0 t0 o0 => SA w' t0 (Lists.reads_row o0)
  have IU : Hid (∀ (w' : World) (B0 : Nat) (t0 : Value), w'.ownsRow B0 2 1 t0 L0.length (ints L0) → Calls Try.prog 8 #[Bo.sv a0_0 a0_1 t0] w' fun e w'' => ∃ u0, ∃ u1, e = .returned (.tuple #[u0, u1]) ∧ w''.ownsRow w'.heap.size 2 1 u0 X0.length (ints X0) ∧ w''.ownsRow w'.heap.size 2 1 u1 X1.length (ints X1) ∧ (∀ k, u0.ownBlock = some k → u1.ownBlock = some k → False) ∧ Below w'.heap.size w' w'') := fun w' B0 t0 o0 => IA w' t0 (Lists.reads_row o0)
  have hbb : ∀ b : Bool, (b != b) = false := fun b => by cases b <;> rfl
  have hii : ∀ b : Int, (b != b) = false := fun b => by simp
  have hqq : ((1 : Int) + (X0.length : Int) + (X1.length : Int) != 1 + (X0.length : Int) + (X1.length : Int)) = false := by simp
  have hq0 : ¬ (1 : Int) + (X0.length : Int) + (X1.length : Int) < 0 := by omega
  have hq1 : ¬ (1 : Int) + (L0.length : Int) < 0 := by omega
  have HX0 : Hid (X0.length ≤ 1000) := hX0
  have HX1 : Hid (X1.length ≤ 1000) := hX1
  clear SA IA hX0 hX1 h0  f0
  obtain ⟨wa, hwa⟩ : ∃ wa, wa = (w.alloc (Obj.cells #[.int .i64 a0_0, .int .i64 a0_1, .slice s0 L0.length c0] 24)) := ⟨_, rfl⟩
  have HWA : Hid (wa = (w.alloc (Obj.cells #[.int .i64 a0_0, .int .i64 a0_1, .slice s0 L0.length c0] 24))) := hwa
  have BBwa : Hid (Below w.heap.size w wa) := (by show Below _ _ _; rw [hwa]; exact ((Below.refl w.heap.size w).alloc (Nat.le_refl _) _))
  have ZZwa : Hid (wa.heap.size = w.heap.size + 1) := (by show _ = _; rw [hwa]; simp)
  have Ka0_wa : Hid (Bo.Box wa w.heap.size (.int .i64 a0_0) (.int .i64 a0_1) (.slice s0 L0.length c0)) := (by show Bo.Box _ _ _ _ _; rw [hwa]; unfold Bo.Box; simp [go_sem])
  clear hwa
  go_enter Try.func3, Try.ntmps3
  obtain ⟨ca0_0, ca0_1, ca0_2⟩ := Ka0_wa.out
  go_wp2_with fail
  rw [← HWA.out]
  clear HWA
  refine (SZ0.out wa 1048576 (by omega) (by omega)).mono ?_
  rintro e w1 ⟨⟨z0, rfl, y0, l0⟩, b⟩
  clear ca0_0 ca0_1 ca0_2
  have ZZw1 : Hid (wa.heap.size ≤ w1.heap.size) := b.size
  have BBw1 : Hid (Below w.heap.size w w1) := BBwa.out.trans (b.mono BBwa.out.size)
  have Ka0_w1 : Hid (Bo.Box w1 w.heap.size (.int .i64 a0_0) (.int .i64 a0_1) (.slice s0 L0.length c0)) := Ka0_wa.out.on b (by have q0 := ZZwa.out; have q1 := HX0.out; have q2 := HX1.out; omega)
  clear b
  clear Ka0_wa
  by_cases hneg0 : z0 < 0
  · go_wp2_with fail
    go_ret
    exact ⟨rfl, BBw1.out⟩
  have HL0 : Hid (L0.length ≤ 1048576) := y0 (by omega)
  obtain ⟨ca0_0, ca0_1, ca0_2⟩ := Ka0_w1.out
  go_wp2_with fail
  refine (TO0.out HL0.out w1 BBw1.out).mono ?_
  rintro e w2 ⟨gp0, rfl, r, b⟩
  clear ca0_0 ca0_1 ca0_2
  have ZZw2 : Hid (w1.heap.size ≤ w2.heap.size) := b.size
  have BBw2 : Hid (Below w.heap.size w w2) := BBw1.out.trans (b.mono BBw1.out.size)
  have Ka0_w2 : Hid (Bo.Box w2 w.heap.size (.int .i64 a0_0) (.int .i64 a0_1) (.slice s0 L0.length c0)) := Ka0_w1.out.on b (by have q0 := ZZwa.out; have q1 := ZZw1.out; have q2 := HL0.out; have q3 := HX0.out; have q4 := HX1.out; omega)
  have Rp0_w2 : Hid (w2.ownsRow w1.heap.size 2 1 (.slice (some ⟨gp0, 0, none⟩) L0.length L0.length) L0.length (ints L0)) := r
  have LTp0 : Hid (∀ k, (Value.slice (some ⟨gp0, 0, none⟩) L0.length L0.length).ownBlock = some k → w1.heap.size ≤ k ∧ k < w2.heap.size) := fun k hk => Rp0_w2.out.lt k hk
  clear r b
  clear Ka0_w1
  go_wp2_with fail
  refine (SU.out w2 _ _ Rp0_w2.out).mono ?_
  rintro e w3 ⟨us0, us1, rfl, rr0, rr1, dj, b⟩
  have DJs : Hid (∀ k, us0.ownBlock = some k → us1.ownBlock = some k → False) := dj
  clear dj
  have ZZw3 : Hid (w2.heap.size ≤ w3.heap.size) := b.size
  have BBw3 : Hid (Below w.heap.size w w3) := BBw2.out.trans (b.mono BBw2.out.size)
  have Rp0_w3 : Hid (w3.ownsRow w1.heap.size 2 1 (.slice (some ⟨gp0, 0, none⟩) L0.length L0.length) L0.length (ints L0)) := row_on Rp0_w2.out b
  have Ka0_w3 : Hid (Bo.Box w3 w.heap.size (.int .i64 a0_0) (.int .i64 a0_1) (.slice s0 L0.length c0)) := Ka0_w2.out.on b (by have q0 := ZZwa.out; have q1 := ZZw1.out; have q2 := ZZw2.out; have q3 := HL0.out; have q4 := HX0.out; have q5 := HX1.out; omega)
  have Rs0_w3 : Hid (w3.ownsRow w2.heap.size 2 1 us0 X0.length (ints X0)) := rr0
  have LTs0 : Hid (∀ k, us0.ownBlock = some k → w2.heap.size ≤ k ∧ k < w3.heap.size) := fun k hk => Rs0_w3.out.lt k hk
  clear rr0
  have Rs1_w3 : Hid (w3.ownsRow w2.heap.size 2 1 us1 X1.length (ints X1)) := rr1
  have LTs1 : Hid (∀ k, us1.ownBlock = some k → w2.heap.size ≤ k ∧ k < w3.heap.size) := fun k hk => Rs1_w3.out.lt k hk
  clear rr1
  clear b
  clear Rp0_w2 Ka0_w2
  clear Rp0_w3
  obtain ⟨ca0_0, ca0_1, ca0_2⟩ := Ka0_w3.out
  go_wp2_with fail
  refine (TO0.out HL0.out w3 BBw3.out).mono ?_
  rintro e w4 ⟨gx0, rfl, r, b⟩
  clear ca0_0 ca0_1 ca0_2
  have ZZw4 : Hid (w3.heap.size ≤ w4.heap.size) := b.size
  have BBw4 : Hid (Below w.heap.size w w4) := BBw3.out.trans (b.mono BBw3.out.size)
  have Rs0_w4 : Hid (w4.ownsRow w2.heap.size 2 1 us0 X0.length (ints X0)) := row_on Rs0_w3.out b
  have Rs1_w4 : Hid (w4.ownsRow w2.heap.size 2 1 us1 X1.length (ints X1)) := row_on Rs1_w3.out b
  have Ka0_w4 : Hid (Bo.Box w4 w.heap.size (.int .i64 a0_0) (.int .i64 a0_1) (.slice s0 L0.length c0)) := Ka0_w3.out.on b (by have q0 := ZZwa.out; have q1 := ZZw1.out; have q2 := ZZw2.out; have q3 := ZZw3.out; have q4 := HL0.out; have q5 := HX0.out; have q6 := HX1.out; omega)
  have Rx0_w4 : Hid (w4.ownsRow w3.heap.size 2 1 (.slice (some ⟨gx0, 0, none⟩) L0.length L0.length) L0.length (ints L0)) := r
  have LTx0 : Hid (∀ k, (Value.slice (some ⟨gx0, 0, none⟩) L0.length L0.length).ownBlock = some k → w3.heap.size ≤ k ∧ k < w4.heap.size) := fun k hk => Rx0_w4.out.lt k hk
  clear r b
  clear Rs0_w3 Rs1_w3 Ka0_w3
  obtain ⟨w5, hw5⟩ : ∃ wz, wz = w4.alloc (Obj.cells #[.int .i64 a0_0, .int .i64 a0_1, .slice (some ⟨gx0, 0, none⟩) L0.length L0.length] 28) := ⟨_, rfl⟩
  have HWw5 : Hid (w5 = w4.alloc (Obj.cells #[.int .i64 a0_0, .int .i64 a0_1, .slice (some ⟨gx0, 0, none⟩) L0.length L0.length] 28)) := hw5
  have b : Below w4.heap.size w4 w5 := by rw [hw5]; exact (Below.refl _ _).alloc (Nat.le_refl _) _
  have ZZZw5 : Hid (w5.heap.size = w4.heap.size + 1) := (by show _ = _; rw [hw5]; simp)
  have ZZw5 : Hid (w4.heap.size ≤ w5.heap.size) := b.size
  have BBw5 : Hid (Below w.heap.size w w5) := BBw4.out.trans (b.mono BBw4.out.size)
  have Rs0_w5 : Hid (w5.ownsRow w2.heap.size 2 1 us0 X0.length (ints X0)) := row_on Rs0_w4.out b
  have Rs1_w5 : Hid (w5.ownsRow w2.heap.size 2 1 us1 X1.length (ints X1)) := row_on Rs1_w4.out b
  have Rx0_w5 : Hid (w5.ownsRow w3.heap.size 2 1 (.slice (some ⟨gx0, 0, none⟩) L0.length L0.length) L0.length (ints L0)) := row_on Rx0_w4.out b
  have Ka0_w5 : Hid (Bo.Box w5 w.heap.size (.int .i64 a0_0) (.int .i64 a0_1) (.slice s0 L0.length c0)) := Ka0_w4.out.on b (by have q0 := ZZwa.out; have q1 := ZZw1.out; have q2 := ZZw2.out; have q3 := ZZw3.out; have q4 := ZZw4.out; have q5 := ZZZw5.out; have q6 := HL0.out; have q7 := HX0.out; have q8 := HX1.out; omega)
  have Kx0_w5 : Hid (Bo.Box w5 w4.heap.size (.int .i64 a0_0) (.int .i64 a0_1) (.slice (some ⟨gx0, 0, none⟩) L0.length L0.length)) := (by show Bo.Box _ _ _ _ _; rw [hw5]; unfold Bo.Box; simp [go_sem])
  clear b hw5
  clear Rs0_w4 Rs1_w4 Rx0_w4
  obtain ⟨cx0_0, cx0_1, cx0_2⟩ := Kx0_w5.out
  go_wp2_with fail
  rw [← HWw5.out]
  clear HWw5
  refine (IU.out w5 _ _ Rx0_w5.out).mono ?_
  rintro e w6 ⟨ug0, ug1, rfl, rr0, rr1, dj, b⟩
  clear Ka0_w4
  clear cx0_0 cx0_1 cx0_2
  have DJg : Hid (∀ k, ug0.ownBlock = some k → ug1.ownBlock = some k → False) := dj
  clear dj
  have ZZw6 : Hid (w5.heap.size ≤ w6.heap.size) := b.size
  have BBw6 : Hid (Below w.heap.size w w6) := BBw5.out.trans (b.mono BBw5.out.size)
  have Rs0_w6 : Hid (w6.ownsRow w2.heap.size 2 1 us0 X0.length (ints X0)) := row_on Rs0_w5.out b
  have Rs1_w6 : Hid (w6.ownsRow w2.heap.size 2 1 us1 X1.length (ints X1)) := row_on Rs1_w5.out b
  have Rx0_w6 : Hid (w6.ownsRow w3.heap.size 2 1 (.slice (some ⟨gx0, 0, none⟩) L0.length L0.length) L0.length (ints L0)) := row_on Rx0_w5.out b
  have Ka0_w6 : Hid (Bo.Box w6 w.heap.size (.int .i64 a0_0) (.int .i64 a0_1) (.slice s0 L0.length c0)) := Ka0_w5.out.on b (by have q0 := ZZwa.out; have q1 := ZZw1.out; have q2 := ZZw2.out; have q3 := ZZw3.out; have q4 := ZZw4.out; have q5 := ZZZw5.out; have q6 := ZZw5.out; have q7 := HL0.out; have q8 := HX0.out; have q9 := HX1.out; omega)
  have Kx0_w6 : Hid (Bo.Box w6 w4.heap.size (.int .i64 a0_0) (.int .i64 a0_1) (.slice (some ⟨gx0, 0, none⟩) L0.length L0.length)) := Kx0_w5.out.on b (by have q0 := ZZwa.out; have q1 := ZZw1.out; have q2 := ZZw2.out; have q3 := ZZw3.out; have q4 := ZZw4.out; have q5 := ZZZw5.out; have q6 := ZZw5.out; have q7 := HL0.out; have q8 := HX0.out; have q9 := HX1.out; omega)
  have Rg0_w6 : Hid (w6.ownsRow w5.heap.size 2 1 ug0 X0.length (ints X0)) := rr0
  have LTg0 : Hid (∀ k, ug0.ownBlock = some k → w5.heap.size ≤ k ∧ k < w6.heap.size) := fun k hk => Rg0_w6.out.lt k hk
  clear rr0
  have Rg1_w6 : Hid (w6.ownsRow w5.heap.size 2 1 ug1 X1.length (ints X1)) := rr1
  have LTg1 : Hid (∀ k, ug1.ownBlock = some k → w5.heap.size ≤ k ∧ k < w6.heap.size) := fun k hk => Rg1_w6.out.lt k hk
  clear rr1
  clear b
  clear Rs0_w5 Rs1_w5 Rx0_w5 Ka0_w5 Kx0_w5
  go_wp2_with fail
  refine (eq_same _ _ _ _ _ X0 Rg0_w6.out Rs0_w6.out).mono ?_
  rintro e w7 ⟨rfl, mw7, hw⟩
  have ZZw7 : Hid (w7.heap.size = w6.heap.size) := (by show _ = _; rw [hw]; rfl)
  have BBw7 : Hid (Below w.heap.size w w7) := (by show Below _ _ _; rw [hw]; exact below_drewN BBw6.out _)
  have Rs0_w7 : Hid (w7.ownsRow w2.heap.size 2 1 us0 X0.length (ints X0)) := (by show World.ownsRow _ _ _ _ _ _ _; rw [hw]; exact Rs0_w6.out)
  have Rs1_w7 : Hid (w7.ownsRow w2.heap.size 2 1 us1 X1.length (ints X1)) := (by show World.ownsRow _ _ _ _ _ _ _; rw [hw]; exact Rs1_w6.out)
  have Rx0_w7 : Hid (w7.ownsRow w3.heap.size 2 1 (.slice (some ⟨gx0, 0, none⟩) L0.length L0.length) L0.length (ints L0)) := (by show World.ownsRow _ _ _ _ _ _ _; rw [hw]; exact Rx0_w6.out)
  have Rg0_w7 : Hid (w7.ownsRow w5.heap.size 2 1 ug0 X0.length (ints X0)) := (by show World.ownsRow _ _ _ _ _ _ _; rw [hw]; exact Rg0_w6.out)
  have Rg1_w7 : Hid (w7.ownsRow w5.heap.size 2 1 ug1 X1.length (ints X1)) := (by show World.ownsRow _ _ _ _ _ _ _; rw [hw]; exact Rg1_w6.out)
  have Ka0_w7 : Hid (Bo.Box w7 w.heap.size (.int .i64 a0_0) (.int .i64 a0_1) (.slice s0 L0.length c0)) := (by show Bo.Box _ _ _ _ _; rw [hw]; exact Ka0_w6.out)
  have Kx0_w7 : Hid (Bo.Box w7 w4.heap.size (.int .i64 a0_0) (.int .i64 a0_1) (.slice (some ⟨gx0, 0, none⟩) L0.length L0.length)) := (by show Bo.Box _ _ _ _ _; rw [hw]; exact Kx0_w6.out)
  clear hw
  clear Rs0_w6 Rs1_w6 Rx0_w6 Rg0_w6 Rg1_w6 Ka0_w6 Kx0_w6
  go_wp2_with fail
  refine (eq_same _ _ _ _ _ X1 Rg1_w7.out Rs1_w7.out).mono ?_
  rintro e w8 ⟨rfl, mw8, hw⟩
  have ZZw8 : Hid (w8.heap.size = w7.heap.size) := (by show _ = _; rw [hw]; rfl)
  have BBw8 : Hid (Below w.heap.size w w8) := (by show Below _ _ _; rw [hw]; exact below_drewN BBw7.out _)
  have Rs0_w8 : Hid (w8.ownsRow w2.heap.size 2 1 us0 X0.length (ints X0)) := (by show World.ownsRow _ _ _ _ _ _ _; rw [hw]; exact Rs0_w7.out)
  have Rs1_w8 : Hid (w8.ownsRow w2.heap.size 2 1 us1 X1.length (ints X1)) := (by show World.ownsRow _ _ _ _ _ _ _; rw [hw]; exact Rs1_w7.out)
  have Rx0_w8 : Hid (w8.ownsRow w3.heap.size 2 1 (.slice (some ⟨gx0, 0, none⟩) L0.length L0.length) L0.length (ints L0)) := (by show World.ownsRow _ _ _ _ _ _ _; rw [hw]; exact Rx0_w7.out)
  have Rg0_w8 : Hid (w8.ownsRow w5.heap.size 2 1 ug0 X0.length (ints X0)) := (by show World.ownsRow _ _ _ _ _ _ _; rw [hw]; exact Rg0_w7.out)
  have Rg1_w8 : Hid (w8.ownsRow w5.heap.size 2 1 ug1 X1.length (ints X1)) := (by show World.ownsRow _ _ _ _ _ _ _; rw [hw]; exact Rg1_w7.out)
  have Ka0_w8 : Hid (Bo.Box w8 w.heap.size (.int .i64 a0_0) (.int .i64 a0_1) (.slice s0 L0.length c0)) := (by show Bo.Box _ _ _ _ _; rw [hw]; exact Ka0_w7.out)
  have Kx0_w8 : Hid (Bo.Box w8 w4.heap.size (.int .i64 a0_0) (.int .i64 a0_1) (.slice (some ⟨gx0, 0, none⟩) L0.length L0.length)) := (by show Bo.Box _ _ _ _ _; rw [hw]; exact Kx0_w7.out)
  clear hw
  clear Rs0_w7 Rs1_w7 Rx0_w7 Rg0_w7 Rg1_w7 Ka0_w7 Kx0_w7
  obtain ⟨ca0_0, ca0_1, ca0_2⟩ := Ka0_w8.out
  obtain ⟨cx0_0, cx0_1, cx0_2⟩ := Kx0_w8.out
  have BBw8d : Hid (Below w.heap.size w w8.drew) := below_drewN BBw8.out 1
  have Rs0_w8d : Hid (w8.drew.ownsRow w2.heap.size 2 1 us0 X0.length (ints X0)) := Rs0_w8.out
  have Rs1_w8d : Hid (w8.drew.ownsRow w2.heap.size 2 1 us1 X1.length (ints X1)) := Rs1_w8.out
  have Rx0_w8d : Hid (w8.drew.ownsRow w3.heap.size 2 1 (.slice (some ⟨gx0, 0, none⟩) L0.length L0.length) L0.length (ints L0)) := Rx0_w8.out
  have Rg0_w8d : Hid (w8.drew.ownsRow w5.heap.size 2 1 ug0 X0.length (ints X0)) := Rg0_w8.out
  have Rg1_w8d : Hid (w8.drew.ownsRow w5.heap.size 2 1 ug1 X1.length (ints X1)) := Rg1_w8.out
  have Ka0_w8d : Hid (Bo.Box w8.drew w.heap.size (.int .i64 a0_0) (.int .i64 a0_1) (.slice s0 L0.length c0)) := Ka0_w8.out
  have Kx0_w8d : Hid (Bo.Box w8.drew w4.heap.size (.int .i64 a0_0) (.int .i64 a0_1) (.slice (some ⟨gx0, 0, none⟩) L0.length L0.length)) := Kx0_w8.out
  have ZZw8d : Hid (w8.drew.heap.size = w8.heap.size) := rfl
  go_wp2_with fail
  go_region_held3 (fun w' => w'.cell? ⟨w.heap.size, 0, none⟩ = some (.int .i64 a0_0) ∧ w'.cell? ⟨w.heap.size, 1, none⟩ = some (.int .i64 a0_1) ∧ w'.cell? ⟨w.heap.size, 2, none⟩ = some (.slice s0 L0.length c0) ∧ w'.cell? ⟨w4.heap.size, 0, none⟩ = some (.int .i64 a0_0) ∧ w'.cell? ⟨w4.heap.size, 1, none⟩ = some (.int .i64 a0_1) ∧ w'.cell? ⟨w4.heap.size, 2, none⟩ = some (.slice (some ⟨gx0, 0, none⟩) L0.length L0.length)) (go_keep)
    (first
    | (go_at_call 7; refine (TO0.out HL0.out _ BBw8d.out).mono ?_; rintro e w9 ⟨gy0, rfl, r, b⟩; clear ca0_0 ca0_1 ca0_2; clear cx0_0 cx0_1 cx0_2; have ZZw9 : Hid (w8.drew.heap.size ≤ w9.heap.size) := b.size; have BBw9 : Hid (Below w.heap.size w w9) := BBw8d.out.trans (b.mono BBw8d.out.size); have Rs0_w9 : Hid (w9.ownsRow w2.heap.size 2 1 us0 X0.length (ints X0)) := row_on Rs0_w8d.out b; have Rs1_w9 : Hid (w9.ownsRow w2.heap.size 2 1 us1 X1.length (ints X1)) := row_on Rs1_w8d.out b; have Rx0_w9 : Hid (w9.ownsRow w3.heap.size 2 1 (.slice (some ⟨gx0, 0, none⟩) L0.length L0.length) L0.length (ints L0)) := row_on Rx0_w8d.out b; have Rg0_w9 : Hid (w9.ownsRow w5.heap.size 2 1 ug0 X0.length (ints X0)) := row_on Rg0_w8d.out b; have Rg1_w9 : Hid (w9.ownsRow w5.heap.size 2 1 ug1 X1.length (ints X1)) := row_on Rg1_w8d.out b; have Ka0_w9 : Hid (Bo.Box w9 w.heap.size (.int .i64 a0_0) (.int .i64 a0_1) (.slice s0 L0.length c0)) := Ka0_w8d.out.on b (by have q0 := ZZwa.out; have q1 := ZZw1.out; have q2 := ZZw2.out; have q3 := ZZw3.out; have q4 := ZZw4.out; have q5 := ZZZw5.out; have q6 := ZZw5.out; have q7 := ZZw6.out; have q8 := ZZw7.out; have q9 := ZZw8.out; have q10 := ZZw8d.out; have q11 := HL0.out; have q12 := HX0.out; have q13 := HX1.out; omega); have Kx0_w9 : Hid (Bo.Box w9 w4.heap.size (.int .i64 a0_0) (.int .i64 a0_1) (.slice (some ⟨gx0, 0, none⟩) L0.length L0.length)) := Kx0_w8d.out.on b (by have q0 := ZZwa.out; have q1 := ZZw1.out; have q2 := ZZw2.out; have q3 := ZZw3.out; have q4 := ZZw4.out; have q5 := ZZZw5.out; have q6 := ZZw5.out; have q7 := ZZw6.out; have q8 := ZZw7.out; have q9 := ZZw8.out; have q10 := ZZw8d.out; have q11 := HL0.out; have q12 := HX0.out; have q13 := HX1.out; omega); have Ry0_w9 : Hid (w9.ownsRow w8.drew.heap.size 2 1 (.slice (some ⟨gy0, 0, none⟩) L0.length L0.length) L0.length (ints L0)) := r; have LTy0 : Hid (∀ k, (Value.slice (some ⟨gy0, 0, none⟩) L0.length L0.length).ownBlock = some k → w8.drew.heap.size ≤ k ∧ k < w9.heap.size) := fun k hk => Ry0_w9.out.lt k hk; clear r b; clear Rs0_w8d Rs1_w8d Rx0_w8d Rg0_w8d Rg1_w8d Ka0_w8d Kx0_w8d; obtain ⟨da0_w9_0, da0_w9_1, da0_w9_2⟩ := Ka0_w9.out; obtain ⟨dx0_w9_0, dx0_w9_1, dx0_w9_2⟩ := Kx0_w9.out)
    | (go_at_call 10; refine (EQ0.out _ _ _ _ _ Rx0_w9.out Ry0_w9.out).mono ?_; rintro e w10 ⟨rfl, b⟩; have ZZw10 : Hid (w9.heap.size ≤ w10.heap.size) := b.size; have BBw10 : Hid (Below w.heap.size w w10) := BBw9.out.trans (b.mono BBw9.out.size); have Rs0_w10 : Hid (w10.ownsRow w2.heap.size 2 1 us0 X0.length (ints X0)) := row_on Rs0_w9.out b; have Rs1_w10 : Hid (w10.ownsRow w2.heap.size 2 1 us1 X1.length (ints X1)) := row_on Rs1_w9.out b; have Rx0_w10 : Hid (w10.ownsRow w3.heap.size 2 1 (.slice (some ⟨gx0, 0, none⟩) L0.length L0.length) L0.length (ints L0)) := row_on Rx0_w9.out b; have Rg0_w10 : Hid (w10.ownsRow w5.heap.size 2 1 ug0 X0.length (ints X0)) := row_on Rg0_w9.out b; have Rg1_w10 : Hid (w10.ownsRow w5.heap.size 2 1 ug1 X1.length (ints X1)) := row_on Rg1_w9.out b; have Ry0_w10 : Hid (w10.ownsRow w8.drew.heap.size 2 1 (.slice (some ⟨gy0, 0, none⟩) L0.length L0.length) L0.length (ints L0)) := row_on Ry0_w9.out b; have Ka0_w10 : Hid (Bo.Box w10 w.heap.size (.int .i64 a0_0) (.int .i64 a0_1) (.slice s0 L0.length c0)) := Ka0_w9.out.on b (by have q0 := ZZwa.out; have q1 := ZZw1.out; have q2 := ZZw2.out; have q3 := ZZw3.out; have q4 := ZZw4.out; have q5 := ZZZw5.out; have q6 := ZZw5.out; have q7 := ZZw6.out; have q8 := ZZw7.out; have q9 := ZZw8.out; have q10 := ZZw8d.out; have q11 := ZZw9.out; have q12 := HL0.out; have q13 := HX0.out; have q14 := HX1.out; omega); have Kx0_w10 : Hid (Bo.Box w10 w4.heap.size (.int .i64 a0_0) (.int .i64 a0_1) (.slice (some ⟨gx0, 0, none⟩) L0.length L0.length)) := Kx0_w9.out.on b (by have q0 := ZZwa.out; have q1 := ZZw1.out; have q2 := ZZw2.out; have q3 := ZZw3.out; have q4 := ZZw4.out; have q5 := ZZZw5.out; have q6 := ZZw5.out; have q7 := ZZw6.out; have q8 := ZZw7.out; have q9 := ZZw8.out; have q10 := ZZw8d.out; have q11 := ZZw9.out; have q12 := HL0.out; have q13 := HX0.out; have q14 := HX1.out; omega); clear b; clear Rs0_w9 Rs1_w9 Rx0_w9 Rg0_w9 Rg1_w9 Ry0_w9 Ka0_w9 Kx0_w9; obtain ⟨da0_w10_0, da0_w10_1, da0_w10_2⟩ := Ka0_w10.out; obtain ⟨dx0_w10_0, dx0_w10_1, dx0_w10_2⟩ := Kx0_w10.out))
  clear Ry0_w10
  obtain ⟨cx0_0, cx0_1, cx0_2⟩ := Kx0_w10.out
  go_wp2_with fail
  refine (Bo.mark_st a0_0 a0_1 L0 _ _ (1) w10 (by have q0 := ZZwa.out; have q1 := ZZw1.out; have q2 := ZZw2.out; have q3 := ZZw3.out; have q4 := ZZw4.out; have q5 := ZZZw5.out; have q6 := ZZw5.out; have q7 := ZZw6.out; have q8 := ZZw7.out; have q9 := ZZw8.out; have q10 := ZZw8d.out; have q11 := ZZw9.out; have q12 := ZZw10.out; have q13 := HL0.out; have q14 := HX0.out; have q15 := HX1.out; omega) (by have q0 := ZZwa.out; have q1 := ZZw1.out; have q2 := ZZw2.out; have q3 := ZZw3.out; have q4 := ZZw4.out; have q5 := ZZZw5.out; have q6 := ZZw5.out; have q7 := ZZw6.out; have q8 := ZZw7.out; have q9 := ZZw8.out; have q10 := ZZw8d.out; have q11 := ZZw9.out; have q12 := ZZw10.out; have q13 := HL0.out; have q14 := HX0.out; have q15 := HX1.out; omega) (by have q0 := ZZwa.out; have q1 := ZZw1.out; have q2 := ZZw2.out; have q3 := ZZw3.out; have q4 := ZZw4.out; have q5 := ZZZw5.out; have q6 := ZZw5.out; have q7 := ZZw6.out; have q8 := ZZw7.out; have q9 := ZZw8.out; have q10 := ZZw8d.out; have q11 := ZZw9.out; have q12 := ZZw10.out; have q13 := HL0.out; have q14 := HX0.out; have q15 := HX1.out; omega) Rx0_w10.out).mono ?_
  rintro e w11 ⟨rfl, r, g⟩
  clear cx0_0 cx0_1 cx0_2
  have ZZw11 : Hid (w10.heap.size ≤ w11.heap.size) := g.size
  have BBw11 : Hid (Below w.heap.size w w11) := BBw10.out.grown g BBw10.out.size (fun k hk => by have q0 := ZZwa.out; have q1 := ZZw1.out; have q2 := ZZw2.out; have q3 := ZZw3.out; have q4 := ZZw4.out; have q5 := ZZZw5.out; have q6 := ZZw5.out; have q7 := ZZw6.out; have q8 := ZZw7.out; have q9 := ZZw8.out; have q10 := ZZw8d.out; have q11 := ZZw9.out; have q12 := ZZw10.out; have q13 := HL0.out; have q14 := HX0.out; have q15 := HX1.out; have := LTx0.out k hk; omega)
  have Rs0_w11 : Hid (w11.ownsRow w2.heap.size 2 1 us0 X0.length (ints X0)) := row_off Rs0_w10.out g (fun k j hk hj => by have q0 := ZZwa.out; have q1 := ZZw1.out; have q2 := ZZw2.out; have q3 := ZZw3.out; have q4 := ZZw4.out; have q5 := ZZZw5.out; have q6 := ZZw5.out; have q7 := ZZw6.out; have q8 := ZZw7.out; have q9 := ZZw8.out; have q10 := ZZw8d.out; have q11 := ZZw9.out; have q12 := ZZw10.out; have q13 := HL0.out; have q14 := HX0.out; have q15 := HX1.out; have := LTs0.out k hk; have := LTx0.out j hj; omega)
  have Rs1_w11 : Hid (w11.ownsRow w2.heap.size 2 1 us1 X1.length (ints X1)) := row_off Rs1_w10.out g (fun k j hk hj => by have q0 := ZZwa.out; have q1 := ZZw1.out; have q2 := ZZw2.out; have q3 := ZZw3.out; have q4 := ZZw4.out; have q5 := ZZZw5.out; have q6 := ZZw5.out; have q7 := ZZw6.out; have q8 := ZZw7.out; have q9 := ZZw8.out; have q10 := ZZw8d.out; have q11 := ZZw9.out; have q12 := ZZw10.out; have q13 := HL0.out; have q14 := HX0.out; have q15 := HX1.out; have := LTs1.out k hk; have := LTx0.out j hj; omega)
  have Rg0_w11 : Hid (w11.ownsRow w5.heap.size 2 1 ug0 X0.length (ints X0)) := row_off Rg0_w10.out g (fun k j hk hj => by have q0 := ZZwa.out; have q1 := ZZw1.out; have q2 := ZZw2.out; have q3 := ZZw3.out; have q4 := ZZw4.out; have q5 := ZZZw5.out; have q6 := ZZw5.out; have q7 := ZZw6.out; have q8 := ZZw7.out; have q9 := ZZw8.out; have q10 := ZZw8d.out; have q11 := ZZw9.out; have q12 := ZZw10.out; have q13 := HL0.out; have q14 := HX0.out; have q15 := HX1.out; have := LTg0.out k hk; have := LTx0.out j hj; omega)
  have Rg1_w11 : Hid (w11.ownsRow w5.heap.size 2 1 ug1 X1.length (ints X1)) := row_off Rg1_w10.out g (fun k j hk hj => by have q0 := ZZwa.out; have q1 := ZZw1.out; have q2 := ZZw2.out; have q3 := ZZw3.out; have q4 := ZZw4.out; have q5 := ZZZw5.out; have q6 := ZZw5.out; have q7 := ZZw6.out; have q8 := ZZw7.out; have q9 := ZZw8.out; have q10 := ZZw8d.out; have q11 := ZZw9.out; have q12 := ZZw10.out; have q13 := HL0.out; have q14 := HX0.out; have q15 := HX1.out; have := LTg1.out k hk; have := LTx0.out j hj; omega)
  have Ka0_w11 : Hid (Bo.Box w11 w.heap.size (.int .i64 a0_0) (.int .i64 a0_1) (.slice s0 L0.length c0)) := Ka0_w10.out.apart g (fun k hk => by have q0 := ZZwa.out; have q1 := ZZw1.out; have q2 := ZZw2.out; have q3 := ZZw3.out; have q4 := ZZw4.out; have q5 := ZZZw5.out; have q6 := ZZw5.out; have q7 := ZZw6.out; have q8 := ZZw7.out; have q9 := ZZw8.out; have q10 := ZZw8d.out; have q11 := ZZw9.out; have q12 := ZZw10.out; have q13 := HL0.out; have q14 := HX0.out; have q15 := HX1.out; have := LTx0.out k hk; omega)
  have Kx0_w11 : Hid (Bo.Box w11 w4.heap.size (.int .i64 a0_0) (.int .i64 a0_1) (.slice (some ⟨gx0, 0, none⟩) L0.length L0.length)) := Kx0_w10.out.apart g (fun k hk => by have q0 := ZZwa.out; have q1 := ZZw1.out; have q2 := ZZw2.out; have q3 := ZZw3.out; have q4 := ZZw4.out; have q5 := ZZZw5.out; have q6 := ZZw5.out; have q7 := ZZw6.out; have q8 := ZZw7.out; have q9 := ZZw8.out; have q10 := ZZw8d.out; have q11 := ZZw9.out; have q12 := ZZw10.out; have q13 := HL0.out; have q14 := HX0.out; have q15 := HX1.out; have := LTx0.out k hk; omega)
  have Rx0_w11 : Hid (w11.ownsRow w3.heap.size 2 1 (.slice (some ⟨gx0, 0, none⟩) L0.length L0.length) L0.length (ints (sq (1) L0.length))) := r
  clear r g
  clear Rs0_w10 Rs1_w10 Rx0_w10 Rg0_w10 Rg1_w10 Ka0_w10 Kx0_w10
  clear Rx0_w11
  clear Kx0_w11
  go_wp2_with fail
  refine (eq_same _ _ _ _ _ X0 Rg0_w11.out Rs0_w11.out).mono ?_
  rintro e w12 ⟨rfl, mw12, hw⟩
  have ZZw12 : Hid (w12.heap.size = w11.heap.size) := (by show _ = _; rw [hw]; rfl)
  have BBw12 : Hid (Below w.heap.size w w12) := (by show Below _ _ _; rw [hw]; exact below_drewN BBw11.out _)
  have Rs0_w12 : Hid (w12.ownsRow w2.heap.size 2 1 us0 X0.length (ints X0)) := (by show World.ownsRow _ _ _ _ _ _ _; rw [hw]; exact Rs0_w11.out)
  have Rs1_w12 : Hid (w12.ownsRow w2.heap.size 2 1 us1 X1.length (ints X1)) := (by show World.ownsRow _ _ _ _ _ _ _; rw [hw]; exact Rs1_w11.out)
  have Rg0_w12 : Hid (w12.ownsRow w5.heap.size 2 1 ug0 X0.length (ints X0)) := (by show World.ownsRow _ _ _ _ _ _ _; rw [hw]; exact Rg0_w11.out)
  have Rg1_w12 : Hid (w12.ownsRow w5.heap.size 2 1 ug1 X1.length (ints X1)) := (by show World.ownsRow _ _ _ _ _ _ _; rw [hw]; exact Rg1_w11.out)
  have Ka0_w12 : Hid (Bo.Box w12 w.heap.size (.int .i64 a0_0) (.int .i64 a0_1) (.slice s0 L0.length c0)) := (by show Bo.Box _ _ _ _ _; rw [hw]; exact Ka0_w11.out)
  clear hw
  clear Rs0_w11 Rs1_w11 Rg0_w11 Rg1_w11 Ka0_w11
  go_wp2_with fail
  refine (eq_same _ _ _ _ _ X1 Rg1_w12.out Rs1_w12.out).mono ?_
  rintro e w13 ⟨rfl, mw13, hw⟩
  have ZZw13 : Hid (w13.heap.size = w12.heap.size) := (by show _ = _; rw [hw]; rfl)
  have BBw13 : Hid (Below w.heap.size w w13) := (by show Below _ _ _; rw [hw]; exact below_drewN BBw12.out _)
  have Rs0_w13 : Hid (w13.ownsRow w2.heap.size 2 1 us0 X0.length (ints X0)) := (by show World.ownsRow _ _ _ _ _ _ _; rw [hw]; exact Rs0_w12.out)
  have Rs1_w13 : Hid (w13.ownsRow w2.heap.size 2 1 us1 X1.length (ints X1)) := (by show World.ownsRow _ _ _ _ _ _ _; rw [hw]; exact Rs1_w12.out)
  have Rg0_w13 : Hid (w13.ownsRow w5.heap.size 2 1 ug0 X0.length (ints X0)) := (by show World.ownsRow _ _ _ _ _ _ _; rw [hw]; exact Rg0_w12.out)
  have Rg1_w13 : Hid (w13.ownsRow w5.heap.size 2 1 ug1 X1.length (ints X1)) := (by show World.ownsRow _ _ _ _ _ _ _; rw [hw]; exact Rg1_w12.out)
  have Ka0_w13 : Hid (Bo.Box w13 w.heap.size (.int .i64 a0_0) (.int .i64 a0_1) (.slice s0 L0.length c0)) := (by show Bo.Box _ _ _ _ _; rw [hw]; exact Ka0_w12.out)
  clear hw
  clear Rs0_w12 Rs1_w12 Rg0_w12 Rg1_w12 Ka0_w12
  go_wp2_with fail
  refine (mark_any w13 _ _ X0 (1) (by have q0 := ZZwa.out; have q1 := ZZw1.out; have q2 := ZZw2.out; have q3 := ZZw3.out; have q4 := ZZw4.out; have q5 := ZZZw5.out; have q6 := ZZw5.out; have q7 := ZZw6.out; have q8 := ZZw7.out; have q9 := ZZw8.out; have q10 := ZZw8d.out; have q11 := ZZw9.out; have q12 := ZZw10.out; have q13 := ZZw11.out; have q14 := ZZw12.out; have q15 := ZZw13.out; have q16 := HL0.out; have q17 := HX0.out; have q18 := HX1.out; omega) (by have q0 := ZZwa.out; have q1 := ZZw1.out; have q2 := ZZw2.out; have q3 := ZZw3.out; have q4 := ZZw4.out; have q5 := ZZZw5.out; have q6 := ZZw5.out; have q7 := ZZw6.out; have q8 := ZZw7.out; have q9 := ZZw8.out; have q10 := ZZw8d.out; have q11 := ZZw9.out; have q12 := ZZw10.out; have q13 := ZZw11.out; have q14 := ZZw12.out; have q15 := ZZw13.out; have q16 := HL0.out; have q17 := HX0.out; have q18 := HX1.out; omega) (by have q0 := ZZwa.out; have q1 := ZZw1.out; have q2 := ZZw2.out; have q3 := ZZw3.out; have q4 := ZZw4.out; have q5 := ZZZw5.out; have q6 := ZZw5.out; have q7 := ZZw6.out; have q8 := ZZw7.out; have q9 := ZZw8.out; have q10 := ZZw8d.out; have q11 := ZZw9.out; have q12 := ZZw10.out; have q13 := ZZw11.out; have q14 := ZZw12.out; have q15 := ZZw13.out; have q16 := HL0.out; have q17 := HX0.out; have q18 := HX1.out; omega) Rg0_w13.out).mono ?_
  rintro e w14 ⟨rfl, r, g⟩
  have ZZw14 : Hid (w13.heap.size ≤ w14.heap.size) := g.size
  have BBw14 : Hid (Below w.heap.size w w14) := BBw13.out.grown g BBw13.out.size (fun k hk => by have q0 := ZZwa.out; have q1 := ZZw1.out; have q2 := ZZw2.out; have q3 := ZZw3.out; have q4 := ZZw4.out; have q5 := ZZZw5.out; have q6 := ZZw5.out; have q7 := ZZw6.out; have q8 := ZZw7.out; have q9 := ZZw8.out; have q10 := ZZw8d.out; have q11 := ZZw9.out; have q12 := ZZw10.out; have q13 := ZZw11.out; have q14 := ZZw12.out; have q15 := ZZw13.out; have q16 := HL0.out; have q17 := HX0.out; have q18 := HX1.out; have := LTg0.out k hk; omega)
  have Rs0_w14 : Hid (w14.ownsRow w2.heap.size 2 1 us0 X0.length (ints X0)) := row_off Rs0_w13.out g (fun k j hk hj => by have q0 := ZZwa.out; have q1 := ZZw1.out; have q2 := ZZw2.out; have q3 := ZZw3.out; have q4 := ZZw4.out; have q5 := ZZZw5.out; have q6 := ZZw5.out; have q7 := ZZw6.out; have q8 := ZZw7.out; have q9 := ZZw8.out; have q10 := ZZw8d.out; have q11 := ZZw9.out; have q12 := ZZw10.out; have q13 := ZZw11.out; have q14 := ZZw12.out; have q15 := ZZw13.out; have q16 := HL0.out; have q17 := HX0.out; have q18 := HX1.out; have := LTs0.out k hk; have := LTg0.out j hj; omega)
  have Rs1_w14 : Hid (w14.ownsRow w2.heap.size 2 1 us1 X1.length (ints X1)) := row_off Rs1_w13.out g (fun k j hk hj => by have q0 := ZZwa.out; have q1 := ZZw1.out; have q2 := ZZw2.out; have q3 := ZZw3.out; have q4 := ZZw4.out; have q5 := ZZZw5.out; have q6 := ZZw5.out; have q7 := ZZw6.out; have q8 := ZZw7.out; have q9 := ZZw8.out; have q10 := ZZw8d.out; have q11 := ZZw9.out; have q12 := ZZw10.out; have q13 := ZZw11.out; have q14 := ZZw12.out; have q15 := ZZw13.out; have q16 := HL0.out; have q17 := HX0.out; have q18 := HX1.out; have := LTs1.out k hk; have := LTg0.out j hj; omega)
  have Rg1_w14 : Hid (w14.ownsRow w5.heap.size 2 1 ug1 X1.length (ints X1)) := row_off Rg1_w13.out g (fun k j hk hj e => by subst e; exact DJg.out k hj hk)
  have Ka0_w14 : Hid (Bo.Box w14 w.heap.size (.int .i64 a0_0) (.int .i64 a0_1) (.slice s0 L0.length c0)) := Ka0_w13.out.apart g (fun k hk => by have q0 := ZZwa.out; have q1 := ZZw1.out; have q2 := ZZw2.out; have q3 := ZZw3.out; have q4 := ZZw4.out; have q5 := ZZZw5.out; have q6 := ZZw5.out; have q7 := ZZw6.out; have q8 := ZZw7.out; have q9 := ZZw8.out; have q10 := ZZw8d.out; have q11 := ZZw9.out; have q12 := ZZw10.out; have q13 := ZZw11.out; have q14 := ZZw12.out; have q15 := ZZw13.out; have q16 := HL0.out; have q17 := HX0.out; have q18 := HX1.out; have := LTg0.out k hk; omega)
  have Rg0_w14 : Hid (w14.ownsRow w5.heap.size 2 1 ug0 X0.length (ints (sq (1) X0.length))) := r
  clear r g
  clear Rs0_w13 Rs1_w13 Rg0_w13 Rg1_w13 Ka0_w13
  go_wp2_with fail
  refine (mark_any w14 _ _ X1 (1 + (X0.length : Int)) (by have q0 := ZZwa.out; have q1 := ZZw1.out; have q2 := ZZw2.out; have q3 := ZZw3.out; have q4 := ZZw4.out; have q5 := ZZZw5.out; have q6 := ZZw5.out; have q7 := ZZw6.out; have q8 := ZZw7.out; have q9 := ZZw8.out; have q10 := ZZw8d.out; have q11 := ZZw9.out; have q12 := ZZw10.out; have q13 := ZZw11.out; have q14 := ZZw12.out; have q15 := ZZw13.out; have q16 := ZZw14.out; have q17 := HL0.out; have q18 := HX0.out; have q19 := HX1.out; omega) (by have q0 := ZZwa.out; have q1 := ZZw1.out; have q2 := ZZw2.out; have q3 := ZZw3.out; have q4 := ZZw4.out; have q5 := ZZZw5.out; have q6 := ZZw5.out; have q7 := ZZw6.out; have q8 := ZZw7.out; have q9 := ZZw8.out; have q10 := ZZw8d.out; have q11 := ZZw9.out; have q12 := ZZw10.out; have q13 := ZZw11.out; have q14 := ZZw12.out; have q15 := ZZw13.out; have q16 := ZZw14.out; have q17 := HL0.out; have q18 := HX0.out; have q19 := HX1.out; omega) (by have q0 := ZZwa.out; have q1 := ZZw1.out; have q2 := ZZw2.out; have q3 := ZZw3.out; have q4 := ZZw4.out; have q5 := ZZZw5.out; have q6 := ZZw5.out; have q7 := ZZw6.out; have q8 := ZZw7.out; have q9 := ZZw8.out; have q10 := ZZw8d.out; have q11 := ZZw9.out; have q12 := ZZw10.out; have q13 := ZZw11.out; have q14 := ZZw12.out; have q15 := ZZw13.out; have q16 := ZZw14.out; have q17 := HL0.out; have q18 := HX0.out; have q19 := HX1.out; omega) Rg1_w14.out).mono ?_
  rintro e w15 ⟨rfl, r, g⟩
  have ZZw15 : Hid (w14.heap.size ≤ w15.heap.size) := g.size
  have BBw15 : Hid (Below w.heap.size w w15) := BBw14.out.grown g BBw14.out.size (fun k hk => by have q0 := ZZwa.out; have q1 := ZZw1.out; have q2 := ZZw2.out; have q3 := ZZw3.out; have q4 := ZZw4.out; have q5 := ZZZw5.out; have q6 := ZZw5.out; have q7 := ZZw6.out; have q8 := ZZw7.out; have q9 := ZZw8.out; have q10 := ZZw8d.out; have q11 := ZZw9.out; have q12 := ZZw10.out; have q13 := ZZw11.out; have q14 := ZZw12.out; have q15 := ZZw13.out; have q16 := ZZw14.out; have q17 := HL0.out; have q18 := HX0.out; have q19 := HX1.out; have := LTg1.out k hk; omega)
  have Rs0_w15 : Hid (w15.ownsRow w2.heap.size 2 1 us0 X0.length (ints X0)) := row_off Rs0_w14.out g (fun k j hk hj => by have q0 := ZZwa.out; have q1 := ZZw1.out; have q2 := ZZw2.out; have q3 := ZZw3.out; have q4 := ZZw4.out; have q5 := ZZZw5.out; have q6 := ZZw5.out; have q7 := ZZw6.out; have q8 := ZZw7.out; have q9 := ZZw8.out; have q10 := ZZw8d.out; have q11 := ZZw9.out; have q12 := ZZw10.out; have q13 := ZZw11.out; have q14 := ZZw12.out; have q15 := ZZw13.out; have q16 := ZZw14.out; have q17 := HL0.out; have q18 := HX0.out; have q19 := HX1.out; have := LTs0.out k hk; have := LTg1.out j hj; omega)
  have Rs1_w15 : Hid (w15.ownsRow w2.heap.size 2 1 us1 X1.length (ints X1)) := row_off Rs1_w14.out g (fun k j hk hj => by have q0 := ZZwa.out; have q1 := ZZw1.out; have q2 := ZZw2.out; have q3 := ZZw3.out; have q4 := ZZw4.out; have q5 := ZZZw5.out; have q6 := ZZw5.out; have q7 := ZZw6.out; have q8 := ZZw7.out; have q9 := ZZw8.out; have q10 := ZZw8d.out; have q11 := ZZw9.out; have q12 := ZZw10.out; have q13 := ZZw11.out; have q14 := ZZw12.out; have q15 := ZZw13.out; have q16 := ZZw14.out; have q17 := HL0.out; have q18 := HX0.out; have q19 := HX1.out; have := LTs1.out k hk; have := LTg1.out j hj; omega)
  have Rg0_w15 : Hid (w15.ownsRow w5.heap.size 2 1 ug0 X0.length (ints (sq (1) X0.length))) := row_off Rg0_w14.out g (fun k j hk hj e => by subst e; exact DJg.out k hk hj)
  have Ka0_w15 : Hid (Bo.Box w15 w.heap.size (.int .i64 a0_0) (.int .i64 a0_1) (.slice s0 L0.length c0)) := Ka0_w14.out.apart g (fun k hk => by have q0 := ZZwa.out; have q1 := ZZw1.out; have q2 := ZZw2.out; have q3 := ZZw3.out; have q4 := ZZw4.out; have q5 := ZZZw5.out; have q6 := ZZw5.out; have q7 := ZZw6.out; have q8 := ZZw7.out; have q9 := ZZw8.out; have q10 := ZZw8d.out; have q11 := ZZw9.out; have q12 := ZZw10.out; have q13 := ZZw11.out; have q14 := ZZw12.out; have q15 := ZZw13.out; have q16 := ZZw14.out; have q17 := HL0.out; have q18 := HX0.out; have q19 := HX1.out; have := LTg1.out k hk; omega)
  have Rg1_w15 : Hid (w15.ownsRow w5.heap.size 2 1 ug1 X1.length (ints (sq (1 + (X0.length : Int)) X1.length))) := r
  clear r g
  clear Rs0_w14 Rs1_w14 Rg0_w14 Rg1_w14 Ka0_w14
  go_wp2_with fail
  refine (held_any w15 _ X0.length (1) (by have q0 := ZZwa.out; have q1 := ZZw1.out; have q2 := ZZw2.out; have q3 := ZZw3.out; have q4 := ZZw4.out; have q5 := ZZZw5.out; have q6 := ZZw5.out; have q7 := ZZw6.out; have q8 := ZZw7.out; have q9 := ZZw8.out; have q10 := ZZw8d.out; have q11 := ZZw9.out; have q12 := ZZw10.out; have q13 := ZZw11.out; have q14 := ZZw12.out; have q15 := ZZw13.out; have q16 := ZZw14.out; have q17 := ZZw15.out; have q18 := HL0.out; have q19 := HX0.out; have q20 := HX1.out; omega) (by have q0 := ZZwa.out; have q1 := ZZw1.out; have q2 := ZZw2.out; have q3 := ZZw3.out; have q4 := ZZw4.out; have q5 := ZZZw5.out; have q6 := ZZw5.out; have q7 := ZZw6.out; have q8 := ZZw7.out; have q9 := ZZw8.out; have q10 := ZZw8d.out; have q11 := ZZw9.out; have q12 := ZZw10.out; have q13 := ZZw11.out; have q14 := ZZw12.out; have q15 := ZZw13.out; have q16 := ZZw14.out; have q17 := ZZw15.out; have q18 := HL0.out; have q19 := HX0.out; have q20 := HX1.out; omega) (by have := HX0.out; omega) (Lists.reads_row (L := sq (1) X0.length) (by rw [sq_len]; exact Rg0_w15.out))).mono ?_
  rintro e w16 ⟨rfl, mw16, hw⟩
  have ZZw16 : Hid (w16.heap.size = w15.heap.size) := (by show _ = _; rw [hw]; rfl)
  have BBw16 : Hid (Below w.heap.size w w16) := (by show Below _ _ _; rw [hw]; exact below_drewN BBw15.out _)
  have Rs0_w16 : Hid (w16.ownsRow w2.heap.size 2 1 us0 X0.length (ints X0)) := (by show World.ownsRow _ _ _ _ _ _ _; rw [hw]; exact Rs0_w15.out)
  have Rs1_w16 : Hid (w16.ownsRow w2.heap.size 2 1 us1 X1.length (ints X1)) := (by show World.ownsRow _ _ _ _ _ _ _; rw [hw]; exact Rs1_w15.out)
  have Rg0_w16 : Hid (w16.ownsRow w5.heap.size 2 1 ug0 X0.length (ints (sq (1) X0.length))) := (by show World.ownsRow _ _ _ _ _ _ _; rw [hw]; exact Rg0_w15.out)
  have Rg1_w16 : Hid (w16.ownsRow w5.heap.size 2 1 ug1 X1.length (ints (sq (1 + (X0.length : Int)) X1.length))) := (by show World.ownsRow _ _ _ _ _ _ _; rw [hw]; exact Rg1_w15.out)
  have Ka0_w16 : Hid (Bo.Box w16 w.heap.size (.int .i64 a0_0) (.int .i64 a0_1) (.slice s0 L0.length c0)) := (by show Bo.Box _ _ _ _ _; rw [hw]; exact Ka0_w15.out)
  clear hw
  clear Rs0_w15 Rs1_w15 Rg0_w15 Rg1_w15 Ka0_w15
  go_wp2_with fail
  refine (held_any w16 _ X1.length (1 + (X0.length : Int)) (by have q0 := ZZwa.out; have q1 := ZZw1.out; have q2 := ZZw2.out; have q3 := ZZw3.out; have q4 := ZZw4.out; have q5 := ZZZw5.out; have q6 := ZZw5.out; have q7 := ZZw6.out; have q8 := ZZw7.out; have q9 := ZZw8.out; have q10 := ZZw8d.out; have q11 := ZZw9.out; have q12 := ZZw10.out; have q13 := ZZw11.out; have q14 := ZZw12.out; have q15 := ZZw13.out; have q16 := ZZw14.out; have q17 := ZZw15.out; have q18 := ZZw16.out; have q19 := HL0.out; have q20 := HX0.out; have q21 := HX1.out; omega) (by have q0 := ZZwa.out; have q1 := ZZw1.out; have q2 := ZZw2.out; have q3 := ZZw3.out; have q4 := ZZw4.out; have q5 := ZZZw5.out; have q6 := ZZw5.out; have q7 := ZZw6.out; have q8 := ZZw7.out; have q9 := ZZw8.out; have q10 := ZZw8d.out; have q11 := ZZw9.out; have q12 := ZZw10.out; have q13 := ZZw11.out; have q14 := ZZw12.out; have q15 := ZZw13.out; have q16 := ZZw14.out; have q17 := ZZw15.out; have q18 := ZZw16.out; have q19 := HL0.out; have q20 := HX0.out; have q21 := HX1.out; omega) (by have := HX1.out; omega) (Lists.reads_row (L := sq (1 + (X0.length : Int)) X1.length) (by rw [sq_len]; exact Rg1_w16.out))).mono ?_
  rintro e w17 ⟨rfl, mw17, hw⟩
  have ZZw17 : Hid (w17.heap.size = w16.heap.size) := (by show _ = _; rw [hw]; rfl)
  have BBw17 : Hid (Below w.heap.size w w17) := (by show Below _ _ _; rw [hw]; exact below_drewN BBw16.out _)
  have Rs0_w17 : Hid (w17.ownsRow w2.heap.size 2 1 us0 X0.length (ints X0)) := (by show World.ownsRow _ _ _ _ _ _ _; rw [hw]; exact Rs0_w16.out)
  have Rs1_w17 : Hid (w17.ownsRow w2.heap.size 2 1 us1 X1.length (ints X1)) := (by show World.ownsRow _ _ _ _ _ _ _; rw [hw]; exact Rs1_w16.out)
  have Rg0_w17 : Hid (w17.ownsRow w5.heap.size 2 1 ug0 X0.length (ints (sq (1) X0.length))) := (by show World.ownsRow _ _ _ _ _ _ _; rw [hw]; exact Rg0_w16.out)
  have Rg1_w17 : Hid (w17.ownsRow w5.heap.size 2 1 ug1 X1.length (ints (sq (1 + (X0.length : Int)) X1.length))) := (by show World.ownsRow _ _ _ _ _ _ _; rw [hw]; exact Rg1_w16.out)
  have Ka0_w17 : Hid (Bo.Box w17 w.heap.size (.int .i64 a0_0) (.int .i64 a0_1) (.slice s0 L0.length c0)) := (by show Bo.Box _ _ _ _ _; rw [hw]; exact Ka0_w16.out)
  clear hw
  clear Rs0_w16 Rs1_w16 Rg0_w16 Rg1_w16 Ka0_w16
  obtain ⟨ca0_0, ca0_1, ca0_2⟩ := Ka0_w17.out
  go_wp2_with fail
  refine (TO0.out HL0.out w17 BBw17.out).mono ?_
  rintro e w18 ⟨gq0, rfl, r, b⟩
  clear ca0_0 ca0_1 ca0_2
  have ZZw18 : Hid (w17.heap.size ≤ w18.heap.size) := b.size
  have BBw18 : Hid (Below w.heap.size w w18) := BBw17.out.trans (b.mono BBw17.out.size)
  have Rs0_w18 : Hid (w18.ownsRow w2.heap.size 2 1 us0 X0.length (ints X0)) := row_on Rs0_w17.out b
  have Rs1_w18 : Hid (w18.ownsRow w2.heap.size 2 1 us1 X1.length (ints X1)) := row_on Rs1_w17.out b
  have Rg0_w18 : Hid (w18.ownsRow w5.heap.size 2 1 ug0 X0.length (ints (sq (1) X0.length))) := row_on Rg0_w17.out b
  have Rg1_w18 : Hid (w18.ownsRow w5.heap.size 2 1 ug1 X1.length (ints (sq (1 + (X0.length : Int)) X1.length))) := row_on Rg1_w17.out b
  have Ka0_w18 : Hid (Bo.Box w18 w.heap.size (.int .i64 a0_0) (.int .i64 a0_1) (.slice s0 L0.length c0)) := Ka0_w17.out.on b (by have q0 := ZZwa.out; have q1 := ZZw1.out; have q2 := ZZw2.out; have q3 := ZZw3.out; have q4 := ZZw4.out; have q5 := ZZZw5.out; have q6 := ZZw5.out; have q7 := ZZw6.out; have q8 := ZZw7.out; have q9 := ZZw8.out; have q10 := ZZw8d.out; have q11 := ZZw9.out; have q12 := ZZw10.out; have q13 := ZZw11.out; have q14 := ZZw12.out; have q15 := ZZw13.out; have q16 := ZZw14.out; have q17 := ZZw15.out; have q18 := ZZw16.out; have q19 := ZZw17.out; have q20 := HL0.out; have q21 := HX0.out; have q22 := HX1.out; omega)
  have Rq0_w18 : Hid (w18.ownsRow w17.heap.size 2 1 (.slice (some ⟨gq0, 0, none⟩) L0.length L0.length) L0.length (ints L0)) := r
  have LTq0 : Hid (∀ k, (Value.slice (some ⟨gq0, 0, none⟩) L0.length L0.length).ownBlock = some k → w17.heap.size ≤ k ∧ k < w18.heap.size) := fun k hk => Rq0_w18.out.lt k hk
  clear r b
  clear Rs0_w17 Rs1_w17 Rg0_w17 Rg1_w17 Ka0_w17
  go_wp2_with fail
  refine (IU.out w18 _ _ Rq0_w18.out).mono ?_
  rintro e w19 ⟨uh0, uh1, rfl, rr0, rr1, dj, b⟩
  have DJh : Hid (∀ k, uh0.ownBlock = some k → uh1.ownBlock = some k → False) := dj
  clear dj
  have ZZw19 : Hid (w18.heap.size ≤ w19.heap.size) := b.size
  have BBw19 : Hid (Below w.heap.size w w19) := BBw18.out.trans (b.mono BBw18.out.size)
  have Rs0_w19 : Hid (w19.ownsRow w2.heap.size 2 1 us0 X0.length (ints X0)) := row_on Rs0_w18.out b
  have Rs1_w19 : Hid (w19.ownsRow w2.heap.size 2 1 us1 X1.length (ints X1)) := row_on Rs1_w18.out b
  have Rg0_w19 : Hid (w19.ownsRow w5.heap.size 2 1 ug0 X0.length (ints (sq (1) X0.length))) := row_on Rg0_w18.out b
  have Rg1_w19 : Hid (w19.ownsRow w5.heap.size 2 1 ug1 X1.length (ints (sq (1 + (X0.length : Int)) X1.length))) := row_on Rg1_w18.out b
  have Rq0_w19 : Hid (w19.ownsRow w17.heap.size 2 1 (.slice (some ⟨gq0, 0, none⟩) L0.length L0.length) L0.length (ints L0)) := row_on Rq0_w18.out b
  have Ka0_w19 : Hid (Bo.Box w19 w.heap.size (.int .i64 a0_0) (.int .i64 a0_1) (.slice s0 L0.length c0)) := Ka0_w18.out.on b (by have q0 := ZZwa.out; have q1 := ZZw1.out; have q2 := ZZw2.out; have q3 := ZZw3.out; have q4 := ZZw4.out; have q5 := ZZZw5.out; have q6 := ZZw5.out; have q7 := ZZw6.out; have q8 := ZZw7.out; have q9 := ZZw8.out; have q10 := ZZw8d.out; have q11 := ZZw9.out; have q12 := ZZw10.out; have q13 := ZZw11.out; have q14 := ZZw12.out; have q15 := ZZw13.out; have q16 := ZZw14.out; have q17 := ZZw15.out; have q18 := ZZw16.out; have q19 := ZZw17.out; have q20 := ZZw18.out; have q21 := HL0.out; have q22 := HX0.out; have q23 := HX1.out; omega)
  have Rh0_w19 : Hid (w19.ownsRow w18.heap.size 2 1 uh0 X0.length (ints X0)) := rr0
  have LTh0 : Hid (∀ k, uh0.ownBlock = some k → w18.heap.size ≤ k ∧ k < w19.heap.size) := fun k hk => Rh0_w19.out.lt k hk
  clear rr0
  have Rh1_w19 : Hid (w19.ownsRow w18.heap.size 2 1 uh1 X1.length (ints X1)) := rr1
  have LTh1 : Hid (∀ k, uh1.ownBlock = some k → w18.heap.size ≤ k ∧ k < w19.heap.size) := fun k hk => Rh1_w19.out.lt k hk
  clear rr1
  clear b
  clear Rs0_w18 Rs1_w18 Rg0_w18 Rg1_w18 Rq0_w18 Ka0_w18
  clear Rq0_w19
  go_wp2_with fail
  refine (eq_same _ _ _ _ _ X0 Rh0_w19.out Rs0_w19.out).mono ?_
  rintro e w20 ⟨rfl, mw20, hw⟩
  have ZZw20 : Hid (w20.heap.size = w19.heap.size) := (by show _ = _; rw [hw]; rfl)
  have BBw20 : Hid (Below w.heap.size w w20) := (by show Below _ _ _; rw [hw]; exact below_drewN BBw19.out _)
  have Rs0_w20 : Hid (w20.ownsRow w2.heap.size 2 1 us0 X0.length (ints X0)) := (by show World.ownsRow _ _ _ _ _ _ _; rw [hw]; exact Rs0_w19.out)
  have Rs1_w20 : Hid (w20.ownsRow w2.heap.size 2 1 us1 X1.length (ints X1)) := (by show World.ownsRow _ _ _ _ _ _ _; rw [hw]; exact Rs1_w19.out)
  have Rg0_w20 : Hid (w20.ownsRow w5.heap.size 2 1 ug0 X0.length (ints (sq (1) X0.length))) := (by show World.ownsRow _ _ _ _ _ _ _; rw [hw]; exact Rg0_w19.out)
  have Rg1_w20 : Hid (w20.ownsRow w5.heap.size 2 1 ug1 X1.length (ints (sq (1 + (X0.length : Int)) X1.length))) := (by show World.ownsRow _ _ _ _ _ _ _; rw [hw]; exact Rg1_w19.out)
  have Rh0_w20 : Hid (w20.ownsRow w18.heap.size 2 1 uh0 X0.length (ints X0)) := (by show World.ownsRow _ _ _ _ _ _ _; rw [hw]; exact Rh0_w19.out)
  have Rh1_w20 : Hid (w20.ownsRow w18.heap.size 2 1 uh1 X1.length (ints X1)) := (by show World.ownsRow _ _ _ _ _ _ _; rw [hw]; exact Rh1_w19.out)
  have Ka0_w20 : Hid (Bo.Box w20 w.heap.size (.int .i64 a0_0) (.int .i64 a0_1) (.slice s0 L0.length c0)) := (by show Bo.Box _ _ _ _ _; rw [hw]; exact Ka0_w19.out)
  clear hw
  clear Rs0_w19 Rs1_w19 Rg0_w19 Rg1_w19 Rh0_w19 Rh1_w19 Ka0_w19
  go_wp2_with fail
  refine (eq_same _ _ _ _ _ X1 Rh1_w20.out Rs1_w20.out).mono ?_
  rintro e w21 ⟨rfl, mw21, hw⟩
  have ZZw21 : Hid (w21.heap.size = w20.heap.size) := (by show _ = _; rw [hw]; rfl)
  have BBw21 : Hid (Below w.heap.size w w21) := (by show Below _ _ _; rw [hw]; exact below_drewN BBw20.out _)
  have Rs0_w21 : Hid (w21.ownsRow w2.heap.size 2 1 us0 X0.length (ints X0)) := (by show World.ownsRow _ _ _ _ _ _ _; rw [hw]; exact Rs0_w20.out)
  have Rs1_w21 : Hid (w21.ownsRow w2.heap.size 2 1 us1 X1.length (ints X1)) := (by show World.ownsRow _ _ _ _ _ _ _; rw [hw]; exact Rs1_w20.out)
  have Rg0_w21 : Hid (w21.ownsRow w5.heap.size 2 1 ug0 X0.length (ints (sq (1) X0.length))) := (by show World.ownsRow _ _ _ _ _ _ _; rw [hw]; exact Rg0_w20.out)
  have Rg1_w21 : Hid (w21.ownsRow w5.heap.size 2 1 ug1 X1.length (ints (sq (1 + (X0.length : Int)) X1.length))) := (by show World.ownsRow _ _ _ _ _ _ _; rw [hw]; exact Rg1_w20.out)
  have Rh0_w21 : Hid (w21.ownsRow w18.heap.size 2 1 uh0 X0.length (ints X0)) := (by show World.ownsRow _ _ _ _ _ _ _; rw [hw]; exact Rh0_w20.out)
  have Rh1_w21 : Hid (w21.ownsRow w18.heap.size 2 1 uh1 X1.length (ints X1)) := (by show World.ownsRow _ _ _ _ _ _ _; rw [hw]; exact Rh1_w20.out)
  have Ka0_w21 : Hid (Bo.Box w21 w.heap.size (.int .i64 a0_0) (.int .i64 a0_1) (.slice s0 L0.length c0)) := (by show Bo.Box _ _ _ _ _; rw [hw]; exact Ka0_w20.out)
  clear hw
  clear Rs0_w20 Rs1_w20 Rg0_w20 Rg1_w20 Rh0_w20 Rh1_w20 Ka0_w20
  go_wp2_with fail
  refine (held_any w21 _ X0.length (1) (by have q0 := ZZwa.out; have q1 := ZZw1.out; have q2 := ZZw2.out; have q3 := ZZw3.out; have q4 := ZZw4.out; have q5 := ZZZw5.out; have q6 := ZZw5.out; have q7 := ZZw6.out; have q8 := ZZw7.out; have q9 := ZZw8.out; have q10 := ZZw8d.out; have q11 := ZZw9.out; have q12 := ZZw10.out; have q13 := ZZw11.out; have q14 := ZZw12.out; have q15 := ZZw13.out; have q16 := ZZw14.out; have q17 := ZZw15.out; have q18 := ZZw16.out; have q19 := ZZw17.out; have q20 := ZZw18.out; have q21 := ZZw19.out; have q22 := ZZw20.out; have q23 := ZZw21.out; have q24 := HL0.out; have q25 := HX0.out; have q26 := HX1.out; omega) (by have q0 := ZZwa.out; have q1 := ZZw1.out; have q2 := ZZw2.out; have q3 := ZZw3.out; have q4 := ZZw4.out; have q5 := ZZZw5.out; have q6 := ZZw5.out; have q7 := ZZw6.out; have q8 := ZZw7.out; have q9 := ZZw8.out; have q10 := ZZw8d.out; have q11 := ZZw9.out; have q12 := ZZw10.out; have q13 := ZZw11.out; have q14 := ZZw12.out; have q15 := ZZw13.out; have q16 := ZZw14.out; have q17 := ZZw15.out; have q18 := ZZw16.out; have q19 := ZZw17.out; have q20 := ZZw18.out; have q21 := ZZw19.out; have q22 := ZZw20.out; have q23 := ZZw21.out; have q24 := HL0.out; have q25 := HX0.out; have q26 := HX1.out; omega) (by have := HX0.out; omega) (Lists.reads_row (L := sq (1) X0.length) (by rw [sq_len]; exact Rg0_w21.out))).mono ?_
  rintro e w22 ⟨rfl, mw22, hw⟩
  have ZZw22 : Hid (w22.heap.size = w21.heap.size) := (by show _ = _; rw [hw]; rfl)
  have BBw22 : Hid (Below w.heap.size w w22) := (by show Below _ _ _; rw [hw]; exact below_drewN BBw21.out _)
  have Rs0_w22 : Hid (w22.ownsRow w2.heap.size 2 1 us0 X0.length (ints X0)) := (by show World.ownsRow _ _ _ _ _ _ _; rw [hw]; exact Rs0_w21.out)
  have Rs1_w22 : Hid (w22.ownsRow w2.heap.size 2 1 us1 X1.length (ints X1)) := (by show World.ownsRow _ _ _ _ _ _ _; rw [hw]; exact Rs1_w21.out)
  have Rg0_w22 : Hid (w22.ownsRow w5.heap.size 2 1 ug0 X0.length (ints (sq (1) X0.length))) := (by show World.ownsRow _ _ _ _ _ _ _; rw [hw]; exact Rg0_w21.out)
  have Rg1_w22 : Hid (w22.ownsRow w5.heap.size 2 1 ug1 X1.length (ints (sq (1 + (X0.length : Int)) X1.length))) := (by show World.ownsRow _ _ _ _ _ _ _; rw [hw]; exact Rg1_w21.out)
  have Rh0_w22 : Hid (w22.ownsRow w18.heap.size 2 1 uh0 X0.length (ints X0)) := (by show World.ownsRow _ _ _ _ _ _ _; rw [hw]; exact Rh0_w21.out)
  have Rh1_w22 : Hid (w22.ownsRow w18.heap.size 2 1 uh1 X1.length (ints X1)) := (by show World.ownsRow _ _ _ _ _ _ _; rw [hw]; exact Rh1_w21.out)
  have Ka0_w22 : Hid (Bo.Box w22 w.heap.size (.int .i64 a0_0) (.int .i64 a0_1) (.slice s0 L0.length c0)) := (by show Bo.Box _ _ _ _ _; rw [hw]; exact Ka0_w21.out)
  clear hw
  clear Rs0_w21 Rs1_w21 Rg0_w21 Rg1_w21 Rh0_w21 Rh1_w21 Ka0_w21
  go_wp2_with fail
  refine (held_any w22 _ X1.length (1 + (X0.length : Int)) (by have q0 := ZZwa.out; have q1 := ZZw1.out; have q2 := ZZw2.out; have q3 := ZZw3.out; have q4 := ZZw4.out; have q5 := ZZZw5.out; have q6 := ZZw5.out; have q7 := ZZw6.out; have q8 := ZZw7.out; have q9 := ZZw8.out; have q10 := ZZw8d.out; have q11 := ZZw9.out; have q12 := ZZw10.out; have q13 := ZZw11.out; have q14 := ZZw12.out; have q15 := ZZw13.out; have q16 := ZZw14.out; have q17 := ZZw15.out; have q18 := ZZw16.out; have q19 := ZZw17.out; have q20 := ZZw18.out; have q21 := ZZw19.out; have q22 := ZZw20.out; have q23 := ZZw21.out; have q24 := ZZw22.out; have q25 := HL0.out; have q26 := HX0.out; have q27 := HX1.out; omega) (by have q0 := ZZwa.out; have q1 := ZZw1.out; have q2 := ZZw2.out; have q3 := ZZw3.out; have q4 := ZZw4.out; have q5 := ZZZw5.out; have q6 := ZZw5.out; have q7 := ZZw6.out; have q8 := ZZw7.out; have q9 := ZZw8.out; have q10 := ZZw8d.out; have q11 := ZZw9.out; have q12 := ZZw10.out; have q13 := ZZw11.out; have q14 := ZZw12.out; have q15 := ZZw13.out; have q16 := ZZw14.out; have q17 := ZZw15.out; have q18 := ZZw16.out; have q19 := ZZw17.out; have q20 := ZZw18.out; have q21 := ZZw19.out; have q22 := ZZw20.out; have q23 := ZZw21.out; have q24 := ZZw22.out; have q25 := HL0.out; have q26 := HX0.out; have q27 := HX1.out; omega) (by have := HX1.out; omega) (Lists.reads_row (L := sq (1 + (X0.length : Int)) X1.length) (by rw [sq_len]; exact Rg1_w22.out))).mono ?_
  rintro e w23 ⟨rfl, mw23, hw⟩
  have ZZw23 : Hid (w23.heap.size = w22.heap.size) := (by show _ = _; rw [hw]; rfl)
  have BBw23 : Hid (Below w.heap.size w w23) := (by show Below _ _ _; rw [hw]; exact below_drewN BBw22.out _)
  have Rs0_w23 : Hid (w23.ownsRow w2.heap.size 2 1 us0 X0.length (ints X0)) := (by show World.ownsRow _ _ _ _ _ _ _; rw [hw]; exact Rs0_w22.out)
  have Rs1_w23 : Hid (w23.ownsRow w2.heap.size 2 1 us1 X1.length (ints X1)) := (by show World.ownsRow _ _ _ _ _ _ _; rw [hw]; exact Rs1_w22.out)
  have Rg0_w23 : Hid (w23.ownsRow w5.heap.size 2 1 ug0 X0.length (ints (sq (1) X0.length))) := (by show World.ownsRow _ _ _ _ _ _ _; rw [hw]; exact Rg0_w22.out)
  have Rg1_w23 : Hid (w23.ownsRow w5.heap.size 2 1 ug1 X1.length (ints (sq (1 + (X0.length : Int)) X1.length))) := (by show World.ownsRow _ _ _ _ _ _ _; rw [hw]; exact Rg1_w22.out)
  have Rh0_w23 : Hid (w23.ownsRow w18.heap.size 2 1 uh0 X0.length (ints X0)) := (by show World.ownsRow _ _ _ _ _ _ _; rw [hw]; exact Rh0_w22.out)
  have Rh1_w23 : Hid (w23.ownsRow w18.heap.size 2 1 uh1 X1.length (ints X1)) := (by show World.ownsRow _ _ _ _ _ _ _; rw [hw]; exact Rh1_w22.out)
  have Ka0_w23 : Hid (Bo.Box w23 w.heap.size (.int .i64 a0_0) (.int .i64 a0_1) (.slice s0 L0.length c0)) := (by show Bo.Box _ _ _ _ _; rw [hw]; exact Ka0_w22.out)
  clear hw
  clear Rs0_w22 Rs1_w22 Rg0_w22 Rg1_w22 Rh0_w22 Rh1_w22 Ka0_w22
  go_wp2_with fail
  go_ret
  exact ⟨rfl, BBw23.out⟩
end Go.Proofs.Ytagkbglgdmajhaa.LawDrL
