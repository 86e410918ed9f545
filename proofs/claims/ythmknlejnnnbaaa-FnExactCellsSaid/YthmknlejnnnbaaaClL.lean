/- The law walked; what model and program answer comes in as hypotheses. -/
import Derived.Test.YthmknlejnnnbaaaBo
namespace Go.Proofs.Ythmknlejnnnbaaa.LawClL
open Go.ChangeShapes Go.WideShapes Go.ChangeAt Go.RowKit
open Go.Proofs.Ythmknlejnnnbaaa.Lists

theorem below_drewN {B : Nat} {a w : World} (h : Below B a w) (n : Nat) : Below B a (w.drewN n) := h.trans ⟨rfl, rfl, rfl, Nat.le_refl _, fun _ _ => rfl⟩
theorem row_on {w w' : World} {base n : Nat} {v : Value} {xs : List Value} (h : w.ownsRow base 2 1 v n xs) (hb : Below w.heap.size w w') : w'.ownsRow base 2 1 v n xs := by
  refine h.kept (row := none) ⟨hb.os, hb.tape, hb.output, hb.size, fun k hk _ => hb.block k hk⟩ ?_
  by_cases e : v.ownBlock = none
  · exact Or.inl e
  · exact Or.inr e
theorem row_off {w w' : World} {base n : Nat} {row : Option Nat} {v : Value} {xs : List Value} (h : w.ownsRow base 2 1 v n xs) (hg : w.grownBy w' row) (hne : ∀ k j, v.ownBlock = some k → row = some j → k ≠ j) : w'.ownsRow base 2 1 v n xs := by
  refine h.kept hg ?_
  cases e : v.ownBlock with
  | none => exact Or.inl rfl
  | some k => exact Or.inr fun x => hne k k e x.symm rfl

set_option maxRecDepth 20000 in
set_option maxHeartbeats 2000000 in
theorem cellsLaw (w : World) (a0_0 a0_1 : Int) (v0 : Value) (L0 : List Int) (h0 : Lists.Reads w v0 L0) (f0 : L0.length < 9223372036854775808) (n1 : Int) (X0 : List Int) (hX0 : X0.length ≤ 1000)
    (SA : ∀ (w : World) (t0 : Value), Lists.Reads w t0 L0 → Calls Try.prog 10 #[Bo.sv a0_0 a0_1 t0, .int .i64 n1] w fun e w' => ∃ u0, e = .returned (u0) ∧ w'.ownsRow w.heap.size 2 1 u0 X0.length (ints X0) ∧ Below w.heap.size w w')
    (IA : ∀ (w : World) (t0 : Value), Lists.Reads w t0 L0 → Calls Try.prog 11 #[Bo.sv a0_0 a0_1 t0, .int .i64 n1] w fun e w' => ∃ u0, e = .returned (u0) ∧ w'.ownsRow w.heap.size 2 1 u0 X0.length (ints X0) ∧ Below w.heap.size w w') :
    Calls Try.prog 4 #[Bo.sv a0_0 a0_1 v0, .int .i64 n1] w fun e w' => e = .returned (.bool true) ∧ Below w.heap.size w w' := by
  obtain ⟨s0, c0, rfl⟩ := h0.form
  have SZ0 : Hid (∀ (w' : World) (l : Int), 0 ≤ l → l ≤ 1048576 → Calls Try.prog 5 #[Bo.sv a0_0 a0_1 (.slice s0 L0.length c0), .int .i64 l] w' fun e w'' => (∃ r : Int, e = .returned (.int .i64 r) ∧ (0 ≤ r → L0.length ≤ 1048576) ∧ r ≤ 1048576) ∧ Below w'.heap.size w' w'') := fun w' l q0 q1 => Bo.sz_any a0_0 a0_1 s0 L0.length c0 l w' q0 q1 f0
  have TO0 : Hid (L0.length ≤ 1048576 → ∀ w', Below w.heap.size w w' → Calls Try.prog 7 #[Bo.sv a0_0 a0_1 (.slice s0 L0.length c0)] w' fun e w'' => ∃ g, e = .returned (Bo.sv a0_0 a0_1 (.slice (some ⟨g, 0, none⟩) L0.length L0.length)) ∧ w''.ownsRow w'.heap.size 2 1 (.slice (some ⟨g, 0, none⟩) L0.length L0.length) L0.length (ints L0) ∧ Below w'.heap.size w' w'') := fun hl w' hb => Bo.to_st a0_0 a0_1 L0 _ w' (h0.on hb) hl
  have EQ0 : Hid (∀ w' A B t u, w'.ownsRow A 2 1 t L0.length (ints L0) → w'.ownsRow B 2 1 u L0.length (ints L0) → Calls Try.prog 9 #[Bo.sv a0_0 a0_1 t, Bo.sv a0_0 a0_1 u] w' fun e w'' => e = .returned (.bool true) ∧ Below w'.heap.size w' w'') := fun w' A B t u h h' => Bo.eq_st a0_0 a0_1 L0 t u A B w' h h'
  have SU : Hid (∀ (w' : World) (B0 : Nat) (t0 : Value), w'.ownsRow B0 2 1 t0 L0.length (ints L0) → Calls Try.prog 10 #[Bo.sv a0_0 a0_1 t0, .int .i64 n1] w' fun e w'' => ∃ u0, e = .returned (u0) ∧ w''.ownsRow w'.heap.size 2 1 u0 X0.length (ints X0) ∧ Below w'.heap.size w' w'') := fun w' B0 t0 o0 => SA w' t0 (Lists.reads_row o0)
  have IU : Hid (∀ (w' : World) (B0 : Nat) (t0 : Value), w'.ownsRow B0 2 1 t0 L0.length (ints L0) → Calls Try.prog 11 #[Bo.sv a0_0 a0_1 t0, .int .i64 n1] w' fun e w'' => ∃ u0, e = .returned (u0) ∧ w''.ownsRow w'.heap.size 2 1 u0 X0.length (ints X0) ∧ Below w'.heap.size w' w'') := fun w' B0 t0 o0 => IA w' t0 (Lists.reads_row o0)
  have hbb : ∀ b : Bool, (b != b) = false := fun b => by cases b <;> rfl
  have hii : ∀ b : Int, (b != b) = false := fun b => by simp
  have hqq : ((1 : Int) + (X0.length : Int) != 1 + (X0.length : Int)) = false := by simp
  have hq0 : ¬ (1 : Int) + (X0.length : Int) < 0 := by omega
  have hq1 : ¬ (1 : Int) + (L0.length : Int) < 0 := by omega
  have HX0 : Hid (X0.length ≤ 1000) := hX0
  clear SA IA hX0 h0  f0
  obtain ⟨wa, hwa⟩ : ∃ wa, wa = (w.alloc (Obj.cells #[.int .i64 a0_0, .int .i64 a0_1, .slice s0 L0.length c0] 24)) := ⟨_, rfl⟩
  have HWA : Hid (wa = (w.alloc (Obj.cells #[.int .i64 a0_0, .int .i64 a0_1, .slice s0 L0.length c0] 24))) := hwa
  have BBwa : Hid (Below w.heap.size w wa) := (by show Below _ _ _; rw [hwa]; exact ((Below.refl w.heap.size w).alloc (Nat.le_refl _) _))
  have ZZwa : Hid (wa.heap.size = w.heap.size + 1) := (by show _ = _; rw [hwa]; simp)
  have Ka0_wa : Hid (Bo.Box wa w.heap.size (.int .i64 a0_0) (.int .i64 a0_1) (.slice s0 L0.length c0)) := (by show Bo.Box _ _ _ _ _; rw [hwa]; unfold Bo.Box; simp [go_sem])
  clear hwa
  go_enter Try.func4, Try.ntmps4
  obtain ⟨ca0_0, ca0_1, ca0_2⟩ := Ka0_wa.out
  go_wp2_with fail
  rw [← HWA.out]
  clear HWA
  refine (SZ0.out wa 1048576 (by omega) (by omega)).mono ?_
  rintro e w1 ⟨⟨z0, rfl, y0, l0⟩, b⟩
  clear ca0_0 ca0_1 ca0_2
  have ZZw1 : Hid (wa.heap.size ≤ w1.heap.size) := b.size
  have BBw1 : Hid (Below w.heap.size w w1) := BBwa.out.trans (b.mono BBwa.out.size)
  have Ka0_w1 : Hid (Bo.Box w1 w.heap.size (.int .i64 a0_0) (.int .i64 a0_1) (.slice s0 L0.length c0)) := Ka0_wa.out.on b (by have q0 := ZZwa.out; have q1 := HX0.out; omega)
  clear b
  clear Ka0_wa
  by_cases hneg0 : z0 < 0
  · go_wp2_with fail
    go_ret
    exact ⟨rfl, BBw1.out⟩
  have HL0 : Hid (L0.length ≤ 1048576) := y0 (by omega)
  obtain ⟨ca0_0, ca0_1, ca0_2⟩ := Ka0_w1.out
  go_wp2_with fail
  refine (TO0.out HL0.out w1 BBw1.out).mono ?_
  rintro e w2 ⟨gp0, rfl, r, b⟩
  clear ca0_0 ca0_1 ca0_2
  have ZZw2 : Hid (w1.heap.size ≤ w2.heap.size) := b.size
  have BBw2 : Hid (Below w.heap.size w w2) := BBw1.out.trans (b.mono BBw1.out.size)
  have Ka0_w2 : Hid (Bo.Box w2 w.heap.size (.int .i64 a0_0) (.int .i64 a0_1) (.slice s0 L0.length c0)) := Ka0_w1.out.on b (by have q0 := ZZwa.out; have q1 := ZZw1.out; have q2 := HL0.out; have q3 := HX0.out; omega)
  have Rp0_w2 : Hid (w2.ownsRow w1.heap.size 2 1 (.slice (some ⟨gp0, 0, none⟩) L0.length L0.length) L0.length (ints L0)) := r
  have LTp0 : Hid (∀ k, (Value.slice (some ⟨gp0, 0, none⟩) L0.length L0.length).ownBlock = some k → w1.heap.size ≤ k ∧ k < w2.heap.size) := fun k hk => Rp0_w2.out.lt k hk
  clear r b
  clear Ka0_w1
  go_wp2_with fail
  refine (SU.out w2 _ _ Rp0_w2.out).mono ?_
  rintro e w3 ⟨us0, rfl, rr0, b⟩
  have ZZw3 : Hid (w2.heap.size ≤ w3.heap.size) := b.size
  have BBw3 : Hid (Below w.heap.size w w3) := BBw2.out.trans (b.mono BBw2.out.size)
  have Rp0_w3 : Hid (w3.ownsRow w1.heap.size 2 1 (.slice (some ⟨gp0, 0, none⟩) L0.length L0.length) L0.length (ints L0)) := row_on Rp0_w2.out b
  have Ka0_w3 : Hid (Bo.Box w3 w.heap.size (.int .i64 a0_0) (.int .i64 a0_1) (.slice s0 L0.length c0)) := Ka0_w2.out.on b (by have q0 := ZZwa.out; have q1 := ZZw1.out; have q2 := ZZw2.out; have q3 := HL0.out; have q4 := HX0.out; omega)
  have Rs0_w3 : Hid (w3.ownsRow w2.heap.size 2 1 us0 X0.length (ints X0)) := rr0
  have LTs0 : Hid (∀ k, us0.ownBlock = some k → w2.heap.size ≤ k ∧ k < w3.heap.size) := fun k hk => Rs0_w3.out.lt k hk
  clear rr0
  clear b
  clear Rp0_w2 Ka0_w2
  clear Rp0_w3
  obtain ⟨ca0_0, ca0_1, ca0_2⟩ := Ka0_w3.out
  go_wp2_with fail
  refine (TO0.out HL0.out w3 BBw3.out).mono ?_
  rintro e w4 ⟨gx0, rfl, r, b⟩
  clear ca0_0 ca0_1 ca0_2
  have ZZw4 : Hid (w3.heap.size ≤ w4.heap.size) := b.size
  have BBw4 : Hid (Below w.heap.size w w4) := BBw3.out.trans (b.mono BBw3.out.size)
  have Rs0_w4 : Hid (w4.ownsRow w2.heap.size 2 1 us0 X0.length (ints X0)) := row_on Rs0_w3.out b
  have Ka0_w4 : Hid (Bo.Box w4 w.heap.size (.int .i64 a0_0) (.int .i64 a0_1) (.slice s0 L0.length c0)) := Ka0_w3.out.on b (by have q0 := ZZwa.out; have q1 := ZZw1.out; have q2 := ZZw2.out; have q3 := ZZw3.out; have q4 := HL0.out; have q5 := HX0.out; omega)
  have Rx0_w4 : Hid (w4.ownsRow w3.heap.size 2 1 (.slice (some ⟨gx0, 0, none⟩) L0.length L0.length) L0.length (ints L0)) := r
  have LTx0 : Hid (∀ k, (Value.slice (some ⟨gx0, 0, none⟩) L0.length L0.length).ownBlock = some k → w3.heap.size ≤ k ∧ k < w4.heap.size) := fun k hk => Rx0_w4.out.lt k hk
  clear r b
  clear Rs0_w3 Ka0_w3
  obtain ⟨w5, hw5⟩ : ∃ wz, wz = w4.alloc (Obj.cells #[.int .i64 a0_0, .int .i64 a0_1, .slice (some ⟨gx0, 0, none⟩) L0.length L0.length] 28) := ⟨_, rfl⟩
  have HWw5 : Hid (w5 = w4.alloc (Obj.cells #[.int .i64 a0_0, .int .i64 a0_1, .slice (some ⟨gx0, 0, none⟩) L0.length L0.length] 28)) := hw5
  have b : Below w4.heap.size w4 w5 := by rw [hw5]; exact (Below.refl _ _).alloc (Nat.le_refl _) _
  have ZZZw5 : Hid (w5.heap.size = w4.heap.size + 1) := (by show _ = _; rw [hw5]; simp)
  have ZZw5 : Hid (w4.heap.size ≤ w5.heap.size) := b.size
  have BBw5 : Hid (Below w.heap.size w w5) := BBw4.out.trans (b.mono BBw4.out.size)
  have Rs0_w5 : Hid (w5.ownsRow w2.heap.size 2 1 us0 X0.length (ints X0)) := row_on Rs0_w4.out b
  have Rx0_w5 : Hid (w5.ownsRow w3.heap.size 2 1 (.slice (some ⟨gx0, 0, none⟩) L0.length L0.length) L0.length (ints L0)) := row_on Rx0_w4.out b
  have Ka0_w5 : Hid (Bo.Box w5 w.heap.size (.int .i64 a0_0) (.int .i64 a0_1) (.slice s0 L0.length c0)) := Ka0_w4.out.on b (by have q0 := ZZwa.out; have q1 := ZZw1.out; have q2 := ZZw2.out; have q3 := ZZw3.out; have q4 := ZZw4.out; have q5 := ZZZw5.out; have q6 := HL0.out; have q7 := HX0.out; omega)
  have Kx0_w5 : Hid (Bo.Box w5 w4.heap.size (.int .i64 a0_0) (.int .i64 a0_1) (.slice (some ⟨gx0, 0, none⟩) L0.length L0.length)) := (by show Bo.Box _ _ _ _ _; rw [hw5]; unfold Bo.Box; simp [go_sem])
  clear b hw5
  clear Rs0_w4 Rx0_w4 Ka0_w4
  obtain ⟨cx0_0, cx0_1, cx0_2⟩ := Kx0_w5.out
  go_wp2_with fail
  rw [← HWw5.out]
  clear HWw5
  refine (IU.out w5 _ _ Rx0_w5.out).mono ?_
  rintro e w6 ⟨ug0, rfl, rr0, b⟩
  clear cx0_0 cx0_1 cx0_2
  have ZZw6 : Hid (w5.heap.size ≤ w6.heap.size) := b.size
  have BBw6 : Hid (Below w.heap.size w w6) := BBw5.out.trans (b.mono BBw5.out.size)
  have Rs0_w6 : Hid (w6.ownsRow w2.heap.size 2 1 us0 X0.length (ints X0)) := row_on Rs0_w5.out b
  have Rx0_w6 : Hid (w6.ownsRow w3.heap.size 2 1 (.slice (some ⟨gx0, 0, none⟩) L0.length L0.length) L0.length (ints L0)) := row_on Rx0_w5.out b
  have Ka0_w6 : Hid (Bo.Box w6 w.heap.size (.int .i64 a0_0) (.int .i64 a0_1) (.slice s0 L0.length c0)) := Ka0_w5.out.on b (by have q0 := ZZwa.out; have q1 := ZZw1.out; have q2 := ZZw2.out; have q3 := ZZw3.out; have q4 := ZZw4.out; have q5 := ZZZw5.out; have q6 := ZZw5.out; have q7 := HL0.out; have q8 := HX0.out; omega)
  have Kx0_w6 : Hid (Bo.Box w6 w4.heap.size (.int .i64 a0_0) (.int .i64 a0_1) (.slice (some ⟨gx0, 0, none⟩) L0.length L0.length)) := Kx0_w5.out.on b (by have q0 := ZZwa.out; have q1 := ZZw1.out; have q2 := ZZw2.out; have q3 := ZZw3.out; have q4 := ZZw4.out; have q5 := ZZZw5.out; have q6 := ZZw5.out; have q7 := HL0.out; have q8 := HX0.out; omega)
  have Rg0_w6 : Hid (w6.ownsRow w5.heap.size 2 1 ug0 X0.length (ints X0)) := rr0
  have LTg0 : Hid (∀ k, ug0.ownBlock = some k → w5.heap.size ≤ k ∧ k < w6.heap.size) := fun k hk => Rg0_w6.out.lt k hk
  clear rr0
  clear b
  clear Rs0_w5 Rx0_w5 Ka0_w5 Kx0_w5
  go_wp2_with fail
  refine (eq_same _ _ _ _ _ X0 Rg0_w6.out Rs0_w6.out).mono ?_
  rintro e w7 ⟨rfl, mw7, hw⟩
  have ZZw7 : Hid (w7.heap.size = w6.heap.size) := (by show _ = _; rw [hw]; rfl)
  have BBw7 : Hid (Below w.heap.size w w7) := (by show Below _ _ _; rw [hw]; exact below_drewN BBw6.out _)
  have Rs0_w7 : Hid (w7.ownsRow w2.heap.size 2 1 us0 X0.length (ints X0)) := (by show World.ownsRow _ _ _ _ _ _ _; rw [hw]; exact Rs0_w6.out)
  have Rx0_w7 : Hid (w7.ownsRow w3.heap.size 2 1 (.slice (some ⟨gx0, 0, none⟩) L0.length L0.length) L0.length (ints L0)) := (by show World.ownsRow _ _ _ _ _ _ _; rw [hw]; exact Rx0_w6.out)
  have Rg0_w7 : Hid (w7.ownsRow w5.heap.size 2 1 ug0 X0.length (ints X0)) := (by show World.ownsRow _ _ _ _ _ _ _; rw [hw]; exact Rg0_w6.out)
  have Ka0_w7 : Hid (Bo.Box w7 w.heap.size (.int .i64 a0_0) (.int .i64 a0_1) (.slice s0 L0.length c0)) := (by show Bo.Box _ _ _ _ _; rw [hw]; exact Ka0_w6.out)
  have Kx0_w7 : Hid (Bo.Box w7 w4.heap.size (.int .i64 a0_0) (.int .i64 a0_1) (.slice (some ⟨gx0, 0, none⟩) L0.length L0.length)) := (by show Bo.Box _ _ _ _ _; rw [hw]; exact Kx0_w6.out)
  clear hw
  clear Rs0_w6 Rx0_w6 Rg0_w6 Ka0_w6 Kx0_w6
  obtain ⟨ca0_0, ca0_1, ca0_2⟩ := Ka0_w7.out
  obtain ⟨cx0_0, cx0_1, cx0_2⟩ := Kx0_w7.out
  have BBw7d : Hid (Below w.heap.size w w7.drew) := below_drewN BBw7.out 1
  have Rs0_w7d : Hid (w7.drew.ownsRow w2.heap.size 2 1 us0 X0.length (ints X0)) := Rs0_w7.out
  have Rx0_w7d : Hid (w7.drew.ownsRow w3.heap.size 2 1 (.slice (some ⟨gx0, 0, none⟩) L0.length L0.length) L0.length (ints L0)) := Rx0_w7.out
  have Rg0_w7d : Hid (w7.drew.ownsRow w5.heap.size 2 1 ug0 X0.length (ints X0)) := Rg0_w7.out
  have Ka0_w7d : Hid (Bo.Box w7.drew w.heap.size (.int .i64 a0_0) (.int .i64 a0_1) (.slice s0 L0.length c0)) := Ka0_w7.out
  have Kx0_w7d : Hid (Bo.Box w7.drew w4.heap.size (.int .i64 a0_0) (.int .i64 a0_1) (.slice (some ⟨gx0, 0, none⟩) L0.length L0.length)) := Kx0_w7.out
  have ZZw7d : Hid (w7.drew.heap.size = w7.heap.size) := rfl
  go_wp2_with fail
  go_region_held3 (fun w' => w'.cell? ⟨w.heap.size, 0, none⟩ = some (.int .i64 a0_0) ∧ w'.cell? ⟨w.heap.size, 1, none⟩ = some (.int .i64 a0_1) ∧ w'.cell? ⟨w.heap.size, 2, none⟩ = some (.slice s0 L0.length c0) ∧ w'.cell? ⟨w4.heap.size, 0, none⟩ = some (.int .i64 a0_0) ∧ w'.cell? ⟨w4.heap.size, 1, none⟩ = some (.int .i64 a0_1) ∧ w'.cell? ⟨w4.heap.size, 2, none⟩ = some (.slice (some ⟨gx0, 0, none⟩) L0.length L0.length)) (go_keep)
    (first
    | (go_at_call 7; refine (TO0.out HL0.out _ BBw7d.out).mono ?_; rintro e w8 ⟨gy0, rfl, r, b⟩; clear ca0_0 ca0_1 ca0_2; clear cx0_0 cx0_1 cx0_2; have ZZw8 : Hid (w7.drew.heap.size ≤ w8.heap.size) := b.size; have BBw8 : Hid (Below w.heap.size w w8) := BBw7d.out.trans (b.mono BBw7d.out.size); have Rs0_w8 : Hid (w8.ownsRow w2.heap.size 2 1 us0 X0.length (ints X0)) := row_on Rs0_w7d.out b; have Rx0_w8 : Hid (w8.ownsRow w3.heap.size 2 1 (.slice (some ⟨gx0, 0, none⟩) L0.length L0.length) L0.length (ints L0)) := row_on Rx0_w7d.out b; have Rg0_w8 : Hid (w8.ownsRow w5.heap.size 2 1 ug0 X0.length (ints X0)) := row_on Rg0_w7d.out b; have Ka0_w8 : Hid (Bo.Box w8 w.heap.size (.int .i64 a0_0) (.int .i64 a0_1) (.slice s0 L0.length c0)) := Ka0_w7d.out.on b (by have q0 := ZZwa.out; have q1 := ZZw1.out; have q2 := ZZw2.out; have q3 := ZZw3.out; have q4 := ZZw4.out; have q5 := ZZZw5.out; have q6 := ZZw5.out; have q7 := ZZw6.out; have q8 := ZZw7.out; have q9 := ZZw7d.out; have q10 := HL0.out; have q11 := HX0.out; omega); have Kx0_w8 : Hid (Bo.Box w8 w4.heap.size (.int .i64 a0_0) (.int .i64 a0_1) (.slice (some ⟨gx0, 0, none⟩) L0.length L0.length)) := Kx0_w7d.out.on b (by have q0 := ZZwa.out; have q1 := ZZw1.out; have q2 := ZZw2.out; have q3 := ZZw3.out; have q4 := ZZw4.out; have q5 := ZZZw5.out; have q6 := ZZw5.out; have q7 := ZZw6.out; have q8 := ZZw7.out; have q9 := ZZw7d.out; have q10 := HL0.out; have q11 := HX0.out; omega); have Ry0_w8 : Hid (w8.ownsRow w7.drew.heap.size 2 1 (.slice (some ⟨gy0, 0, none⟩) L0.length L0.length) L0.length (ints L0)) := r; have LTy0 : Hid (∀ k, (Value.slice (some ⟨gy0, 0, none⟩) L0.length L0.length).ownBlock = some k → w7.drew.heap.size ≤ k ∧ k < w8.heap.size) := fun k hk => Ry0_w8.out.lt k hk; clear r b; clear Rs0_w7d Rx0_w7d Rg0_w7d Ka0_w7d Kx0_w7d; obtain ⟨da0_w8_0, da0_w8_1, da0_w8_2⟩ := Ka0_w8.out; obtain ⟨dx0_w8_0, dx0_w8_1, dx0_w8_2⟩ := Kx0_w8.out)
    | (go_at_call 9; refine (EQ0.out _ _ _ _ _ Rx0_w8.out Ry0_w8.out).mono ?_; rintro e w9 ⟨rfl, b⟩; have ZZw9 : Hid (w8.heap.size ≤ w9.heap.size) := b.size; have BBw9 : Hid (Below w.heap.size w w9) := BBw8.out.trans (b.mono BBw8.out.size); have Rs0_w9 : Hid (w9.ownsRow w2.heap.size 2 1 us0 X0.length (ints X0)) := row_on Rs0_w8.out b; have Rx0_w9 : Hid (w9.ownsRow w3.heap.size 2 1 (.slice (some ⟨gx0, 0, none⟩) L0.length L0.length) L0.length (ints L0)) := row_on Rx0_w8.out b; have Rg0_w9 : Hid (w9.ownsRow w5.heap.size 2 1 ug0 X0.length (ints X0)) := row_on Rg0_w8.out b; have Ry0_w9 : Hid (w9.ownsRow w7.drew.heap.size 2 1 (.slice (some ⟨gy0, 0, none⟩) L0.length L0.length) L0.length (ints L0)) := row_on Ry0_w8.out b; have Ka0_w9 : Hid (Bo.Box w9 w.heap.size (.int .i64 a0_0) (.int .i64 a0_1) (.slice s0 L0.length c0)) := Ka0_w8.out.on b (by have q0 := ZZwa.out; have q1 := ZZw1.out; have q2 := ZZw2.out; have q3 := ZZw3.out; have q4 := ZZw4.out; have q5 := ZZZw5.out; have q6 := ZZw5.out; have q7 := ZZw6.out; have q8 := ZZw7.out; have q9 := ZZw7d.out; have q10 := ZZw8.out; have q11 := HL0.out; have q12 := HX0.out; omega); have Kx0_w9 : Hid (Bo.Box w9 w4.heap.size (.int .i64 a0_0) (.int .i64 a0_1) (.slice (some ⟨gx0, 0, none⟩) L0.length L0.length)) := Kx0_w8.out.on b (by have q0 := ZZwa.out; have q1 := ZZw1.out; have q2 := ZZw2.out; have q3 := ZZw3.out; have q4 := ZZw4.out; have q5 := ZZZw5.out; have q6 := ZZw5.out; have q7 := ZZw6.out; have q8 := ZZw7.out; have q9 := ZZw7d.out; have q10 := ZZw8.out; have q11 := HL0.out; have q12 := HX0.out; omega); clear b; clear Rs0_w8 Rx0_w8 Rg0_w8 Ry0_w8 Ka0_w8 Kx0_w8; obtain ⟨da0_w9_0, da0_w9_1, da0_w9_2⟩ := Ka0_w9.out; obtain ⟨dx0_w9_0, dx0_w9_1, dx0_w9_2⟩ := Kx0_w9.out))
  clear Ry0_w9
  obtain ⟨cx0_0, cx0_1, cx0_2⟩ := Kx0_w9.out
  go_wp2_with fail
  refine (Bo.mark_st a0_0 a0_1 L0 _ _ (1) w9 (by have q0 := ZZwa.out; have q1 := ZZw1.out; have q2 := ZZw2.out; have q3 := ZZw3.out; have q4 := ZZw4.out; have q5 := ZZZw5.out; have q6 := ZZw5.out; have q7 := ZZw6.out; have q8 := ZZw7.out; have q9 := ZZw7d.out; have q10 := ZZw8.out; have q11 := ZZw9.out; have q12 := HL0.out; have q13 := HX0.out; omega) (by have q0 := ZZwa.out; have q1 := ZZw1.out; have q2 := ZZw2.out; have q3 := ZZw3.out; have q4 := ZZw4.out; have q5 := ZZZw5.out; have q6 := ZZw5.out; have q7 := ZZw6.out; have q8 := ZZw7.out; have q9 := ZZw7d.out; have q10 := ZZw8.out; have q11 := ZZw9.out; have q12 := HL0.out; have q13 := HX0.out; omega) (by have q0 := ZZwa.out; have q1 := ZZw1.out; have q2 := ZZw2.out; have q3 := ZZw3.out; have q4 := ZZw4.out; have q5 := ZZZw5.out; have q6 := ZZw5.out; have q7 := ZZw6.out; have q8 := ZZw7.out; have q9 := ZZw7d.out; have q10 := ZZw8.out; have q11 := ZZw9.out; have q12 := HL0.out; have q13 := HX0.out; omega) Rx0_w9.out).mono ?_
  rintro e w10 ⟨rfl, r, g⟩
  clear cx0_0 cx0_1 cx0_2
  have ZZw10 : Hid (w9.heap.size ≤ w10.heap.size) := g.size
  have BBw10 : Hid (Below w.heap.size w w10) := BBw9.out.grown g BBw9.out.size (fun k hk => by have q0 := ZZwa.out; have q1 := ZZw1.out; have q2 := ZZw2.out; have q3 := ZZw3.out; have q4 := ZZw4.out; have q5 := ZZZw5.out; have q6 := ZZw5.out; have q7 := ZZw6.out; have q8 := ZZw7.out; have q9 := ZZw7d.out; have q10 := ZZw8.out; have q11 := ZZw9.out; have q12 := HL0.out; have q13 := HX0.out; have := LTx0.out k hk; omega)
  have Rs0_w10 : Hid (w10.ownsRow w2.heap.size 2 1 us0 X0.length (ints X0)) := row_off Rs0_w9.out g (fun k j hk hj => by have q0 := ZZwa.out; have q1 := ZZw1.out; have q2 := ZZw2.out; have q3 := ZZw3.out; have q4 := ZZw4.out; have q5 := ZZZw5.out; have q6 := ZZw5.out; have q7 := ZZw6.out; have q8 := ZZw7.out; have q9 := ZZw7d.out; have q10 := ZZw8.out; have q11 := ZZw9.out; have q12 := HL0.out; have q13 := HX0.out; have := LTs0.out k hk; have := LTx0.out j hj; omega)
  have Rg0_w10 : Hid (w10.ownsRow w5.heap.size 2 1 ug0 X0.length (ints X0)) := row_off Rg0_w9.out g (fun k j hk hj => by have q0 := ZZwa.out; have q1 := ZZw1.out; have q2 := ZZw2.out; have q3 := ZZw3.out; have q4 := ZZw4.out; have q5 := ZZZw5.out; have q6 := ZZw5.out; have q7 := ZZw6.out; have q8 := ZZw7.out; have q9 := ZZw7d.out; have q10 := ZZw8.out; have q11 := ZZw9.out; have q12 := HL0.out; have q13 := HX0.out; have := LTg0.out k hk; have := LTx0.out j hj; omega)
  have Ka0_w10 : Hid (Bo.Box w10 w.heap.size (.int .i64 a0_0) (.int .i64 a0_1) (.slice s0 L0.length c0)) := Ka0_w9.out.apart g (fun k hk => by have q0 := ZZwa.out; have q1 := ZZw1.out; have q2 := ZZw2.out; have q3 := ZZw3.out; have q4 := ZZw4.out; have q5 := ZZZw5.out; have q6 := ZZw5.out; have q7 := ZZw6.out; have q8 := ZZw7.out; have q9 := ZZw7d.out; have q10 := ZZw8.out; have q11 := ZZw9.out; have q12 := HL0.out; have q13 := HX0.out; have := LTx0.out k hk; omega)
  have Kx0_w10 : Hid (Bo.Box w10 w4.heap.size (.int .i64 a0_0) (.int .i64 a0_1) (.slice (some ⟨gx0, 0, none⟩) L0.length L0.length)) := Kx0_w9.out.apart g (fun k hk => by have q0 := ZZwa.out; have q1 := ZZw1.out; have q2 := ZZw2.out; have q3 := ZZw3.out; have q4 := ZZw4.out; have q5 := ZZZw5.out; have q6 := ZZw5.out; have q7 := ZZw6.out; have q8 := ZZw7.out; have q9 := ZZw7d.out; have q10 := ZZw8.out; have q11 := ZZw9.out; have q12 := HL0.out; have q13 := HX0.out; have := LTx0.out k hk; omega)
  have Rx0_w10 : Hid (w10.ownsRow w3.heap.size 2 1 (.slice (some ⟨gx0, 0, none⟩) L0.length L0.length) L0.length (ints (sq (1) L0.length))) := r
  clear r g
  clear Rs0_w9 Rx0_w9 Rg0_w9 Ka0_w9 Kx0_w9
  clear Rx0_w10
  clear Kx0_w10
  go_wp2_with fail
  refine (eq_same _ _ _ _ _ X0 Rg0_w10.out Rs0_w10.out).mono ?_
  rintro e w11 ⟨rfl, mw11, hw⟩
  have ZZw11 : Hid (w11.heap.size = w10.heap.size) := (by show _ = _; rw [hw]; rfl)
  have BBw11 : Hid (Below w.heap.size w w11) := (by show Below _ _ _; rw [hw]; exact below_drewN BBw10.out _)
  have Rs0_w11 : Hid (w11.ownsRow w2.heap.size 2 1 us0 X0.length (ints X0)) := (by show World.ownsRow _ _ _ _ _ _ _; rw [hw]; exact Rs0_w10.out)
  have Rg0_w11 : Hid (w11.ownsRow w5.heap.size 2 1 ug0 X0.length (ints X0)) := (by show World.ownsRow _ _ _ _ _ _ _; rw [hw]; exact Rg0_w10.out)
  have Ka0_w11 : Hid (Bo.Box w11 w.heap.size (.int .i64 a0_0) (.int .i64 a0_1) (.slice s0 L0.length c0)) := (by show Bo.Box _ _ _ _ _; rw [hw]; exact Ka0_w10.out)
  clear hw
  clear Rs0_w10 Rg0_w10 Ka0_w10
  go_wp2_with fail
  refine (mark_any w11 _ _ X0 (1) (by have q0 := ZZwa.out; have q1 := ZZw1.out; have q2 := ZZw2.out; have q3 := ZZw3.out; have q4 := ZZw4.out; have q5 := ZZZw5.out; have q6 := ZZw5.out; have q7 := ZZw6.out; have q8 := ZZw7.out; have q9 := ZZw7d.out; have q10 := ZZw8.out; have q11 := ZZw9.out; have q12 := ZZw10.out; have q13 := ZZw11.out; have q14 := HL0.out; have q15 := HX0.out; omega) (by have q0 := ZZwa.out; have q1 := ZZw1.out; have q2 := ZZw2.out; have q3 := ZZw3.out; have q4 := ZZw4.out; have q5 := ZZZw5.out; have q6 := ZZw5.out; have q7 := ZZw6.out; have q8 := ZZw7.out; have q9 := ZZw7d.out; have q10 := ZZw8.out; have q11 := ZZw9.out; have q12 := ZZw10.out; have q13 := ZZw11.out; have q14 := HL0.out; have q15 := HX0.out; omega) (by have q0 := ZZwa.out; have q1 := ZZw1.out; have q2 := ZZw2.out; have q3 := ZZw3.out; have q4 := ZZw4.out; have q5 := ZZZw5.out; have q6 := ZZw5.out; have q7 := ZZw6.out; have q8 := ZZw7.out; have q9 := ZZw7d.out; have q10 := ZZw8.out; have q11 := ZZw9.out; have q12 := ZZw10.out; have q13 := ZZw11.out; have q14 := HL0.out; have q15 := HX0.out; omega) Rg0_w11.out).mono ?_
  rintro e w12 ⟨rfl, r, g⟩
  have ZZw12 : Hid (w11.heap.size ≤ w12.heap.size) := g.size
  have BBw12 : Hid (Below w.heap.size w w12) := BBw11.out.grown g BBw11.out.size (fun k hk => by have q0 := ZZwa.out; have q1 := ZZw1.out; have q2 := ZZw2.out; have q3 := ZZw3.out; have q4 := ZZw4.out; have q5 := ZZZw5.out; have q6 := ZZw5.out; have q7 := ZZw6.out; have q8 := ZZw7.out; have q9 := ZZw7d.out; have q10 := ZZw8.out; have q11 := ZZw9.out; have q12 := ZZw10.out; have q13 := ZZw11.out; have q14 := HL0.out; have q15 := HX0.out; have := LTg0.out k hk; omega)
  have Rs0_w12 : Hid (w12.ownsRow w2.heap.size 2 1 us0 X0.length (ints X0)) := row_off Rs0_w11.out g (fun k j hk hj => by have q0 := ZZwa.out; have q1 := ZZw1.out; have q2 := ZZw2.out; have q3 := ZZw3.out; have q4 := ZZw4.out; have q5 := ZZZw5.out; have q6 := ZZw5.out; have q7 := ZZw6.out; have q8 := ZZw7.out; have q9 := ZZw7d.out; have q10 := ZZw8.out; have q11 := ZZw9.out; have q12 := ZZw10.out; have q13 := ZZw11.out; have q14 := HL0.out; have q15 := HX0.out; have := LTs0.out k hk; have := LTg0.out j hj; omega)
  have Ka0_w12 : Hid (Bo.Box w12 w.heap.size (.int .i64 a0_0) (.int .i64 a0_1) (.slice s0 L0.length c0)) := Ka0_w11.out.apart g (fun k hk => by have q0 := ZZwa.out; have q1 := ZZw1.out; have q2 := ZZw2.out; have q3 := ZZw3.out; have q4 := ZZw4.out; have q5 := ZZZw5.out; have q6 := ZZw5.out; have q7 := ZZw6.out; have q8 := ZZw7.out; have q9 := ZZw7d.out; have q10 := ZZw8.out; have q11 := ZZw9.out; have q12 := ZZw10.out; have q13 := ZZw11.out; have q14 := HL0.out; have q15 := HX0.out; have := LTg0.out k hk; omega)
  have Rg0_w12 : Hid (w12.ownsRow w5.heap.size 2 1 ug0 X0.length (ints (sq (1) X0.length))) := r
  clear r g
  clear Rs0_w11 Rg0_w11 Ka0_w11
  go_wp2_with fail
  refine (held_any w12 _ X0.length (1) (by have q0 := ZZwa.out; have q1 := ZZw1.out; have q2 := ZZw2.out; have q3 := ZZw3.out; have q4 := ZZw4.out; have q5 := ZZZw5.out; have q6 := ZZw5.out; have q7 := ZZw6.out; have q8 := ZZw7.out; have q9 := ZZw7d.out; have q10 := ZZw8.out; have q11 := ZZw9.out; have q12 := ZZw10.out; have q13 := ZZw11.out; have q14 := ZZw12.out; have q15 := HL0.out; have q16 := HX0.out; omega) (by have q0 := ZZwa.out; have q1 := ZZw1.out; have q2 := ZZw2.out; have q3 := ZZw3.out; have q4 := ZZw4.out; have q5 := ZZZw5.out; have q6 := ZZw5.out; have q7 := ZZw6.out; have q8 := ZZw7.out; have q9 := ZZw7d.out; have q10 := ZZw8.out; have q11 := ZZw9.out; have q12 := ZZw10.out; have q13 := ZZw11.out; have q14 := ZZw12.out; have q15 := HL0.out; have q16 := HX0.out; omega) (by have := HX0.out; omega) (Lists.reads_row (L := sq (1) X0.length) (by rw [sq_len]; exact Rg0_w12.out))).mono ?_
  rintro e w13 ⟨rfl, mw13, hw⟩
  have ZZw13 : Hid (w13.heap.size = w12.heap.size) := (by show _ = _; rw [hw]; rfl)
  have BBw13 : Hid (Below w.heap.size w w13) := (by show Below _ _ _; rw [hw]; exact below_drewN BBw12.out _)
  have Rs0_w13 : Hid (w13.ownsRow w2.heap.size 2 1 us0 X0.length (ints X0)) := (by show World.ownsRow _ _ _ _ _ _ _; rw [hw]; exact Rs0_w12.out)
  have Rg0_w13 : Hid (w13.ownsRow w5.heap.size 2 1 ug0 X0.length (ints (sq (1) X0.length))) := (by show World.ownsRow _ _ _ _ _ _ _; rw [hw]; exact Rg0_w12.out)
  have Ka0_w13 : Hid (Bo.Box w13 w.heap.size (.int .i64 a0_0) (.int .i64 a0_1) (.slice s0 L0.length c0)) := (by show Bo.Box _ _ _ _ _; rw [hw]; exact Ka0_w12.out)
  clear hw
  clear Rs0_w12 Rg0_w12 Ka0_w12
  obtain ⟨ca0_0, ca0_1, ca0_2⟩ := Ka0_w13.out
  go_wp2_with fail
  refine (TO0.out HL0.out w13 BBw13.out).mono ?_
  rintro e w14 ⟨gq0, rfl, r, b⟩
  clear ca0_0 ca0_1 ca0_2
  have ZZw14 : Hid (w13.heap.size ≤ w14.heap.size) := b.size
  have BBw14 : Hid (Below w.heap.size w w14) := BBw13.out.trans (b.mono BBw13.out.size)
  have Rs0_w14 : Hid (w14.ownsRow w2.heap.size 2 1 us0 X0.length (ints X0)) := row_on Rs0_w13.out b
  have Rg0_w14 : Hid (w14.ownsRow w5.heap.size 2 1 ug0 X0.length (ints (sq (1) X0.length))) := row_on Rg0_w13.out b
  have Ka0_w14 : Hid (Bo.Box w14 w.heap.size (.int .i64 a0_0) (.int .i64 a0_1) (.slice s0 L0.length c0)) := Ka0_w13.out.on b (by have q0 := ZZwa.out; have q1 := ZZw1.out; have q2 := ZZw2.out; have q3 := ZZw3.out; have q4 := ZZw4.out; have q5 := ZZZw5.out; have q6 := ZZw5.out; have q7 := ZZw6.out; have q8 := ZZw7.out; have q9 := ZZw7d.out; have q10 := ZZw8.out; have q11 := ZZw9.out; have q12 := ZZw10.out; have q13 := ZZw11.out; have q14 := ZZw12.out; have q15 := ZZw13.out; have q16 := HL0.out; have q17 := HX0.out; omega)
  have Rq0_w14 : Hid (w14.ownsRow w13.heap.size 2 1 (.slice (some ⟨gq0, 0, none⟩) L0.length L0.length) L0.length (ints L0)) := r
  have LTq0 : Hid (∀ k, (Value.slice (some ⟨gq0, 0, none⟩) L0.length L0.length).ownBlock = some k → w13.heap.size ≤ k ∧ k < w14.heap.size) := fun k hk => Rq0_w14.out.lt k hk
  clear r b
  clear Rs0_w13 Rg0_w13 Ka0_w13
  go_wp2_with fail
  refine (IU.out w14 _ _ Rq0_w14.out).mono ?_
  rintro e w15 ⟨uh0, rfl, rr0, b⟩
  have ZZw15 : Hid (w14.heap.size ≤ w15.heap.size) := b.size
  have BBw15 : Hid (Below w.heap.size w w15) := BBw14.out.trans (b.mono BBw14.out.size)
  have Rs0_w15 : Hid (w15.ownsRow w2.heap.size 2 1 us0 X0.length (ints X0)) := row_on Rs0_w14.out b
  have Rg0_w15 : Hid (w15.ownsRow w5.heap.size 2 1 ug0 X0.length (ints (sq (1) X0.length))) := row_on Rg0_w14.out b
  have Rq0_w15 : Hid (w15.ownsRow w13.heap.size 2 1 (.slice (some ⟨gq0, 0, none⟩) L0.length L0.length) L0.length (ints L0)) := row_on Rq0_w14.out b
  have Ka0_w15 : Hid (Bo.Box w15 w.heap.size (.int .i64 a0_0) (.int .i64 a0_1) (.slice s0 L0.length c0)) := Ka0_w14.out.on b (by have q0 := ZZwa.out; have q1 := ZZw1.out; have q2 := ZZw2.out; have q3 := ZZw3.out; have q4 := ZZw4.out; have q5 := ZZZw5.out; have q6 := ZZw5.out; have q7 := ZZw6.out; have q8 := ZZw7.out; have q9 := ZZw7d.out; have q10 := ZZw8.out; have q11 := ZZw9.out; have q12 := ZZw10.out; have q13 := ZZw11.out; have q14 := ZZw12.out; have q15 := ZZw13.out; have q16 := ZZw14.out; have q17 := HL0.out; have q18 := HX0.out; omega)
  have Rh0_w15 : Hid (w15.ownsRow w14.heap.size 2 1 uh0 X0.length (ints X0)) := rr0
  have LTh0 : Hid (∀ k, uh0.ownBlock = some k → w14.heap.size ≤ k ∧ k < w15.heap.size) := fun k hk => Rh0_w15.out.lt k hk
  clear rr0
  clear b
  clear Rs0_w14 Rg0_w14 Rq0_w14 Ka0_w14
  clear Rq0_w15
  go_wp2_with fail
  refine (eq_same _ _ _ _ _ X0 Rh0_w15.out Rs0_w15.out).mono ?_
  rintro e w16 ⟨rfl, mw16, hw⟩
  have ZZw16 : Hid (w16.heap.size = w15.heap.size) := (by show _ = _; rw [hw]; rfl)
  have BBw16 : Hid (Below w.heap.size w w16) := (by show Below _ _ _; rw [hw]; exact below_drewN BBw15.out _)
  have Rs0_w16 : Hid (w16.ownsRow w2.heap.size 2 1 us0 X0.length (ints X0)) := (by show World.ownsRow _ _ _ _ _ _ _; rw [hw]; exact Rs0_w15.out)
  have Rg0_w16 : Hid (w16.ownsRow w5.heap.size 2 1 ug0 X0.length (ints (sq (1) X0.length))) := (by show World.ownsRow _ _ _ _ _ _ _; rw [hw]; exact Rg0_w15.out)
  have Rh0_w16 : Hid (w16.ownsRow w14.heap.size 2 1 uh0 X0.length (ints X0)) := (by show World.ownsRow _ _ _ _ _ _ _; rw [hw]; exact Rh0_w15.out)
  have Ka0_w16 : Hid (Bo.Box w16 w.heap.size (.int .i64 a0_0) (.int .i64 a0_1) (.slice s0 L0.length c0)) := (by show Bo.Box _ _ _ _ _; rw [hw]; exact Ka0_w15.out)
  clear hw
  clear Rs0_w15 Rg0_w15 Rh0_w15 Ka0_w15
  go_wp2_with fail
  refine (held_any w16 _ X0.length (1) (by have q0 := ZZwa.out; have q1 := ZZw1.out; have q2 := ZZw2.out; have q3 := ZZw3.out; have q4 := ZZw4.out; have q5 := ZZZw5.out; have q6 := ZZw5.out; have q7 := ZZw6.out; have q8 := ZZw7.out; have q9 := ZZw7d.out; have q10 := ZZw8.out; have q11 := ZZw9.out; have q12 := ZZw10.out; have q13 := ZZw11.out; have q14 := ZZw12.out; have q15 := ZZw13.out; have q16 := ZZw14.out; have q17 := ZZw15.out; have q18 := ZZw16.out; have q19 := HL0.out; have q20 := HX0.out; omega) (by have q0 := ZZwa.out; have q1 := ZZw1.out; have q2 := ZZw2.out; have q3 := ZZw3.out; have q4 := ZZw4.out; have q5 := ZZZw5.out; have q6 := ZZw5.out; have q7 := ZZw6.out; have q8 := ZZw7.out; have q9 := ZZw7d.out; have q10 := ZZw8.out; have q11 := ZZw9.out; have q12 := ZZw10.out; have q13 := ZZw11.out; have q14 := ZZw12.out; have q15 := ZZw13.out; have q16 := ZZw14.out; have q17 := ZZw15.out; have q18 := ZZw16.out; have q19 := HL0.out; have q20 := HX0.out; omega) (by have := HX0.out; omega) (Lists.reads_row (L := sq (1) X0.length) (by rw [sq_len]; exact Rg0_w16.out))).mono ?_
  rintro e w17 ⟨rfl, mw17, hw⟩
  have ZZw17 : Hid (w17.heap.size = w16.heap.size) := (by show _ = _; rw [hw]; rfl)
  have BBw17 : Hid (Below w.heap.size w w17) := (by show Below _ _ _; rw [hw]; exact below_drewN BBw16.out _)
  have Rs0_w17 : Hid (w17.ownsRow w2.heap.size 2 1 us0 X0.length (ints X0)) := (by show World.ownsRow _ _ _ _ _ _ _; rw [hw]; exact Rs0_w16.out)
  have Rg0_w17 : Hid (w17.ownsRow w5.heap.size 2 1 ug0 X0.length (ints (sq (1) X0.length))) := (by show World.ownsRow _ _ _ _ _ _ _; rw [hw]; exact Rg0_w16.out)
  have Rh0_w17 : Hid (w17.ownsRow w14.heap.size 2 1 uh0 X0.length (ints X0)) := (by show World.ownsRow _ _ _ _ _ _ _; rw [hw]; exact Rh0_w16.out)
  have Ka0_w17 : Hid (Bo.Box w17 w.heap.size (.int .i64 a0_0) (.int .i64 a0_1) (.slice s0 L0.length c0)) := (by show Bo.Box _ _ _ _ _; rw [hw]; exact Ka0_w16.out)
  clear hw
  clear Rs0_w16 Rg0_w16 Rh0_w16 Ka0_w16
  go_wp2_with fail
  go_ret
  exact ⟨rfl, BBw17.out⟩
end Go.Proofs.Ythmknlejnnnbaaa.LawClL
