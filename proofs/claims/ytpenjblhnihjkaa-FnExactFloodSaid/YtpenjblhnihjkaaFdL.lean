/- The law walked; what model and program answer comes in as hypotheses. -/
import Derived.Test.YtpenjblhnihjkaaBk
namespace Go.Proofs.Ytpenjblhnihjkaa.LawFdL
open Go.ChangeShapes Go.WideShapes Go.ChangeAt Go.RowKit
open Go.Proofs.Ytpenjblhnihjkaa.Lists

theorem below_drewN {B : Nat} {a w : World} (h : Below B a w) (n : Nat) : Below B a (w.drewN n) := h.trans ⟨rfl, rfl, rfl, Nat.le_refl _, fun _ _ => rfl⟩
theorem row_on {w w' : World} {base n : Nat} {v : Value} {xs : List Value} (h : w.ownsRow base 2 1 v n xs) (hb : Below w.heap.size w w') : w'.ownsRow base 2 1 v n xs := by
  refine h.kept (row := none) ⟨hb.os, hb.tape, hb.output, hb.size, fun k hk _ => hb.block k hk⟩ ?_
  by_cases e : v.ownBlock = none
  · exact Or.inl e
  · exact Or.inr e
theorem row_off {w w' : World} {base n : Nat} {row : Option Nat} {v : Value} {xs : List Value} (h : w.ownsRow base 2 1 v n xs) (hg : w.grownBy w' row) (hne : ∀ k j, v.ownBlock = some k → row = some j → k ≠ j) : w'.ownsRow base 2 1 v n xs := by
  refine h.kept hg ?_
  cases e : v.ownBlock with
  | none => exact Or.inl rfl
  | some k => exact Or.inr fun x => hne k k e x.symm rfl

set_option maxRecDepth 20000 in
set_option maxHeartbeats 2000000 in
theorem floodLaw (w : World) (a0_1 a0_2 : Int) (v0 : Value) (L0 : List Int) (h0 : Lists.Reads w v0 L0) (f0 : L0.length < 9223372036854775808) (v1 : Value) (L1 : List Int) (h1 : Lists.Reads w v1 L1) (f1 : L1.length < 9223372036854775808) (X0 : List Int) (hX0 : X0.length ≤ 1000)
    (SA : ∀ (w : World) (t0 t1 : Value), Lists.Reads w t0 L0 → Lists.Reads w t1 L1 → Calls Try.prog 6 #[Bk.sv a0_1 a0_2 t0, t1] w fun e w' => ∃ u0, e = .returned (u0) ∧ w'.ownsRow w.heap.size 2 1 u0 X0.length (ints X0) ∧ Below w.heap.size w w')
    (IA : ∀ (w : World) (t0 t1 : Value), Lists.Reads w t0 L0 → Lists.Reads w t1 L1 → Calls Try.prog 9 #[Bk.sv a0_1 a0_2 t0, t1] w fun e w' => ∃ u0, e = .returned (u0) ∧ w'.ownsRow w.heap.size 2 1 u0 X0.length (ints X0) ∧ Below w.heap.size w w') :
    Calls Try.prog 3 #[Bk.sv a0_1 a0_2 v0, v1] w fun e w' => e = .returned (.bool true) ∧ Below w.heap.size w w' := by
  obtain ⟨s0, c0, rfl⟩ := h0.form
  obtain ⟨s1, c1, rfl⟩ := h1.form
  by_cases g1 : 1048576 < L1.length
  · have i1 : (1048576 : Int) < (L1.length : Int) := by omega
    have EB : Hid (Below w.heap.size w (w.alloc (Obj.cells #[.slice s0 L0.length c0, .int .i64 a0_1, .int .i64 a0_2] 24))) := ((Below.refl w.heap.size w).alloc (Nat.le_refl _) _)
    go_enter Try.func3, Try.ntmps3
    go_wp2_with fail
    go_ret
    exact ⟨rfl, EB.out⟩
  have j1 : ¬ (1048576 : Int) < (L1.length : Int) := by omega
  have SZ0 : Hid (∀ (w' : World) (l : Int), 0 ≤ l → l ≤ 1048576 → Calls Try.prog 5 #[Bk.sv a0_1 a0_2 (.slice s0 L0.length c0), .int .i64 l] w' fun e w'' => (∃ r : Int, e = .returned (.int .i64 r) ∧ (0 ≤ r → L0.length ≤ 1048576) ∧ r ≤ 1048576) ∧ Below w'.heap.size w' w'') := fun w' l q0 q1 => Bk.sz_any a0_1 a0_2 s0 L0.length c0 l w' q0 q1 f0
  have TO0 : Hid (L0.length ≤ 1048576 → ∀ w', Below w.heap.size w w' → Calls Try.prog 7 #[Bk.sv a0_1 a0_2 (.slice s0 L0.length c0)] w' fun e w'' => ∃ g, e = .returned (Bk.sv a0_1 a0_2 (.slice (some ⟨g, 0, none⟩) L0.length L0.length)) ∧ w''.ownsRow w'.heap.size 2 1 (.slice (some ⟨g, 0, none⟩) L0.length L0.length) L0.length (ints L0) ∧ Below w'.heap.size w' w'') := fun hl w' hb => Bk.to_st a0_1 a0_2 L0 _ w' (h0.on hb) hl
  have EQ0 : Hid (∀ w' A B t u, w'.ownsRow A 2 1 t L0.length (ints L0) → w'.ownsRow B 2 1 u L0.length (ints L0) → Calls Try.prog 11 #[Bk.sv a0_1 a0_2 t, Bk.sv a0_1 a0_2 u] w' fun e w'' => e = .returned (.bool true) ∧ Below w'.heap.size w' w'') := fun w' A B t u h h' => Bk.eq_st a0_1 a0_2 L0 t u A B w' h h'
  have TO1 : Hid (∀ w', Below w.heap.size w w' → Calls Try.prog 8 #[.slice s1 L1.length c1] w' fun e w'' => e = .returned (.slice (some ⟨w'.heap.size, 0, none⟩) L1.length L1.length) ∧ w''.ownsRow w'.heap.size 2 1 (.slice (some ⟨w'.heap.size, 0, none⟩) L1.length L1.length) L1.length (ints L1) ∧ Below w'.heap.size w' w'') := fun w' hb => to_any w' _ L1 (h1.on hb) (by omega)
  have SU : Hid (∀ (w' : World) (B0 B1 : Nat) (t0 t1 : Value), w'.ownsRow B0 2 1 t0 L0.length (ints L0) → w'.ownsRow B1 2 1 t1 L1.length (ints L1) → Calls Try.prog 6 #[Bk.sv a0_1 a0_2 t0, t1] w' fun e w'' => ∃ u0, e = .returned (u0) ∧ w''.ownsRow w'.heap.size 2 1 u0 X0.length (ints X0) ∧ Below w'.heap.size w' w'') := fun w' B0 B1 t0 t1 o0 o1 => SA w' t0 t1 (Lists.reads_row o0) (Lists.reads_row o1)
  have IU : Hid (∀ (w' : World) (B0 B1 : Nat) (t0 t1 : Value), w'.ownsRow B0 2 1 t0 L0.length (ints L0) → w'.ownsRow B1 2 1 t1 L1.length (ints L1) → Calls Try.prog 9 #[Bk.sv a0_1 a0_2 t0, t1] w' fun e w'' => ∃ u0, e = .returned (u0) ∧ w''.ownsRow w'.heap.size 2 1 u0 X0.length (ints X0) ∧ Below w'.heap.size w' w'') := fun w' B0 B1 t0 t1 o0 o1 => IA w' t0 t1 (Lists.reads_row o0) (Lists.reads_row o1)
  have hbb : ∀ b : Bool, (b != b) = false := fun b => by cases b <;> rfl
  have hii : ∀ b : Int, (b != b) = false := fun b => by simp
  have hqq : ((1 : Int) + (X0.length : Int) != 1 + (X0.length : Int)) = false := by simp
  have hq0 : ¬ (1 : Int) + (X0.length : Int) < 0 := by omega
  have hq1 : ¬ (1 : Int) + (L0.length : Int) + (L1.length : Int) < 0 := by omega
  have HL1 : Hid (L1.length ≤ 1048576) := (by show _ ≤ _; omega)
  have HX0 : Hid (X0.length ≤ 1000) := hX0
  clear SA IA hX0 h0 h1 g1 f0 f1
  obtain ⟨wa, hwa⟩ : ∃ wa, wa = (w.alloc (Obj.cells #[.slice s0 L0.length c0, .int .i64 a0_1, .int .i64 a0_2] 24)) := ⟨_, rfl⟩
  have HWA : Hid (wa = (w.alloc (Obj.cells #[.slice s0 L0.length c0, .int .i64 a0_1, .int .i64 a0_2] 24))) := hwa
  have BBwa : Hid (Below w.heap.size w wa) := (by show Below _ _ _; rw [hwa]; exact ((Below.refl w.heap.size w).alloc (Nat.le_refl _) _))
  have ZZwa : Hid (wa.heap.size = w.heap.size + 1) := (by show _ = _; rw [hwa]; simp)
  have Ka0_wa : Hid (Bk.Box wa w.heap.size (.slice s0 L0.length c0) (.int .i64 a0_1) (.int .i64 a0_2)) := (by show Bk.Box _ _ _ _ _; rw [hwa]; unfold Bk.Box; simp [go_sem])
  clear hwa
  go_enter Try.func3, Try.ntmps3
  obtain ⟨ca0_0, ca0_1, ca0_2⟩ := Ka0_wa.out
  go_wp2_with fail
  rw [← HWA.out]
  clear HWA
  refine (SZ0.out wa 1048576 (by omega) (by omega)).mono ?_
  rintro e w1 ⟨⟨z0, rfl, y0, l0⟩, b⟩
  clear ca0_0 ca0_1 ca0_2
  have ZZw1 : Hid (wa.heap.size ≤ w1.heap.size) := b.size
  have BBw1 : Hid (Below w.heap.size w w1) := BBwa.out.trans (b.mono BBwa.out.size)
  have Ka0_w1 : Hid (Bk.Box w1 w.heap.size (.slice s0 L0.length c0) (.int .i64 a0_1) (.int .i64 a0_2)) := Ka0_wa.out.on b (by have q0 := ZZwa.out; have q1 := HL1.out; have q2 := HX0.out; omega)
  clear b
  clear Ka0_wa
  by_cases hneg0 : z0 < 0
  · go_wp2_with fail
    go_ret
    exact ⟨rfl, BBw1.out⟩
  have HL0 : Hid (L0.length ≤ 1048576) := y0 (by omega)
  obtain ⟨ca0_0, ca0_1, ca0_2⟩ := Ka0_w1.out
  go_wp2_with fail
  refine (TO0.out HL0.out w1 BBw1.out).mono ?_
  rintro e w2 ⟨gp0, rfl, r, b⟩
  clear ca0_0 ca0_1 ca0_2
  have ZZw2 : Hid (w1.heap.size ≤ w2.heap.size) := b.size
  have BBw2 : Hid (Below w.heap.size w w2) := BBw1.out.trans (b.mono BBw1.out.size)
  have Ka0_w2 : Hid (Bk.Box w2 w.heap.size (.slice s0 L0.length c0) (.int .i64 a0_1) (.int .i64 a0_2)) := Ka0_w1.out.on b (by have q0 := ZZwa.out; have q1 := ZZw1.out; have q2 := HL0.out; have q3 := HL1.out; have q4 := HX0.out; omega)
  have Rp0_w2 : Hid (w2.ownsRow w1.heap.size 2 1 (.slice (some ⟨gp0, 0, none⟩) L0.length L0.length) L0.length (ints L0)) := r
  have LTp0 : Hid (∀ k, (Value.slice (some ⟨gp0, 0, none⟩) L0.length L0.length).ownBlock = some k → w1.heap.size ≤ k ∧ k < w2.heap.size) := fun k hk => Rp0_w2.out.lt k hk
  clear r b
  clear Ka0_w1
  go_wp2_with fail
  refine (TO1.out w2 BBw2.out).mono ?_
  rintro e w3 ⟨rfl, r, b⟩
  have ZZw3 : Hid (w2.heap.size ≤ w3.heap.size) := b.size
  have BBw3 : Hid (Below w.heap.size w w3) := BBw2.out.trans (b.mono BBw2.out.size)
  have Rp0_w3 : Hid (w3.ownsRow w1.heap.size 2 1 (.slice (some ⟨gp0, 0, none⟩) L0.length L0.length) L0.length (ints L0)) := row_on Rp0_w2.out b
  have Ka0_w3 : Hid (Bk.Box w3 w.heap.size (.slice s0 L0.length c0) (.int .i64 a0_1) (.int .i64 a0_2)) := Ka0_w2.out.on b (by have q0 := ZZwa.out; have q1 := ZZw1.out; have q2 := ZZw2.out; have q3 := HL0.out; have q4 := HL1.out; have q5 := HX0.out; omega)
  have Rp1_w3 : Hid (w3.ownsRow w2.heap.size 2 1 (.slice (some ⟨w2.heap.size, 0, none⟩) L1.length L1.length) L1.length (ints L1)) := r
  have LTp1 : Hid (∀ k, (Value.slice (some ⟨w2.heap.size, 0, none⟩) L1.length L1.length).ownBlock = some k → w2.heap.size ≤ k ∧ k < w3.heap.size) := fun k hk => Rp1_w3.out.lt k hk
  clear r b
  clear Rp0_w2 Ka0_w2
  go_wp2_with fail
  refine (SU.out w3 _ _ _ _ Rp0_w3.out Rp1_w3.out).mono ?_
  rintro e w4 ⟨us0, rfl, rr0, b⟩
  have ZZw4 : Hid (w3.heap.size ≤ w4.heap.size) := b.size
  have BBw4 : Hid (Below w.heap.size w w4) := BBw3.out.trans (b.mono BBw3.out.size)
  have Rp0_w4 : Hid (w4.ownsRow w1.heap.size 2 1 (.slice (some ⟨gp0, 0, none⟩) L0.length L0.length) L0.length (ints L0)) := row_on Rp0_w3.out b
  have Rp1_w4 : Hid (w4.ownsRow w2.heap.size 2 1 (.slice (some ⟨w2.heap.size, 0, none⟩) L1.length L1.length) L1.length (ints L1)) := row_on Rp1_w3.out b
  have Ka0_w4 : Hid (Bk.Box w4 w.heap.size (.slice s0 L0.length c0) (.int .i64 a0_1) (.int .i64 a0_2)) := Ka0_w3.out.on b (by have q0 := ZZwa.out; have q1 := ZZw1.out; have q2 := ZZw2.out; have q3 := ZZw3.out; have q4 := HL0.out; have q5 := HL1.out; have q6 := HX0.out; omega)
  have Rs0_w4 : Hid (w4.ownsRow w3.heap.size 2 1 us0 X0.length (ints X0)) := rr0
  have LTs0 : Hid (∀ k, us0.ownBlock = some k → w3.heap.size ≤ k ∧ k < w4.heap.size) := fun k hk => Rs0_w4.out.lt k hk
  clear rr0
  clear b
  clear Rp0_w3 Rp1_w3 Ka0_w3
  clear Rp0_w4
  clear Rp1_w4
  obtain ⟨ca0_0, ca0_1, ca0_2⟩ := Ka0_w4.out
  go_wp2_with fail
  refine (TO0.out HL0.out w4 BBw4.out).mono ?_
  rintro e w5 ⟨gx0, rfl, r, b⟩
  clear ca0_0 ca0_1 ca0_2
  have ZZw5 : Hid (w4.heap.size ≤ w5.heap.size) := b.size
  have BBw5 : Hid (Below w.heap.size w w5) := BBw4.out.trans (b.mono BBw4.out.size)
  have Rs0_w5 : Hid (w5.ownsRow w3.heap.size 2 1 us0 X0.length (ints X0)) := row_on Rs0_w4.out b
  have Ka0_w5 : Hid (Bk.Box w5 w.heap.size (.slice s0 L0.length c0) (.int .i64 a0_1) (.int .i64 a0_2)) := Ka0_w4.out.on b (by have q0 := ZZwa.out; have q1 := ZZw1.out; have q2 := ZZw2.out; have q3 := ZZw3.out; have q4 := ZZw4.out; have q5 := HL0.out; have q6 := HL1.out; have q7 := HX0.out; omega)
  have Rx0_w5 : Hid (w5.ownsRow w4.heap.size 2 1 (.slice (some ⟨gx0, 0, none⟩) L0.length L0.length) L0.length (ints L0)) := r
  have LTx0 : Hid (∀ k, (Value.slice (some ⟨gx0, 0, none⟩) L0.length L0.length).ownBlock = some k → w4.heap.size ≤ k ∧ k < w5.heap.size) := fun k hk => Rx0_w5.out.lt k hk
  clear r b
  clear Rs0_w4 Ka0_w4
  obtain ⟨w6, hw6⟩ : ∃ wz, wz = w5.alloc (Obj.cells #[.slice (some ⟨gx0, 0, none⟩) L0.length L0.length, .int .i64 a0_1, .int .i64 a0_2] 27) := ⟨_, rfl⟩
  have HWw6 : Hid (w6 = w5.alloc (Obj.cells #[.slice (some ⟨gx0, 0, none⟩) L0.length L0.length, .int .i64 a0_1, .int .i64 a0_2] 27)) := hw6
  have b : Below w5.heap.size w5 w6 := by rw [hw6]; exact (Below.refl _ _).alloc (Nat.le_refl _) _
  have ZZZw6 : Hid (w6.heap.size = w5.heap.size + 1) := (by show _ = _; rw [hw6]; simp)
  have ZZw6 : Hid (w5.heap.size ≤ w6.heap.size) := b.size
  have BBw6 : Hid (Below w.heap.size w w6) := BBw5.out.trans (b.mono BBw5.out.size)
  have Rs0_w6 : Hid (w6.ownsRow w3.heap.size 2 1 us0 X0.length (ints X0)) := row_on Rs0_w5.out b
  have Rx0_w6 : Hid (w6.ownsRow w4.heap.size 2 1 (.slice (some ⟨gx0, 0, none⟩) L0.length L0.length) L0.length (ints L0)) := row_on Rx0_w5.out b
  have Ka0_w6 : Hid (Bk.Box w6 w.heap.size (.slice s0 L0.length c0) (.int .i64 a0_1) (.int .i64 a0_2)) := Ka0_w5.out.on b (by have q0 := ZZwa.out; have q1 := ZZw1.out; have q2 := ZZw2.out; have q3 := ZZw3.out; have q4 := ZZw4.out; have q5 := ZZw5.out; have q6 := ZZZw6.out; have q7 := HL0.out; have q8 := HL1.out; have q9 := HX0.out; omega)
  have Kx0_w6 : Hid (Bk.Box w6 w5.heap.size (.slice (some ⟨gx0, 0, none⟩) L0.length L0.length) (.int .i64 a0_1) (.int .i64 a0_2)) := (by show Bk.Box _ _ _ _ _; rw [hw6]; unfold Bk.Box; simp [go_sem])
  clear b hw6
  clear Rs0_w5 Rx0_w5 Ka0_w5
  go_wp2_with fail
  rw [← HWw6.out]
  clear HWw6
  refine (TO1.out w6 BBw6.out).mono ?_
  rintro e w7 ⟨rfl, r, b⟩
  have ZZw7 : Hid (w6.heap.size ≤ w7.heap.size) := b.size
  have BBw7 : Hid (Below w.heap.size w w7) := BBw6.out.trans (b.mono BBw6.out.size)
  have Rs0_w7 : Hid (w7.ownsRow w3.heap.size 2 1 us0 X0.length (ints X0)) := row_on Rs0_w6.out b
  have Rx0_w7 : Hid (w7.ownsRow w4.heap.size 2 1 (.slice (some ⟨gx0, 0, none⟩) L0.length L0.length) L0.length (ints L0)) := row_on Rx0_w6.out b
  have Ka0_w7 : Hid (Bk.Box w7 w.heap.size (.slice s0 L0.length c0) (.int .i64 a0_1) (.int .i64 a0_2)) := Ka0_w6.out.on b (by have q0 := ZZwa.out; have q1 := ZZw1.out; have q2 := ZZw2.out; have q3 := ZZw3.out; have q4 := ZZw4.out; have q5 := ZZw5.out; have q6 := ZZZw6.out; have q7 := ZZw6.out; have q8 := HL0.out; have q9 := HL1.out; have q10 := HX0.out; omega)
  have Kx0_w7 : Hid (Bk.Box w7 w5.heap.size (.slice (some ⟨gx0, 0, none⟩) L0.length L0.length) (.int .i64 a0_1) (.int .i64 a0_2)) := Kx0_w6.out.on b (by have q0 := ZZwa.out; have q1 := ZZw1.out; have q2 := ZZw2.out; have q3 := ZZw3.out; have q4 := ZZw4.out; have q5 := ZZw5.out; have q6 := ZZZw6.out; have q7 := ZZw6.out; have q8 := HL0.out; have q9 := HL1.out; have q10 := HX0.out; omega)
  have Rx1_w7 : Hid (w7.ownsRow w6.heap.size 2 1 (.slice (some ⟨w6.heap.size, 0, none⟩) L1.length L1.length) L1.length (ints L1)) := r
  have LTx1 : Hid (∀ k, (Value.slice (some ⟨w6.heap.size, 0, none⟩) L1.length L1.length).ownBlock = some k → w6.heap.size ≤ k ∧ k < w7.heap.size) := fun k hk => Rx1_w7.out.lt k hk
  clear r b
  clear Rs0_w6 Rx0_w6 Ka0_w6 Kx0_w6
  obtain ⟨cx0_0, cx0_1, cx0_2⟩ := Kx0_w7.out
  go_wp2_with fail
  refine (IU.out w7 _ _ _ _ Rx0_w7.out Rx1_w7.out).mono ?_
  rintro e w8 ⟨ug0, rfl, rr0, b⟩
  clear cx0_0 cx0_1 cx0_2
  have ZZw8 : Hid (w7.heap.size ≤ w8.heap.size) := b.size
  have BBw8 : Hid (Below w.heap.size w w8) := BBw7.out.trans (b.mono BBw7.out.size)
  have Rs0_w8 : Hid (w8.ownsRow w3.heap.size 2 1 us0 X0.length (ints X0)) := row_on Rs0_w7.out b
  have Rx0_w8 : Hid (w8.ownsRow w4.heap.size 2 1 (.slice (some ⟨gx0, 0, none⟩) L0.length L0.length) L0.length (ints L0)) := row_on Rx0_w7.out b
  have Rx1_w8 : Hid (w8.ownsRow w6.heap.size 2 1 (.slice (some ⟨w6.heap.size, 0, none⟩) L1.length L1.length) L1.length (ints L1)) := row_on Rx1_w7.out b
  have Ka0_w8 : Hid (Bk.Box w8 w.heap.size (.slice s0 L0.length c0) (.int .i64 a0_1) (.int .i64 a0_2)) := Ka0_w7.out.on b (by have q0 := ZZwa.out; have q1 := ZZw1.out; have q2 := ZZw2.out; have q3 := ZZw3.out; have q4 := ZZw4.out; have q5 := ZZw5.out; have q6 := ZZZw6.out; have q7 := ZZw6.out; have q8 := ZZw7.out; have q9 := HL0.out; have q10 := HL1.out; have q11 := HX0.out; omega)
  have Kx0_w8 : Hid (Bk.Box w8 w5.heap.size (.slice (some ⟨gx0, 0, none⟩) L0.length L0.length) (.int .i64 a0_1) (.int .i64 a0_2)) := Kx0_w7.out.on b (by have q0 := ZZwa.out; have q1 := ZZw1.out; have q2 := ZZw2.out; have q3 := ZZw3.out; have q4 := ZZw4.out; have q5 := ZZw5.out; have q6 := ZZZw6.out; have q7 := ZZw6.out; have q8 := ZZw7.out; have q9 := HL0.out; have q10 := HL1.out; have q11 := HX0.out; omega)
  have Rg0_w8 : Hid (w8.ownsRow w7.heap.size 2 1 ug0 X0.length (ints X0)) := rr0
  have LTg0 : Hid (∀ k, ug0.ownBlock = some k → w7.heap.size ≤ k ∧ k < w8.heap.size) := fun k hk => Rg0_w8.out.lt k hk
  clear rr0
  clear b
  clear Rs0_w7 Rx0_w7 Rx1_w7 Ka0_w7 Kx0_w7
  go_wp2_with fail
  refine (eq_same _ _ _ _ _ X0 Rg0_w8.out Rs0_w8.out).mono ?_
  rintro e w9 ⟨rfl, mw9, hw⟩
  have ZZw9 : Hid (w9.heap.size = w8.heap.size) := (by show _ = _; rw [hw]; rfl)
  have BBw9 : Hid (Below w.heap.size w w9) := (by show Below _ _ _; rw [hw]; exact below_drewN BBw8.out _)
  have Rs0_w9 : Hid (w9.ownsRow w3.heap.size 2 1 us0 X0.length (ints X0)) := (by show World.ownsRow _ _ _ _ _ _ _; rw [hw]; exact Rs0_w8.out)
  have Rx0_w9 : Hid (w9.ownsRow w4.heap.size 2 1 (.slice (some ⟨gx0, 0, none⟩) L0.length L0.length) L0.length (ints L0)) := (by show World.ownsRow _ _ _ _ _ _ _; rw [hw]; exact Rx0_w8.out)
  have Rx1_w9 : Hid (w9.ownsRow w6.heap.size 2 1 (.slice (some ⟨w6.heap.size, 0, none⟩) L1.length L1.length) L1.length (ints L1)) := (by show World.ownsRow _ _ _ _ _ _ _; rw [hw]; exact Rx1_w8.out)
  have Rg0_w9 : Hid (w9.ownsRow w7.heap.size 2 1 ug0 X0.length (ints X0)) := (by show World.ownsRow _ _ _ _ _ _ _; rw [hw]; exact Rg0_w8.out)
  have Ka0_w9 : Hid (Bk.Box w9 w.heap.size (.slice s0 L0.length c0) (.int .i64 a0_1) (.int .i64 a0_2)) := (by show Bk.Box _ _ _ _ _; rw [hw]; exact Ka0_w8.out)
  have Kx0_w9 : Hid (Bk.Box w9 w5.heap.size (.slice (some ⟨gx0, 0, none⟩) L0.length L0.length) (.int .i64 a0_1) (.int .i64 a0_2)) := (by show Bk.Box _ _ _ _ _; rw [hw]; exact Kx0_w8.out)
  clear hw
  clear Rs0_w8 Rx0_w8 Rx1_w8 Rg0_w8 Ka0_w8 Kx0_w8
  obtain ⟨ca0_0, ca0_1, ca0_2⟩ := Ka0_w9.out
  obtain ⟨cx0_0, cx0_1, cx0_2⟩ := Kx0_w9.out
  have BBw9d : Hid (Below w.heap.size w w9.drew) := below_drewN BBw9.out 1
  have Rs0_w9d : Hid (w9.drew.ownsRow w3.heap.size 2 1 us0 X0.length (ints X0)) := Rs0_w9.out
  have Rx0_w9d : Hid (w9.drew.ownsRow w4.heap.size 2 1 (.slice (some ⟨gx0, 0, none⟩) L0.length L0.length) L0.length (ints L0)) := Rx0_w9.out
  have Rx1_w9d : Hid (w9.drew.ownsRow w6.heap.size 2 1 (.slice (some ⟨w6.heap.size, 0, none⟩) L1.length L1.length) L1.length (ints L1)) := Rx1_w9.out
  have Rg0_w9d : Hid (w9.drew.ownsRow w7.heap.size 2 1 ug0 X0.length (ints X0)) := Rg0_w9.out
  have Ka0_w9d : Hid (Bk.Box w9.drew w.heap.size (.slice s0 L0.length c0) (.int .i64 a0_1) (.int .i64 a0_2)) := Ka0_w9.out
  have Kx0_w9d : Hid (Bk.Box w9.drew w5.heap.size (.slice (some ⟨gx0, 0, none⟩) L0.length L0.length) (.int .i64 a0_1) (.int .i64 a0_2)) := Kx0_w9.out
  have ZZw9d : Hid (w9.drew.heap.size = w9.heap.size) := rfl
  go_wp2_with fail
  go_region_held3 (fun w' => w'.cell? ⟨w.heap.size, 0, none⟩ = some (.slice s0 L0.length c0) ∧ w'.cell? ⟨w.heap.size, 1, none⟩ = some (.int .i64 a0_1) ∧ w'.cell? ⟨w.heap.size, 2, none⟩ = some (.int .i64 a0_2) ∧ w'.cell? ⟨w5.heap.size, 0, none⟩ = some (.slice (some ⟨gx0, 0, none⟩) L0.length L0.length) ∧ w'.cell? ⟨w5.heap.size, 1, none⟩ = some (.int .i64 a0_1) ∧ w'.cell? ⟨w5.heap.size, 2, none⟩ = some (.int .i64 a0_2)) (go_keep)
    (first
    | (go_at_call 7; refine (TO0.out HL0.out _ BBw9d.out).mono ?_; rintro e w10 ⟨gy0, rfl, r, b⟩; clear ca0_0 ca0_1 ca0_2; clear cx0_0 cx0_1 cx0_2; have ZZw10 : Hid (w9.drew.heap.size ≤ w10.heap.size) := b.size; have BBw10 : Hid (Below w.heap.size w w10) := BBw9d.out.trans (b.mono BBw9d.out.size); have Rs0_w10 : Hid (w10.ownsRow w3.heap.size 2 1 us0 X0.length (ints X0)) := row_on Rs0_w9d.out b; have Rx0_w10 : Hid (w10.ownsRow w4.heap.size 2 1 (.slice (some ⟨gx0, 0, none⟩) L0.length L0.length) L0.length (ints L0)) := row_on Rx0_w9d.out b; have Rx1_w10 : Hid (w10.ownsRow w6.heap.size 2 1 (.slice (some ⟨w6.heap.size, 0, none⟩) L1.length L1.length) L1.length (ints L1)) := row_on Rx1_w9d.out b; have Rg0_w10 : Hid (w10.ownsRow w7.heap.size 2 1 ug0 X0.length (ints X0)) := row_on Rg0_w9d.out b; have Ka0_w10 : Hid (Bk.Box w10 w.heap.size (.slice s0 L0.length c0) (.int .i64 a0_1) (.int .i64 a0_2)) := Ka0_w9d.out.on b (by have q0 := ZZwa.out; have q1 := ZZw1.out; have q2 := ZZw2.out; have q3 := ZZw3.out; have q4 := ZZw4.out; have q5 := ZZw5.out; have q6 := ZZZw6.out; have q7 := ZZw6.out; have q8 := ZZw7.out; have q9 := ZZw8.out; have q10 := ZZw9.out; have q11 := ZZw9d.out; have q12 := HL0.out; have q13 := HL1.out; have q14 := HX0.out; omega); have Kx0_w10 : Hid (Bk.Box w10 w5.heap.size (.slice (some ⟨gx0, 0, none⟩) L0.length L0.length) (.int .i64 a0_1) (.int .i64 a0_2)) := Kx0_w9d.out.on b (by have q0 := ZZwa.out; have q1 := ZZw1.out; have q2 := ZZw2.out; have q3 := ZZw3.out; have q4 := ZZw4.out; have q5 := ZZw5.out; have q6 := ZZZw6.out; have q7 := ZZw6.out; have q8 := ZZw7.out; have q9 := ZZw8.out; have q10 := ZZw9.out; have q11 := ZZw9d.out; have q12 := HL0.out; have q13 := HL1.out; have q14 := HX0.out; omega); have Ry0_w10 : Hid (w10.ownsRow w9.drew.heap.size 2 1 (.slice (some ⟨gy0, 0, none⟩) L0.length L0.length) L0.length (ints L0)) := r; have LTy0 : Hid (∀ k, (Value.slice (some ⟨gy0, 0, none⟩) L0.length L0.length).ownBlock = some k → w9.drew.heap.size ≤ k ∧ k < w10.heap.size) := fun k hk => Ry0_w10.out.lt k hk; clear r b; clear Rs0_w9d Rx0_w9d Rx1_w9d Rg0_w9d Ka0_w9d Kx0_w9d; obtain ⟨da0_w10_0, da0_w10_1, da0_w10_2⟩ := Ka0_w10.out; obtain ⟨dx0_w10_0, dx0_w10_1, dx0_w10_2⟩ := Kx0_w10.out)
    | (go_at_call 11; refine (EQ0.out _ _ _ _ _ Rx0_w10.out Ry0_w10.out).mono ?_; rintro e w11 ⟨rfl, b⟩; have ZZw11 : Hid (w10.heap.size ≤ w11.heap.size) := b.size; have BBw11 : Hid (Below w.heap.size w w11) := BBw10.out.trans (b.mono BBw10.out.size); have Rs0_w11 : Hid (w11.ownsRow w3.heap.size 2 1 us0 X0.length (ints X0)) := row_on Rs0_w10.out b; have Rx0_w11 : Hid (w11.ownsRow w4.heap.size 2 1 (.slice (some ⟨gx0, 0, none⟩) L0.length L0.length) L0.length (ints L0)) := row_on Rx0_w10.out b; have Rx1_w11 : Hid (w11.ownsRow w6.heap.size 2 1 (.slice (some ⟨w6.heap.size, 0, none⟩) L1.length L1.length) L1.length (ints L1)) := row_on Rx1_w10.out b; have Rg0_w11 : Hid (w11.ownsRow w7.heap.size 2 1 ug0 X0.length (ints X0)) := row_on Rg0_w10.out b; have Ry0_w11 : Hid (w11.ownsRow w9.drew.heap.size 2 1 (.slice (some ⟨gy0, 0, none⟩) L0.length L0.length) L0.length (ints L0)) := row_on Ry0_w10.out b; have Ka0_w11 : Hid (Bk.Box w11 w.heap.size (.slice s0 L0.length c0) (.int .i64 a0_1) (.int .i64 a0_2)) := Ka0_w10.out.on b (by have q0 := ZZwa.out; have q1 := ZZw1.out; have q2 := ZZw2.out; have q3 := ZZw3.out; have q4 := ZZw4.out; have q5 := ZZw5.out; have q6 := ZZZw6.out; have q7 := ZZw6.out; have q8 := ZZw7.out; have q9 := ZZw8.out; have q10 := ZZw9.out; have q11 := ZZw9d.out; have q12 := ZZw10.out; have q13 := HL0.out; have q14 := HL1.out; have q15 := HX0.out; omega); have Kx0_w11 : Hid (Bk.Box w11 w5.heap.size (.slice (some ⟨gx0, 0, none⟩) L0.length L0.length) (.int .i64 a0_1) (.int .i64 a0_2)) := Kx0_w10.out.on b (by have q0 := ZZwa.out; have q1 := ZZw1.out; have q2 := ZZw2.out; have q3 := ZZw3.out; have q4 := ZZw4.out; have q5 := ZZw5.out; have q6 := ZZZw6.out; have q7 := ZZw6.out; have q8 := ZZw7.out; have q9 := ZZw8.out; have q10 := ZZw9.out; have q11 := ZZw9d.out; have q12 := ZZw10.out; have q13 := HL0.out; have q14 := HL1.out; have q15 := HX0.out; omega); clear b; clear Rs0_w10 Rx0_w10 Rx1_w10 Rg0_w10 Ry0_w10 Ka0_w10 Kx0_w10; obtain ⟨da0_w11_0, da0_w11_1, da0_w11_2⟩ := Ka0_w11.out; obtain ⟨dx0_w11_0, dx0_w11_1, dx0_w11_2⟩ := Kx0_w11.out))
  clear Ry0_w11
  go_wp2_with fail
  refine (TO1.out w11 BBw11.out).mono ?_
  rintro e w12 ⟨rfl, r, b⟩
  have ZZw12 : Hid (w11.heap.size ≤ w12.heap.size) := b.size
  have BBw12 : Hid (Below w.heap.size w w12) := BBw11.out.trans (b.mono BBw11.out.size)
  have Rs0_w12 : Hid (w12.ownsRow w3.heap.size 2 1 us0 X0.length (ints X0)) := row_on Rs0_w11.out b
  have Rx0_w12 : Hid (w12.ownsRow w4.heap.size 2 1 (.slice (some ⟨gx0, 0, none⟩) L0.length L0.length) L0.length (ints L0)) := row_on Rx0_w11.out b
  have Rx1_w12 : Hid (w12.ownsRow w6.heap.size 2 1 (.slice (some ⟨w6.heap.size, 0, none⟩) L1.length L1.length) L1.length (ints L1)) := row_on Rx1_w11.out b
  have Rg0_w12 : Hid (w12.ownsRow w7.heap.size 2 1 ug0 X0.length (ints X0)) := row_on Rg0_w11.out b
  have Ka0_w12 : Hid (Bk.Box w12 w.heap.size (.slice s0 L0.length c0) (.int .i64 a0_1) (.int .i64 a0_2)) := Ka0_w11.out.on b (by have q0 := ZZwa.out; have q1 := ZZw1.out; have q2 := ZZw2.out; have q3 := ZZw3.out; have q4 := ZZw4.out; have q5 := ZZw5.out; have q6 := ZZZw6.out; have q7 := ZZw6.out; have q8 := ZZw7.out; have q9 := ZZw8.out; have q10 := ZZw9.out; have q11 := ZZw9d.out; have q12 := ZZw10.out; have q13 := ZZw11.out; have q14 := HL0.out; have q15 := HL1.out; have q16 := HX0.out; omega)
  have Kx0_w12 : Hid (Bk.Box w12 w5.heap.size (.slice (some ⟨gx0, 0, none⟩) L0.length L0.length) (.int .i64 a0_1) (.int .i64 a0_2)) := Kx0_w11.out.on b (by have q0 := ZZwa.out; have q1 := ZZw1.out; have q2 := ZZw2.out; have q3 := ZZw3.out; have q4 := ZZw4.out; have q5 := ZZw5.out; have q6 := ZZZw6.out; have q7 := ZZw6.out; have q8 := ZZw7.out; have q9 := ZZw8.out; have q10 := ZZw9.out; have q11 := ZZw9d.out; have q12 := ZZw10.out; have q13 := ZZw11.out; have q14 := HL0.out; have q15 := HL1.out; have q16 := HX0.out; omega)
  have Ry1_w12 : Hid (w12.ownsRow w11.heap.size 2 1 (.slice (some ⟨w11.heap.size, 0, none⟩) L1.length L1.length) L1.length (ints L1)) := r
  have LTy1 : Hid (∀ k, (Value.slice (some ⟨w11.heap.size, 0, none⟩) L1.length L1.length).ownBlock = some k → w11.heap.size ≤ k ∧ k < w12.heap.size) := fun k hk => Ry1_w12.out.lt k hk
  clear r b
  clear Rs0_w11 Rx0_w11 Rx1_w11 Rg0_w11 Ka0_w11 Kx0_w11
  go_wp2_with fail
  refine (eq_same _ _ _ _ _ L1 Rx1_w12.out Ry1_w12.out).mono ?_
  rintro e w13 ⟨rfl, mw13, hw⟩
  have ZZw13 : Hid (w13.heap.size = w12.heap.size) := (by show _ = _; rw [hw]; rfl)
  have BBw13 : Hid (Below w.heap.size w w13) := (by show Below _ _ _; rw [hw]; exact below_drewN BBw12.out _)
  have Rs0_w13 : Hid (w13.ownsRow w3.heap.size 2 1 us0 X0.length (ints X0)) := (by show World.ownsRow _ _ _ _ _ _ _; rw [hw]; exact Rs0_w12.out)
  have Rx0_w13 : Hid (w13.ownsRow w4.heap.size 2 1 (.slice (some ⟨gx0, 0, none⟩) L0.length L0.length) L0.length (ints L0)) := (by show World.ownsRow _ _ _ _ _ _ _; rw [hw]; exact Rx0_w12.out)
  have Rx1_w13 : Hid (w13.ownsRow w6.heap.size 2 1 (.slice (some ⟨w6.heap.size, 0, none⟩) L1.length L1.length) L1.length (ints L1)) := (by show World.ownsRow _ _ _ _ _ _ _; rw [hw]; exact Rx1_w12.out)
  have Rg0_w13 : Hid (w13.ownsRow w7.heap.size 2 1 ug0 X0.length (ints X0)) := (by show World.ownsRow _ _ _ _ _ _ _; rw [hw]; exact Rg0_w12.out)
  have Ry1_w13 : Hid (w13.ownsRow w11.heap.size 2 1 (.slice (some ⟨w11.heap.size, 0, none⟩) L1.length L1.length) L1.length (ints L1)) := (by show World.ownsRow _ _ _ _ _ _ _; rw [hw]; exact Ry1_w12.out)
  have Ka0_w13 : Hid (Bk.Box w13 w.heap.size (.slice s0 L0.length c0) (.int .i64 a0_1) (.int .i64 a0_2)) := (by show Bk.Box _ _ _ _ _; rw [hw]; exact Ka0_w12.out)
  have Kx0_w13 : Hid (Bk.Box w13 w5.heap.size (.slice (some ⟨gx0, 0, none⟩) L0.length L0.length) (.int .i64 a0_1) (.int .i64 a0_2)) := (by show Bk.Box _ _ _ _ _; rw [hw]; exact Kx0_w12.out)
  clear hw
  clear Rs0_w12 Rx0_w12 Rx1_w12 Rg0_w12 Ry1_w12 Ka0_w12 Kx0_w12
  clear Ry1_w13
  obtain ⟨cx0_0, cx0_1, cx0_2⟩ := Kx0_w13.out
  go_wp2_with fail
  refine (Bk.mark_st a0_1 a0_2 L0 _ _ (1) w13 (by have q0 := ZZwa.out; have q1 := ZZw1.out; have q2 := ZZw2.out; have q3 := ZZw3.out; have q4 := ZZw4.out; have q5 := ZZw5.out; have q6 := ZZZw6.out; have q7 := ZZw6.out; have q8 := ZZw7.out; have q9 := ZZw8.out; have q10 := ZZw9.out; have q11 := ZZw9d.out; have q12 := ZZw10.out; have q13 := ZZw11.out; have q14 := ZZw12.out; have q15 := ZZw13.out; have q16 := HL0.out; have q17 := HL1.out; have q18 := HX0.out; omega) (by have q0 := ZZwa.out; have q1 := ZZw1.out; have q2 := ZZw2.out; have q3 := ZZw3.out; have q4 := ZZw4.out; have q5 := ZZw5.out; have q6 := ZZZw6.out; have q7 := ZZw6.out; have q8 := ZZw7.out; have q9 := ZZw8.out; have q10 := ZZw9.out; have q11 := ZZw9d.out; have q12 := ZZw10.out; have q13 := ZZw11.out; have q14 := ZZw12.out; have q15 := ZZw13.out; have q16 := HL0.out; have q17 := HL1.out; have q18 := HX0.out; omega) (by have q0 := ZZwa.out; have q1 := ZZw1.out; have q2 := ZZw2.out; have q3 := ZZw3.out; have q4 := ZZw4.out; have q5 := ZZw5.out; have q6 := ZZZw6.out; have q7 := ZZw6.out; have q8 := ZZw7.out; have q9 := ZZw8.out; have q10 := ZZw9.out; have q11 := ZZw9d.out; have q12 := ZZw10.out; have q13 := ZZw11.out; have q14 := ZZw12.out; have q15 := ZZw13.out; have q16 := HL0.out; have q17 := HL1.out; have q18 := HX0.out; omega) Rx0_w13.out).mono ?_
  rintro e w14 ⟨rfl, r, g⟩
  clear cx0_0 cx0_1 cx0_2
  have ZZw14 : Hid (w13.heap.size ≤ w14.heap.size) := g.size
  have BBw14 : Hid (Below w.heap.size w w14) := BBw13.out.grown g BBw13.out.size (fun k hk => by have q0 := ZZwa.out; have q1 := ZZw1.out; have q2 := ZZw2.out; have q3 := ZZw3.out; have q4 := ZZw4.out; have q5 := ZZw5.out; have q6 := ZZZw6.out; have q7 := ZZw6.out; have q8 := ZZw7.out; have q9 := ZZw8.out; have q10 := ZZw9.out; have q11 := ZZw9d.out; have q12 := ZZw10.out; have q13 := ZZw11.out; have q14 := ZZw12.out; have q15 := ZZw13.out; have q16 := HL0.out; have q17 := HL1.out; have q18 := HX0.out; have := LTx0.out k hk; omega)
  have Rs0_w14 : Hid (w14.ownsRow w3.heap.size 2 1 us0 X0.length (ints X0)) := row_off Rs0_w13.out g (fun k j hk hj => by have q0 := ZZwa.out; have q1 := ZZw1.out; have q2 := ZZw2.out; have q3 := ZZw3.out; have q4 := ZZw4.out; have q5 := ZZw5.out; have q6 := ZZZw6.out; have q7 := ZZw6.out; have q8 := ZZw7.out; have q9 := ZZw8.out; have q10 := ZZw9.out; have q11 := ZZw9d.out; have q12 := ZZw10.out; have q13 := ZZw11.out; have q14 := ZZw12.out; have q15 := ZZw13.out; have q16 := HL0.out; have q17 := HL1.out; have q18 := HX0.out; have := LTs0.out k hk; have := LTx0.out j hj; omega)
  have Rx1_w14 : Hid (w14.ownsRow w6.heap.size 2 1 (.slice (some ⟨w6.heap.size, 0, none⟩) L1.length L1.length) L1.length (ints L1)) := row_off Rx1_w13.out g (fun k j hk hj => by have q0 := ZZwa.out; have q1 := ZZw1.out; have q2 := ZZw2.out; have q3 := ZZw3.out; have q4 := ZZw4.out; have q5 := ZZw5.out; have q6 := ZZZw6.out; have q7 := ZZw6.out; have q8 := ZZw7.out; have q9 := ZZw8.out; have q10 := ZZw9.out; have q11 := ZZw9d.out; have q12 := ZZw10.out; have q13 := ZZw11.out; have q14 := ZZw12.out; have q15 := ZZw13.out; have q16 := HL0.out; have q17 := HL1.out; have q18 := HX0.out; have := LTx1.out k hk; have := LTx0.out j hj; omega)
  have Rg0_w14 : Hid (w14.ownsRow w7.heap.size 2 1 ug0 X0.length (ints X0)) := row_off Rg0_w13.out g (fun k j hk hj => by have q0 := ZZwa.out; have q1 := ZZw1.out; have q2 := ZZw2.out; have q3 := ZZw3.out; have q4 := ZZw4.out; have q5 := ZZw5.out; have q6 := ZZZw6.out; have q7 := ZZw6.out; have q8 := ZZw7.out; have q9 := ZZw8.out; have q10 := ZZw9.out; have q11 := ZZw9d.out; have q12 := ZZw10.out; have q13 := ZZw11.out; have q14 := ZZw12.out; have q15 := ZZw13.out; have q16 := HL0.out; have q17 := HL1.out; have q18 := HX0.out; have := LTg0.out k hk; have := LTx0.out j hj; omega)
  have Ka0_w14 : Hid (Bk.Box w14 w.heap.size (.slice s0 L0.length c0) (.int .i64 a0_1) (.int .i64 a0_2)) := Ka0_w13.out.apart g (fun k hk => by have q0 := ZZwa.out; have q1 := ZZw1.out; have q2 := ZZw2.out; have q3 := ZZw3.out; have q4 := ZZw4.out; have q5 := ZZw5.out; have q6 := ZZZw6.out; have q7 := ZZw6.out; have q8 := ZZw7.out; have q9 := ZZw8.out; have q10 := ZZw9.out; have q11 := ZZw9d.out; have q12 := ZZw10.out; have q13 := ZZw11.out; have q14 := ZZw12.out; have q15 := ZZw13.out; have q16 := HL0.out; have q17 := HL1.out; have q18 := HX0.out; have := LTx0.out k hk; omega)
  have Kx0_w14 : Hid (Bk.Box w14 w5.heap.size (.slice (some ⟨gx0, 0, none⟩) L0.length L0.length) (.int .i64 a0_1) (.int .i64 a0_2)) := Kx0_w13.out.apart g (fun k hk => by have q0 := ZZwa.out; have q1 := ZZw1.out; have q2 := ZZw2.out; have q3 := ZZw3.out; have q4 := ZZw4.out; have q5 := ZZw5.out; have q6 := ZZZw6.out; have q7 := ZZw6.out; have q8 := ZZw7.out; have q9 := ZZw8.out; have q10 := ZZw9.out; have q11 := ZZw9d.out; have q12 := ZZw10.out; have q13 := ZZw11.out; have q14 := ZZw12.out; have q15 := ZZw13.out; have q16 := HL0.out; have q17 := HL1.out; have q18 := HX0.out; have := LTx0.out k hk; omega)
  have Rx0_w14 : Hid (w14.ownsRow w4.heap.size 2 1 (.slice (some ⟨gx0, 0, none⟩) L0.length L0.length) L0.length (ints (sq (1) L0.length))) := r
  clear r g
  clear Rs0_w13 Rx0_w13 Rx1_w13 Rg0_w13 Ka0_w13 Kx0_w13
  go_wp2_with fail
  refine (mark_any w14 _ _ L1 (1 + (L0.length : Int)) (by have q0 := ZZwa.out; have q1 := ZZw1.out; have q2 := ZZw2.out; have q3 := ZZw3.out; have q4 := ZZw4.out; have q5 := ZZw5.out; have q6 := ZZZw6.out; have q7 := ZZw6.out; have q8 := ZZw7.out; have q9 := ZZw8.out; have q10 := ZZw9.out; have q11 := ZZw9d.out; have q12 := ZZw10.out; have q13 := ZZw11.out; have q14 := ZZw12.out; have q15 := ZZw13.out; have q16 := ZZw14.out; have q17 := HL0.out; have q18 := HL1.out; have q19 := HX0.out; omega) (by have q0 := ZZwa.out; have q1 := ZZw1.out; have q2 := ZZw2.out; have q3 := ZZw3.out; have q4 := ZZw4.out; have q5 := ZZw5.out; have q6 := ZZZw6.out; have q7 := ZZw6.out; have q8 := ZZw7.out; have q9 := ZZw8.out; have q10 := ZZw9.out; have q11 := ZZw9d.out; have q12 := ZZw10.out; have q13 := ZZw11.out; have q14 := ZZw12.out; have q15 := ZZw13.out; have q16 := ZZw14.out; have q17 := HL0.out; have q18 := HL1.out; have q19 := HX0.out; omega) (by have q0 := ZZwa.out; have q1 := ZZw1.out; have q2 := ZZw2.out; have q3 := ZZw3.out; have q4 := ZZw4.out; have q5 := ZZw5.out; have q6 := ZZZw6.out; have q7 := ZZw6.out; have q8 := ZZw7.out; have q9 := ZZw8.out; have q10 := ZZw9.out; have q11 := ZZw9d.out; have q12 := ZZw10.out; have q13 := ZZw11.out; have q14 := ZZw12.out; have q15 := ZZw13.out; have q16 := ZZw14.out; have q17 := HL0.out; have q18 := HL1.out; have q19 := HX0.out; omega) Rx1_w14.out).mono ?_
  rintro e w15 ⟨rfl, r, g⟩
  have ZZw15 : Hid (w14.heap.size ≤ w15.heap.size) := g.size
  have BBw15 : Hid (Below w.heap.size w w15) := BBw14.out.grown g BBw14.out.size (fun k hk => by have q0 := ZZwa.out; have q1 := ZZw1.out; have q2 := ZZw2.out; have q3 := ZZw3.out; have q4 := ZZw4.out; have q5 := ZZw5.out; have q6 := ZZZw6.out; have q7 := ZZw6.out; have q8 := ZZw7.out; have q9 := ZZw8.out; have q10 := ZZw9.out; have q11 := ZZw9d.out; have q12 := ZZw10.out; have q13 := ZZw11.out; have q14 := ZZw12.out; have q15 := ZZw13.out; have q16 := ZZw14.out; have q17 := HL0.out; have q18 := HL1.out; have q19 := HX0.out; have := LTx1.out k hk; omega)
  have Rs0_w15 : Hid (w15.ownsRow w3.heap.size 2 1 us0 X0.length (ints X0)) := row_off Rs0_w14.out g (fun k j hk hj => by have q0 := ZZwa.out; have q1 := ZZw1.out; have q2 := ZZw2.out; have q3 := ZZw3.out; have q4 := ZZw4.out; have q5 := ZZw5.out; have q6 := ZZZw6.out; have q7 := ZZw6.out; have q8 := ZZw7.out; have q9 := ZZw8.out; have q10 := ZZw9.out; have q11 := ZZw9d.out; have q12 := ZZw10.out; have q13 := ZZw11.out; have q14 := ZZw12.out; have q15 := ZZw13.out; have q16 := ZZw14.out; have q17 := HL0.out; have q18 := HL1.out; have q19 := HX0.out; have := LTs0.out k hk; have := LTx1.out j hj; omega)
  have Rx0_w15 : Hid (w15.ownsRow w4.heap.size 2 1 (.slice (some ⟨gx0, 0, none⟩) L0.length L0.length) L0.length (ints (sq (1) L0.length))) := row_off Rx0_w14.out g (fun k j hk hj => by have q0 := ZZwa.out; have q1 := ZZw1.out; have q2 := ZZw2.out; have q3 := ZZw3.out; have q4 := ZZw4.out; have q5 := ZZw5.out; have q6 := ZZZw6.out; have q7 := ZZw6.out; have q8 := ZZw7.out; have q9 := ZZw8.out; have q10 := ZZw9.out; have q11 := ZZw9d.out; have q12 := ZZw10.out; have q13 := ZZw11.out; have q14 := ZZw12.out; have q15 := ZZw13.out; have q16 := ZZw14.out; have q17 := HL0.out; have q18 := HL1.out; have q19 := HX0.out; have := LTx0.out k hk; have := LTx1.out j hj; omega)
  have Rg0_w15 : Hid (w15.ownsRow w7.heap.size 2 1 ug0 X0.length (ints X0)) := row_off Rg0_w14.out g (fun k j hk hj => by have q0 := ZZwa.out; have q1 := ZZw1.out; have q2 := ZZw2.out; have q3 := ZZw3.out; have q4 := ZZw4.out; have q5 := ZZw5.out; have q6 := ZZZw6.out; have q7 := ZZw6.out; have q8 := ZZw7.out; have q9 := ZZw8.out; have q10 := ZZw9.out; have q11 := ZZw9d.out; have q12 := ZZw10.out; have q13 := ZZw11.out; have q14 := ZZw12.out; have q15 := ZZw13.out; have q16 := ZZw14.out; have q17 := HL0.out; have q18 := HL1.out; have q19 := HX0.out; have := LTg0.out k hk; have := LTx1.out j hj; omega)
  have Ka0_w15 : Hid (Bk.Box w15 w.heap.size (.slice s0 L0.length c0) (.int .i64 a0_1) (.int .i64 a0_2)) := Ka0_w14.out.apart g (fun k hk => by have q0 := ZZwa.out; have q1 := ZZw1.out; have q2 := ZZw2.out; have q3 := ZZw3.out; have q4 := ZZw4.out; have q5 := ZZw5.out; have q6 := ZZZw6.out; have q7 := ZZw6.out; have q8 := ZZw7.out; have q9 := ZZw8.out; have q10 := ZZw9.out; have q11 := ZZw9d.out; have q12 := ZZw10.out; have q13 := ZZw11.out; have q14 := ZZw12.out; have q15 := ZZw13.out; have q16 := ZZw14.out; have q17 := HL0.out; have q18 := HL1.out; have q19 := HX0.out; have := LTx1.out k hk; omega)
  have Kx0_w15 : Hid (Bk.Box w15 w5.heap.size (.slice (some ⟨gx0, 0, none⟩) L0.length L0.length) (.int .i64 a0_1) (.int .i64 a0_2)) := Kx0_w14.out.apart g (fun k hk => by have q0 := ZZwa.out; have q1 := ZZw1.out; have q2 := ZZw2.out; have q3 := ZZw3.out; have q4 := ZZw4.out; have q5 := ZZw5.out; have q6 := ZZZw6.out; have q7 := ZZw6.out; have q8 := ZZw7.out; have q9 := ZZw8.out; have q10 := ZZw9.out; have q11 := ZZw9d.out; have q12 := ZZw10.out; have q13 := ZZw11.out; have q14 := ZZw12.out; have q15 := ZZw13.out; have q16 := ZZw14.out; have q17 := HL0.out; have q18 := HL1.out; have q19 := HX0.out; have := LTx1.out k hk; omega)
  have Rx1_w15 : Hid (w15.ownsRow w6.heap.size 2 1 (.slice (some ⟨w6.heap.size, 0, none⟩) L1.length L1.length) L1.length (ints (sq (1 + (L0.length : Int)) L1.length))) := r
  clear r g
  clear Rs0_w14 Rx0_w14 Rx1_w14 Rg0_w14 Ka0_w14 Kx0_w14
  clear Rx0_w15
  clear Rx1_w15
  clear Kx0_w15
  go_wp2_with fail
  refine (eq_same _ _ _ _ _ X0 Rg0_w15.out Rs0_w15.out).mono ?_
  rintro e w16 ⟨rfl, mw16, hw⟩
  have ZZw16 : Hid (w16.heap.size = w15.heap.size) := (by show _ = _; rw [hw]; rfl)
  have BBw16 : Hid (Below w.heap.size w w16) := (by show Below _ _ _; rw [hw]; exact below_drewN BBw15.out _)
  have Rs0_w16 : Hid (w16.ownsRow w3.heap.size 2 1 us0 X0.length (ints X0)) := (by show World.ownsRow _ _ _ _ _ _ _; rw [hw]; exact Rs0_w15.out)
  have Rg0_w16 : Hid (w16.ownsRow w7.heap.size 2 1 ug0 X0.length (ints X0)) := (by show World.ownsRow _ _ _ _ _ _ _; rw [hw]; exact Rg0_w15.out)
  have Ka0_w16 : Hid (Bk.Box w16 w.heap.size (.slice s0 L0.length c0) (.int .i64 a0_1) (.int .i64 a0_2)) := (by show Bk.Box _ _ _ _ _; rw [hw]; exact Ka0_w15.out)
  clear hw
  clear Rs0_w15 Rg0_w15 Ka0_w15
  go_wp2_with fail
  refine (mark_any w16 _ _ X0 (1) (by have q0 := ZZwa.out; have q1 := ZZw1.out; have q2 := ZZw2.out; have q3 := ZZw3.out; have q4 := ZZw4.out; have q5 := ZZw5.out; have q6 := ZZZw6.out; have q7 := ZZw6.out; have q8 := ZZw7.out; have q9 := ZZw8.out; have q10 := ZZw9.out; have q11 := ZZw9d.out; have q12 := ZZw10.out; have q13 := ZZw11.out; have q14 := ZZw12.out; have q15 := ZZw13.out; have q16 := ZZw14.out; have q17 := ZZw15.out; have q18 := ZZw16.out; have q19 := HL0.out; have q20 := HL1.out; have q21 := HX0.out; omega) (by have q0 := ZZwa.out; have q1 := ZZw1.out; have q2 := ZZw2.out; have q3 := ZZw3.out; have q4 := ZZw4.out; have q5 := ZZw5.out; have q6 := ZZZw6.out; have q7 := ZZw6.out; have q8 := ZZw7.out; have q9 := ZZw8.out; have q10 := ZZw9.out; have q11 := ZZw9d.out; have q12 := ZZw10.out; have q13 := ZZw11.out; have q14 := ZZw12.out; have q15 := ZZw13.out; have q16 := ZZw14.out; have q17 := ZZw15.out; have q18 := ZZw16.out; have q19 := HL0.out; have q20 := HL1.out; have q21 := HX0.out; omega) (by have q0 := ZZwa.out; have q1 := ZZw1.out; have q2 := ZZw2.out; have q3 := ZZw3.out; have q4 := ZZw4.out; have q5 := ZZw5.out; have q6 := ZZZw6.out; have q7 := ZZw6.out; have q8 := ZZw7.out; have q9 := ZZw8.out; have q10 := ZZw9.out; have q11 := ZZw9d.out; have q12 := ZZw10.out; have q13 := ZZw11.out; have q14 := ZZw12.out; have q15 := ZZw13.out; have q16 := ZZw14.out; have q17 := ZZw15.out; have q18 := ZZw16.out; have q19 := HL0.out; have q20 := HL1.out; have q21 := HX0.out; omega) Rg0_w16.out).mono ?_
  rintro e w17 ⟨rfl, r, g⟩
  have ZZw17 : Hid (w16.heap.size ≤ w17.heap.size) := g.size
  have BBw17 : Hid (Below w.heap.size w w17) := BBw16.out.grown g BBw16.out.size (fun k hk => by have q0 := ZZwa.out; have q1 := ZZw1.out; have q2 := ZZw2.out; have q3 := ZZw3.out; have q4 := ZZw4.out; have q5 := ZZw5.out; have q6 := ZZZw6.out; have q7 := ZZw6.out; have q8 := ZZw7.out; have q9 := ZZw8.out; have q10 := ZZw9.out; have q11 := ZZw9d.out; have q12 := ZZw10.out; have q13 := ZZw11.out; have q14 := ZZw12.out; have q15 := ZZw13.out; have q16 := ZZw14.out; have q17 := ZZw15.out; have q18 := ZZw16.out; have q19 := HL0.out; have q20 := HL1.out; have q21 := HX0.out; have := LTg0.out k hk; omega)
  have Rs0_w17 : Hid (w17.ownsRow w3.heap.size 2 1 us0 X0.length (ints X0)) := row_off Rs0_w16.out g (fun k j hk hj => by have q0 := ZZwa.out; have q1 := ZZw1.out; have q2 := ZZw2.out; have q3 := ZZw3.out; have q4 := ZZw4.out; have q5 := ZZw5.out; have q6 := ZZZw6.out; have q7 := ZZw6.out; have q8 := ZZw7.out; have q9 := ZZw8.out; have q10 := ZZw9.out; have q11 := ZZw9d.out; have q12 := ZZw10.out; have q13 := ZZw11.out; have q14 := ZZw12.out; have q15 := ZZw13.out; have q16 := ZZw14.out; have q17 := ZZw15.out; have q18 := ZZw16.out; have q19 := HL0.out; have q20 := HL1.out; have q21 := HX0.out; have := LTs0.out k hk; have := LTg0.out j hj; omega)
  have Ka0_w17 : Hid (Bk.Box w17 w.heap.size (.slice s0 L0.length c0) (.int .i64 a0_1) (.int .i64 a0_2)) := Ka0_w16.out.apart g (fun k hk => by have q0 := ZZwa.out; have q1 := ZZw1.out; have q2 := ZZw2.out; have q3 := ZZw3.out; have q4 := ZZw4.out; have q5 := ZZw5.out; have q6 := ZZZw6.out; have q7 := ZZw6.out; have q8 := ZZw7.out; have q9 := ZZw8.out; have q10 := ZZw9.out; have q11 := ZZw9d.out; have q12 := ZZw10.out; have q13 := ZZw11.out; have q14 := ZZw12.out; have q15 := ZZw13.out; have q16 := ZZw14.out; have q17 := ZZw15.out; have q18 := ZZw16.out; have q19 := HL0.out; have q20 := HL1.out; have q21 := HX0.out; have := LTg0.out k hk; omega)
  have Rg0_w17 : Hid (w17.ownsRow w7.heap.size 2 1 ug0 X0.length (ints (sq (1) X0.length))) := r
  clear r g
  clear Rs0_w16 Rg0_w16 Ka0_w16
  go_wp2_with fail
  refine (held_any w17 _ X0.length (1) (by have q0 := ZZwa.out; have q1 := ZZw1.out; have q2 := ZZw2.out; have q3 := ZZw3.out; have q4 := ZZw4.out; have q5 := ZZw5.out; have q6 := ZZZw6.out; have q7 := ZZw6.out; have q8 := ZZw7.out; have q9 := ZZw8.out; have q10 := ZZw9.out; have q11 := ZZw9d.out; have q12 := ZZw10.out; have q13 := ZZw11.out; have q14 := ZZw12.out; have q15 := ZZw13.out; have q16 := ZZw14.out; have q17 := ZZw15.out; have q18 := ZZw16.out; have q19 := ZZw17.out; have q20 := HL0.out; have q21 := HL1.out; have q22 := HX0.out; omega) (by have q0 := ZZwa.out; have q1 := ZZw1.out; have q2 := ZZw2.out; have q3 := ZZw3.out; have q4 := ZZw4.out; have q5 := ZZw5.out; have q6 := ZZZw6.out; have q7 := ZZw6.out; have q8 := ZZw7.out; have q9 := ZZw8.out; have q10 := ZZw9.out; have q11 := ZZw9d.out; have q12 := ZZw10.out; have q13 := ZZw11.out; have q14 := ZZw12.out; have q15 := ZZw13.out; have q16 := ZZw14.out; have q17 := ZZw15.out; have q18 := ZZw16.out; have q19 := ZZw17.out; have q20 := HL0.out; have q21 := HL1.out; have q22 := HX0.out; omega) (by have := HX0.out; omega) (Lists.reads_row (L := sq (1) X0.length) (by rw [sq_len]; exact Rg0_w17.out))).mono ?_
  rintro e w18 ⟨rfl, mw18, hw⟩
  have ZZw18 : Hid (w18.heap.size = w17.heap.size) := (by show _ = _; rw [hw]; rfl)
  have BBw18 : Hid (Below w.heap.size w w18) := (by show Below _ _ _; rw [hw]; exact below_drewN BBw17.out _)
  have Rs0_w18 : Hid (w18.ownsRow w3.heap.size 2 1 us0 X0.length (ints X0)) := (by show World.ownsRow _ _ _ _ _ _ _; rw [hw]; exact Rs0_w17.out)
  have Rg0_w18 : Hid (w18.ownsRow w7.heap.size 2 1 ug0 X0.length (ints (sq (1) X0.length))) := (by show World.ownsRow _ _ _ _ _ _ _; rw [hw]; exact Rg0_w17.out)
  have Ka0_w18 : Hid (Bk.Box w18 w.heap.size (.slice s0 L0.length c0) (.int .i64 a0_1) (.int .i64 a0_2)) := (by show Bk.Box _ _ _ _ _; rw [hw]; exact Ka0_w17.out)
  clear hw
  clear Rs0_w17 Rg0_w17 Ka0_w17
  obtain ⟨ca0_0, ca0_1, ca0_2⟩ := Ka0_w18.out
  go_wp2_with fail
  refine (TO0.out HL0.out w18 BBw18.out).mono ?_
  rintro e w19 ⟨gq0, rfl, r, b⟩
  clear ca0_0 ca0_1 ca0_2
  have ZZw19 : Hid (w18.heap.size ≤ w19.heap.size) := b.size
  have BBw19 : Hid (Below w.heap.size w w19) := BBw18.out.trans (b.mono BBw18.out.size)
  have Rs0_w19 : Hid (w19.ownsRow w3.heap.size 2 1 us0 X0.length (ints X0)) := row_on Rs0_w18.out b
  have Rg0_w19 : Hid (w19.ownsRow w7.heap.size 2 1 ug0 X0.length (ints (sq (1) X0.length))) := row_on Rg0_w18.out b
  have Ka0_w19 : Hid (Bk.Box w19 w.heap.size (.slice s0 L0.length c0) (.int .i64 a0_1) (.int .i64 a0_2)) := Ka0_w18.out.on b (by have q0 := ZZwa.out; have q1 := ZZw1.out; have q2 := ZZw2.out; have q3 := ZZw3.out; have q4 := ZZw4.out; have q5 := ZZw5.out; have q6 := ZZZw6.out; have q7 := ZZw6.out; have q8 := ZZw7.out; have q9 := ZZw8.out; have q10 := ZZw9.out; have q11 := ZZw9d.out; have q12 := ZZw10.out; have q13 := ZZw11.out; have q14 := ZZw12.out; have q15 := ZZw13.out; have q16 := ZZw14.out; have q17 := ZZw15.out; have q18 := ZZw16.out; have q19 := ZZw17.out; have q20 := ZZw18.out; have q21 := HL0.out; have q22 := HL1.out; have q23 := HX0.out; omega)
  have Rq0_w19 : Hid (w19.ownsRow w18.heap.size 2 1 (.slice (some ⟨gq0, 0, none⟩) L0.length L0.length) L0.length (ints L0)) := r
  have LTq0 : Hid (∀ k, (Value.slice (some ⟨gq0, 0, none⟩) L0.length L0.length).ownBlock = some k → w18.heap.size ≤ k ∧ k < w19.heap.size) := fun k hk => Rq0_w19.out.lt k hk
  clear r b
  clear Rs0_w18 Rg0_w18 Ka0_w18
  go_wp2_with fail
  refine (TO1.out w19 BBw19.out).mono ?_
  rintro e w20 ⟨rfl, r, b⟩
  have ZZw20 : Hid (w19.heap.size ≤ w20.heap.size) := b.size
  have BBw20 : Hid (Below w.heap.size w w20) := BBw19.out.trans (b.mono BBw19.out.size)
  have Rs0_w20 : Hid (w20.ownsRow w3.heap.size 2 1 us0 X0.length (ints X0)) := row_on Rs0_w19.out b
  have Rg0_w20 : Hid (w20.ownsRow w7.heap.size 2 1 ug0 X0.length (ints (sq (1) X0.length))) := row_on Rg0_w19.out b
  have Rq0_w20 : Hid (w20.ownsRow w18.heap.size 2 1 (.slice (some ⟨gq0, 0, none⟩) L0.length L0.length) L0.length (ints L0)) := row_on Rq0_w19.out b
  have Ka0_w20 : Hid (Bk.Box w20 w.heap.size (.slice s0 L0.length c0) (.int .i64 a0_1) (.int .i64 a0_2)) := Ka0_w19.out.on b (by have q0 := ZZwa.out; have q1 := ZZw1.out; have q2 := ZZw2.out; have q3 := ZZw3.out; have q4 := ZZw4.out; have q5 := ZZw5.out; have q6 := ZZZw6.out; have q7 := ZZw6.out; have q8 := ZZw7.out; have q9 := ZZw8.out; have q10 := ZZw9.out; have q11 := ZZw9d.out; have q12 := ZZw10.out; have q13 := ZZw11.out; have q14 := ZZw12.out; have q15 := ZZw13.out; have q16 := ZZw14.out; have q17 := ZZw15.out; have q18 := ZZw16.out; have q19 := ZZw17.out; have q20 := ZZw18.out; have q21 := ZZw19.out; have q22 := HL0.out; have q23 := HL1.out; have q24 := HX0.out; omega)
  have Rq1_w20 : Hid (w20.ownsRow w19.heap.size 2 1 (.slice (some ⟨w19.heap.size, 0, none⟩) L1.length L1.length) L1.length (ints L1)) := r
  have LTq1 : Hid (∀ k, (Value.slice (some ⟨w19.heap.size, 0, none⟩) L1.length L1.length).ownBlock = some k → w19.heap.size ≤ k ∧ k < w20.heap.size) := fun k hk => Rq1_w20.out.lt k hk
  clear r b
  clear Rs0_w19 Rg0_w19 Rq0_w19 Ka0_w19
  go_wp2_with fail
  refine (IU.out w20 _ _ _ _ Rq0_w20.out Rq1_w20.out).mono ?_
  rintro e w21 ⟨uh0, rfl, rr0, b⟩
  have ZZw21 : Hid (w20.heap.size ≤ w21.heap.size) := b.size
  have BBw21 : Hid (Below w.heap.size w w21) := BBw20.out.trans (b.mono BBw20.out.size)
  have Rs0_w21 : Hid (w21.ownsRow w3.heap.size 2 1 us0 X0.length (ints X0)) := row_on Rs0_w20.out b
  have Rg0_w21 : Hid (w21.ownsRow w7.heap.size 2 1 ug0 X0.length (ints (sq (1) X0.length))) := row_on Rg0_w20.out b
  have Rq0_w21 : Hid (w21.ownsRow w18.heap.size 2 1 (.slice (some ⟨gq0, 0, none⟩) L0.length L0.length) L0.length (ints L0)) := row_on Rq0_w20.out b
  have Rq1_w21 : Hid (w21.ownsRow w19.heap.size 2 1 (.slice (some ⟨w19.heap.size, 0, none⟩) L1.length L1.length) L1.length (ints L1)) := row_on Rq1_w20.out b
  have Ka0_w21 : Hid (Bk.Box w21 w.heap.size (.slice s0 L0.length c0) (.int .i64 a0_1) (.int .i64 a0_2)) := Ka0_w20.out.on b (by have q0 := ZZwa.out; have q1 := ZZw1.out; have q2 := ZZw2.out; have q3 := ZZw3.out; have q4 := ZZw4.out; have q5 := ZZw5.out; have q6 := ZZZw6.out; have q7 := ZZw6.out; have q8 := ZZw7.out; have q9 := ZZw8.out; have q10 := ZZw9.out; have q11 := ZZw9d.out; have q12 := ZZw10.out; have q13 := ZZw11.out; have q14 := ZZw12.out; have q15 := ZZw13.out; have q16 := ZZw14.out; have q17 := ZZw15.out; have q18 := ZZw16.out; have q19 := ZZw17.out; have q20 := ZZw18.out; have q21 := ZZw19.out; have q22 := ZZw20.out; have q23 := HL0.out; have q24 := HL1.out; have q25 := HX0.out; omega)
  have Rh0_w21 : Hid (w21.ownsRow w20.heap.size 2 1 uh0 X0.length (ints X0)) := rr0
  have LTh0 : Hid (∀ k, uh0.ownBlock = some k → w20.heap.size ≤ k ∧ k < w21.heap.size) := fun k hk => Rh0_w21.out.lt k hk
  clear rr0
  clear b
  clear Rs0_w20 Rg0_w20 Rq0_w20 Rq1_w20 Ka0_w20
  clear Rq0_w21
  clear Rq1_w21
  go_wp2_with fail
  refine (eq_same _ _ _ _ _ X0 Rh0_w21.out Rs0_w21.out).mono ?_
  rintro e w22 ⟨rfl, mw22, hw⟩
  have ZZw22 : Hid (w22.heap.size = w21.heap.size) := (by show _ = _; rw [hw]; rfl)
  have BBw22 : Hid (Below w.heap.size w w22) := (by show Below _ _ _; rw [hw]; exact below_drewN BBw21.out _)
  have Rs0_w22 : Hid (w22.ownsRow w3.heap.size 2 1 us0 X0.length (ints X0)) := (by show World.ownsRow _ _ _ _ _ _ _; rw [hw]; exact Rs0_w21.out)
  have Rg0_w22 : Hid (w22.ownsRow w7.heap.size 2 1 ug0 X0.length (ints (sq (1) X0.length))) := (by show World.ownsRow _ _ _ _ _ _ _; rw [hw]; exact Rg0_w21.out)
  have Rh0_w22 : Hid (w22.ownsRow w20.heap.size 2 1 uh0 X0.length (ints X0)) := (by show World.ownsRow _ _ _ _ _ _ _; rw [hw]; exact Rh0_w21.out)
  have Ka0_w22 : Hid (Bk.Box w22 w.heap.size (.slice s0 L0.length c0) (.int .i64 a0_1) (.int .i64 a0_2)) := (by show Bk.Box _ _ _ _ _; rw [hw]; exact Ka0_w21.out)
  clear hw
  clear Rs0_w21 Rg0_w21 Rh0_w21 Ka0_w21
  go_wp2_with fail
  refine (held_any w22 _ X0.length (1) (by have q0 := ZZwa.out; have q1 := ZZw1.out; have q2 := ZZw2.out; have q3 := ZZw3.out; have q4 := ZZw4.out; have q5 := ZZw5.out; have q6 := ZZZw6.out; have q7 := ZZw6.out; have q8 := ZZw7.out; have q9 := ZZw8.out; have q10 := ZZw9.out; have q11 := ZZw9d.out; have q12 := ZZw10.out; have q13 := ZZw11.out; have q14 := ZZw12.out; have q15 := ZZw13.out; have q16 := ZZw14.out; have q17 := ZZw15.out; have q18 := ZZw16.out; have q19 := ZZw17.out; have q20 := ZZw18.out; have q21 := ZZw19.out; have q22 := ZZw20.out; have q23 := ZZw21.out; have q24 := ZZw22.out; have q25 := HL0.out; have q26 := HL1.out; have q27 := HX0.out; omega) (by have q0 := ZZwa.out; have q1 := ZZw1.out; have q2 := ZZw2.out; have q3 := ZZw3.out; have q4 := ZZw4.out; have q5 := ZZw5.out; have q6 := ZZZw6.out; have q7 := ZZw6.out; have q8 := ZZw7.out; have q9 := ZZw8.out; have q10 := ZZw9.out; have q11 := ZZw9d.out; have q12 := ZZw10.out; have q13 := ZZw11.out; have q14 := ZZw12.out; have q15 := ZZw13.out; have q16 := ZZw14.out; have q17 := ZZw15.out; have q18 := ZZw16.out; have q19 := ZZw17.out; have q20 := ZZw18.out; have q21 := ZZw19.out; have q22 := ZZw20.out; have q23 := ZZw21.out; have q24 := ZZw22.out; have q25 := HL0.out; have q26 := HL1.out; have q27 := HX0.out; omega) (by have := HX0.out; omega) (Lists.reads_row (L := sq (1) X0.length) (by rw [sq_len]; exact Rg0_w22.out))).mono ?_
  rintro e w23 ⟨rfl, mw23, hw⟩
  have ZZw23 : Hid (w23.heap.size = w22.heap.size) := (by show _ = _; rw [hw]; rfl)
  have BBw23 : Hid (Below w.heap.size w w23) := (by show Below _ _ _; rw [hw]; exact below_drewN BBw22.out _)
  have Rs0_w23 : Hid (w23.ownsRow w3.heap.size 2 1 us0 X0.length (ints X0)) := (by show World.ownsRow _ _ _ _ _ _ _; rw [hw]; exact Rs0_w22.out)
  have Rg0_w23 : Hid (w23.ownsRow w7.heap.size 2 1 ug0 X0.length (ints (sq (1) X0.length))) := (by show World.ownsRow _ _ _ _ _ _ _; rw [hw]; exact Rg0_w22.out)
  have Rh0_w23 : Hid (w23.ownsRow w20.heap.size 2 1 uh0 X0.length (ints X0)) := (by show World.ownsRow _ _ _ _ _ _ _; rw [hw]; exact Rh0_w22.out)
  have Ka0_w23 : Hid (Bk.Box w23 w.heap.size (.slice s0 L0.length c0) (.int .i64 a0_1) (.int .i64 a0_2)) := (by show Bk.Box _ _ _ _ _; rw [hw]; exact Ka0_w22.out)
  clear hw
  clear Rs0_w22 Rg0_w22 Rh0_w22 Ka0_w22
  go_wp2_with fail
  go_ret
  exact ⟨rfl, BBw23.out⟩
end Go.Proofs.Ytpenjblhnihjkaa.LawFdL
