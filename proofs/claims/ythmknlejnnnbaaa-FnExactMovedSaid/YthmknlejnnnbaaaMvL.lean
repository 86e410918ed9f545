/- The law walked; what model and program answer comes in as hypotheses. -/
import Derived.Test.YthmknlejnnnbaaaBo
namespace Go.Proofs.Ythmknlejnnnbaaa.LawMvL
open Go.ChangeShapes Go.WideShapes Go.ChangeAt Go.RowKit
open Go.Proofs.Ythmknlejnnnbaaa.Lists

theorem below_drewN {B : Nat} {a w : World} (h : Below B a w) (n : Nat) : Below B a (w.drewN n) := h.trans ⟨rfl, rfl, rfl, Nat.le_refl _, fun _ _ => rfl⟩
theorem row_on {w w' : World} {base n : Nat} {v : Value} {xs : List Value} (h : w.ownsRow base 2 1 v n xs) (hb : Below w.heap.size w w') : w'.ownsRow base 2 1 v n xs := by
  refine h.kept (row := none) ⟨hb.os, hb.tape, hb.output, hb.size, fun k hk _ => hb.block k hk⟩ ?_
  by_cases e : v.ownBlock = none
  · exact Or.inl e
  · exact Or.inr e
theorem row_off {w w' : World} {base n : Nat} {row : Option Nat} {v : Value} {xs : List Value} (h : w.ownsRow base 2 1 v n xs) (hg : w.grownBy w' row) (hne : ∀ k j, v.ownBlock = some k → row = some j → k ≠ j) : w'.ownsRow base 2 1 v n xs := by
  refine h.kept hg ?_
  cases e : v.ownBlock with
  | none => exact Or.inl rfl
  | some k => exact Or.inr fun x => hne k k e x.symm rfl

set_option maxRecDepth 20000 in
set_option maxHeartbeats 2000000 in
theorem movedLaw (w : World) (a0_0 a0_1 : Int) (v0 : Value) (L0 : List Int) (h0 : Lists.Reads w v0 L0) (f0 : L0.length < 9223372036854775808) (n1 : Int) (a2_0 a2_1 : Int) (v2 : Value) (L2 : List Int) (h2 : Lists.Reads w v2 L2) (f2 : L2.length < 9223372036854775808) (r0 : Int) (r1 : Int) (b2 : Bool)
    (SA : ∀ (w : World) (t0 t2 : Value), Lists.Reads w t0 L0 → Lists.Reads w t2 L2 → Calls Try.prog 6 #[Bo.sv a0_0 a0_1 t0, .int .i64 n1, Bo.sv a2_0 a2_1 t2] w fun e w' => e = .returned (.tuple #[.int .i64 r0, .int .i64 r1, .bool b2]) ∧ Below w.heap.size w w')
    (IA : ∀ (w : World) (t0 t2 : Value), Lists.Reads w t0 L0 → Lists.Reads w t2 L2 → Calls Try.prog 8 #[Bo.sv a0_0 a0_1 t0, .int .i64 n1, Bo.sv a2_0 a2_1 t2] w fun e w' => e = .returned (.tuple #[.int .i64 r0, .int .i64 r1, .bool b2]) ∧ Below w.heap.size w w') :
    Calls Try.prog 3 #[Bo.sv a0_0 a0_1 v0, .int .i64 n1, Bo.sv a2_0 a2_1 v2] w fun e w' => e = .returned (.bool true) ∧ Below w.heap.size w w' := by
  obtain ⟨s0, c0, rfl⟩ := h0.form
  obtain ⟨s2, c2, rfl⟩ := h2.form
  have SZ0 : Hid (∀ (w' : World) (l : Int), 0 ≤ l → l ≤ 1048576 → Calls Try.prog 5 #[Bo.sv a0_0 a0_1 (.slice s0 L0.length c0), .int .i64 l] w' fun e w'' => (∃ r : Int, e = .returned (.int .i64 r) ∧ (0 ≤ r → L0.length ≤ 1048576) ∧ r ≤ 1048576) ∧ Below w'.heap.size w' w'') := fun w' l q0 q1 => Bo.sz_any a0_0 a0_1 s0 L0.length c0 l w' q0 q1 f0
  have TO0 : Hid (L0.length ≤ 1048576 → ∀ w', Below w.heap.size w w' → Calls Try.prog 7 #[Bo.sv a0_0 a0_1 (.slice s0 L0.length c0)] w' fun e w'' => ∃ g, e = .returned (Bo.sv a0_0 a0_1 (.slice (some ⟨g, 0, none⟩) L0.length L0.length)) ∧ w''.ownsRow w'.heap.size 2 1 (.slice (some ⟨g, 0, none⟩) L0.length L0.length) L0.length (ints L0) ∧ Below w'.heap.size w' w'') := fun hl w' hb => Bo.to_st a0_0 a0_1 L0 _ w' (h0.on hb) hl
  have EQ0 : Hid (∀ w' A B t u, w'.ownsRow A 2 1 t L0.length (ints L0) → w'.ownsRow B 2 1 u L0.length (ints L0) → Calls Try.prog 9 #[Bo.sv a0_0 a0_1 t, Bo.sv a0_0 a0_1 u] w' fun e w'' => e = .returned (.bool true) ∧ Below w'.heap.size w' w'') := fun w' A B t u h h' => Bo.eq_st a0_0 a0_1 L0 t u A B w' h h'
  have SZ2 : Hid (∀ (w' : World) (l : Int), 0 ≤ l → l ≤ 1048576 → Calls Try.prog 5 #[Bo.sv a2_0 a2_1 (.slice s2 L2.length c2), .int .i64 l] w' fun e w'' => (∃ r : Int, e = .returned (.int .i64 r) ∧ (0 ≤ r → L2.length ≤ 1048576) ∧ r ≤ 1048576) ∧ Below w'.heap.size w' w'') := fun w' l q0 q1 => Bo.sz_any a2_0 a2_1 s2 L2.length c2 l w' q0 q1 f2
  have TO2 : Hid (L2.length ≤ 1048576 → ∀ w', Below w.heap.size w w' → Calls Try.prog 7 #[Bo.sv a2_0 a2_1 (.slice s2 L2.length c2)] w' fun e w'' => ∃ g, e = .returned (Bo.sv a2_0 a2_1 (.slice (some ⟨g, 0, none⟩) L2.length L2.length)) ∧ w''.ownsRow w'.heap.size 2 1 (.slice (some ⟨g, 0, none⟩) L2.length L2.length) L2.length (ints L2) ∧ Below w'.heap.size w' w'') := fun hl w' hb => Bo.to_st a2_0 a2_1 L2 _ w' (h2.on hb) hl
  have EQ2 : Hid (∀ w' A B t u, w'.ownsRow A 2 1 t L2.length (ints L2) → w'.ownsRow B 2 1 u L2.length (ints L2) → Calls Try.prog 9 #[Bo.sv a2_0 a2_1 t, Bo.sv a2_0 a2_1 u] w' fun e w'' => e = .returned (.bool true) ∧ Below w'.heap.size w' w'') := fun w' A B t u h h' => Bo.eq_st a2_0 a2_1 L2 t u A B w' h h'
  have SU : Hid (∀ (w' : World) (B0 B2 : Nat) (t0 t2 : Value), w'.ownsRow B0 2 1 t0 L0.length (ints L0) → w'.ownsRow B2 2 1 t2 L2.length (ints L2) → Calls Try.prog 6 #[Bo.sv a0_0 a0_1 t0, .int .i64 n1, Bo.sv a2_0 a2_1 t2] w' fun e w'' => e = .returned (.tuple #[.int .i64 r0, .int .i64 r1, .bool b2]) ∧ Below w'.heap.size w' w'') := fun w' B0 B2 t0 t2 o0 o2 => SA w' t0 t2 (Lists.reads_row o0) (Lists.reads_row o2)
  have IU : Hid (∀ (w' : World) (B0 B2 : Nat) (t0 t2 : Value), w'.ownsRow B0 2 1 t0 L0.length (ints L0) → w'.ownsRow B2 2 1 t2 L2.length (ints L2) → Calls Try.prog 8 #[Bo.sv a0_0 a0_1 t0, .int .i64 n1, Bo.sv a2_0 a2_1 t2] w' fun e w'' => e = .returned (.tuple #[.int .i64 r0, .int .i64 r1, .bool b2]) ∧ Below w'.heap.size w' w'') := fun w' B0 B2 t0 t2 o0 o2 => IA w' t0 t2 (Lists.reads_row o0) (Lists.reads_row o2)
  have hbb : ∀ b : Bool, (b != b) = false := fun b => by cases b <;> rfl
  have hii : ∀ b : Int, (b != b) = false := fun b => by simp
  clear SA IA  h0 h2  f0 f2
  obtain ⟨wa, hwa⟩ : ∃ wa, wa = ((w.alloc (Obj.cells #[.int .i64 a0_0, .int .i64 a0_1, .slice s0 L0.length c0] 24)).alloc (Obj.cells #[.int .i64 a2_0, .int .i64 a2_1, .slice s2 L2.length c2] 24)) := ⟨_, rfl⟩
  have HWA : Hid (wa = ((w.alloc (Obj.cells #[.int .i64 a0_0, .int .i64 a0_1, .slice s0 L0.length c0] 24)).alloc (Obj.cells #[.int .i64 a2_0, .int .i64 a2_1, .slice s2 L2.length c2] 24))) := hwa
  have BBwa : Hid (Below w.heap.size w wa) := (by show Below _ _ _; rw [hwa]; exact (((Below.refl w.heap.size w).alloc (Nat.le_refl _) _).alloc (by simp) _))
  have ZZwa : Hid (wa.heap.size = w.heap.size + 2) := (by show _ = _; rw [hwa]; simp)
  have Ka0_wa : Hid (Bo.Box wa w.heap.size (.int .i64 a0_0) (.int .i64 a0_1) (.slice s0 L0.length c0)) := (by show Bo.Box _ _ _ _ _; rw [hwa]; unfold Bo.Box; simp [go_sem])
  have Ka2_wa : Hid (Bo.Box wa (w.heap.size + 1) (.int .i64 a2_0) (.int .i64 a2_1) (.slice s2 L2.length c2)) := (by show Bo.Box _ _ _ _ _; rw [hwa]; unfold Bo.Box; simp [go_sem])
  clear hwa
  go_enter Try.func3, Try.ntmps3
  obtain ⟨ca0_0, ca0_1, ca0_2⟩ := Ka0_wa.out
  go_wp2_with fail
  rw [← HWA.out]
  clear HWA
  refine (SZ0.out wa 1048576 (by omega) (by omega)).mono ?_
  rintro e w1 ⟨⟨z0, rfl, y0, l0⟩, b⟩
  clear ca0_0 ca0_1 ca0_2
  have ZZw1 : Hid (wa.heap.size ≤ w1.heap.size) := b.size
  have BBw1 : Hid (Below w.heap.size w w1) := BBwa.out.trans (b.mono BBwa.out.size)
  have Ka0_w1 : Hid (Bo.Box w1 w.heap.size (.int .i64 a0_0) (.int .i64 a0_1) (.slice s0 L0.length c0)) := Ka0_wa.out.on b (by have q0 := ZZwa.out; omega)
  have Ka2_w1 : Hid (Bo.Box w1 (w.heap.size + 1) (.int .i64 a2_0) (.int .i64 a2_1) (.slice s2 L2.length c2)) := Ka2_wa.out.on b (by have q0 := ZZwa.out; omega)
  clear b
  clear Ka0_wa Ka2_wa
  by_cases hneg0 : z0 < 0
  · go_wp2_with fail
    go_ret
    exact ⟨rfl, BBw1.out⟩
  have HL0 : Hid (L0.length ≤ 1048576) := y0 (by omega)
  obtain ⟨ca2_0, ca2_1, ca2_2⟩ := Ka2_w1.out
  go_wp2_with fail
  refine (SZ2.out w1 z0 (by omega) l0).mono ?_
  rintro e w2 ⟨⟨z2, rfl, y2, l2⟩, b⟩
  clear ca2_0 ca2_1 ca2_2
  have ZZw2 : Hid (w1.heap.size ≤ w2.heap.size) := b.size
  have BBw2 : Hid (Below w.heap.size w w2) := BBw1.out.trans (b.mono BBw1.out.size)
  have Ka0_w2 : Hid (Bo.Box w2 w.heap.size (.int .i64 a0_0) (.int .i64 a0_1) (.slice s0 L0.length c0)) := Ka0_w1.out.on b (by have q0 := ZZwa.out; have q1 := ZZw1.out; have q2 := HL0.out; omega)
  have Ka2_w2 : Hid (Bo.Box w2 (w.heap.size + 1) (.int .i64 a2_0) (.int .i64 a2_1) (.slice s2 L2.length c2)) := Ka2_w1.out.on b (by have q0 := ZZwa.out; have q1 := ZZw1.out; have q2 := HL0.out; omega)
  clear b
  clear Ka0_w1 Ka2_w1
  by_cases hneg2 : z2 < 0
  · go_wp2_with fail
    go_ret
    exact ⟨rfl, BBw2.out⟩
  have HL2 : Hid (L2.length ≤ 1048576) := y2 (by omega)
  obtain ⟨ca0_0, ca0_1, ca0_2⟩ := Ka0_w2.out
  obtain ⟨ca2_0, ca2_1, ca2_2⟩ := Ka2_w2.out
  have BBw2d : Hid (Below w.heap.size w w2.drew) := below_drewN BBw2.out 1
  have Ka0_w2d : Hid (Bo.Box w2.drew w.heap.size (.int .i64 a0_0) (.int .i64 a0_1) (.slice s0 L0.length c0)) := Ka0_w2.out
  have Ka2_w2d : Hid (Bo.Box w2.drew (w.heap.size + 1) (.int .i64 a2_0) (.int .i64 a2_1) (.slice s2 L2.length c2)) := Ka2_w2.out
  have ZZw2d : Hid (w2.drew.heap.size = w2.heap.size) := rfl
  go_wp2_with fail
  go_region_held3 (fun w' => w'.cell? ⟨w.heap.size, 0, none⟩ = some (.int .i64 a0_0) ∧ w'.cell? ⟨w.heap.size, 1, none⟩ = some (.int .i64 a0_1) ∧ w'.cell? ⟨w.heap.size, 2, none⟩ = some (.slice s0 L0.length c0) ∧ w'.cell? ⟨(w.heap.size + 1), 0, none⟩ = some (.int .i64 a2_0) ∧ w'.cell? ⟨(w.heap.size + 1), 1, none⟩ = some (.int .i64 a2_1) ∧ w'.cell? ⟨(w.heap.size + 1), 2, none⟩ = some (.slice s2 L2.length c2)) (go_keep)
    (first
    | (go_at_call_of 7 (Value.slice s0 L0.length c0); refine (TO0.out HL0.out _ BBw2d.out).mono ?_; rintro e w3 ⟨gp0, rfl, r, b⟩; clear ca0_0 ca0_1 ca0_2; clear ca2_0 ca2_1 ca2_2; have ZZw3 : Hid (w2.drew.heap.size ≤ w3.heap.size) := b.size; have BBw3 : Hid (Below w.heap.size w w3) := BBw2d.out.trans (b.mono BBw2d.out.size); have Ka0_w3 : Hid (Bo.Box w3 w.heap.size (.int .i64 a0_0) (.int .i64 a0_1) (.slice s0 L0.length c0)) := Ka0_w2d.out.on b (by have q0 := ZZwa.out; have q1 := ZZw1.out; have q2 := ZZw2.out; have q3 := ZZw2d.out; have q4 := HL0.out; have q5 := HL2.out; omega); have Ka2_w3 : Hid (Bo.Box w3 (w.heap.size + 1) (.int .i64 a2_0) (.int .i64 a2_1) (.slice s2 L2.length c2)) := Ka2_w2d.out.on b (by have q0 := ZZwa.out; have q1 := ZZw1.out; have q2 := ZZw2.out; have q3 := ZZw2d.out; have q4 := HL0.out; have q5 := HL2.out; omega); have Rp0_w3 : Hid (w3.ownsRow w2.drew.heap.size 2 1 (.slice (some ⟨gp0, 0, none⟩) L0.length L0.length) L0.length (ints L0)) := r; have LTp0 : Hid (∀ k, (Value.slice (some ⟨gp0, 0, none⟩) L0.length L0.length).ownBlock = some k → w2.drew.heap.size ≤ k ∧ k < w3.heap.size) := fun k hk => Rp0_w3.out.lt k hk; clear r b; clear Ka0_w2d Ka2_w2d; obtain ⟨da0_w3_0, da0_w3_1, da0_w3_2⟩ := Ka0_w3.out; obtain ⟨da2_w3_0, da2_w3_1, da2_w3_2⟩ := Ka2_w3.out)
    | (go_at_call_of 7 (Value.slice s2 L2.length c2); refine (TO2.out HL2.out _ BBw3.out).mono ?_; rintro e w4 ⟨gp2, rfl, r, b⟩; have ZZw4 : Hid (w3.heap.size ≤ w4.heap.size) := b.size; have BBw4 : Hid (Below w.heap.size w w4) := BBw3.out.trans (b.mono BBw3.out.size); have Rp0_w4 : Hid (w4.ownsRow w2.drew.heap.size 2 1 (.slice (some ⟨gp0, 0, none⟩) L0.length L0.length) L0.length (ints L0)) := row_on Rp0_w3.out b; have Ka0_w4 : Hid (Bo.Box w4 w.heap.size (.int .i64 a0_0) (.int .i64 a0_1) (.slice s0 L0.length c0)) := Ka0_w3.out.on b (by have q0 := ZZwa.out; have q1 := ZZw1.out; have q2 := ZZw2.out; have q3 := ZZw2d.out; have q4 := ZZw3.out; have q5 := HL0.out; have q6 := HL2.out; omega); have Ka2_w4 : Hid (Bo.Box w4 (w.heap.size + 1) (.int .i64 a2_0) (.int .i64 a2_1) (.slice s2 L2.length c2)) := Ka2_w3.out.on b (by have q0 := ZZwa.out; have q1 := ZZw1.out; have q2 := ZZw2.out; have q3 := ZZw2d.out; have q4 := ZZw3.out; have q5 := HL0.out; have q6 := HL2.out; omega); have Rp2_w4 : Hid (w4.ownsRow w3.heap.size 2 1 (.slice (some ⟨gp2, 0, none⟩) L2.length L2.length) L2.length (ints L2)) := r; have LTp2 : Hid (∀ k, (Value.slice (some ⟨gp2, 0, none⟩) L2.length L2.length).ownBlock = some k → w3.heap.size ≤ k ∧ k < w4.heap.size) := fun k hk => Rp2_w4.out.lt k hk; clear r b; clear Rp0_w3 Ka0_w3 Ka2_w3; obtain ⟨da0_w4_0, da0_w4_1, da0_w4_2⟩ := Ka0_w4.out; obtain ⟨da2_w4_0, da2_w4_1, da2_w4_2⟩ := Ka2_w4.out)
    | (go_at_call 6; refine (SU.out _ _ _ _ _ Rp0_w4.out Rp2_w4.out).mono ?_; rintro e w5 ⟨rfl, b⟩; have ZZw5 : Hid (w4.heap.size ≤ w5.heap.size) := b.size; have BBw5 : Hid (Below w.heap.size w w5) := BBw4.out.trans (b.mono BBw4.out.size); have Rp0_w5 : Hid (w5.ownsRow w2.drew.heap.size 2 1 (.slice (some ⟨gp0, 0, none⟩) L0.length L0.length) L0.length (ints L0)) := row_on Rp0_w4.out b; have Rp2_w5 : Hid (w5.ownsRow w3.heap.size 2 1 (.slice (some ⟨gp2, 0, none⟩) L2.length L2.length) L2.length (ints L2)) := row_on Rp2_w4.out b; have Ka0_w5 : Hid (Bo.Box w5 w.heap.size (.int .i64 a0_0) (.int .i64 a0_1) (.slice s0 L0.length c0)) := Ka0_w4.out.on b (by have q0 := ZZwa.out; have q1 := ZZw1.out; have q2 := ZZw2.out; have q3 := ZZw2d.out; have q4 := ZZw3.out; have q5 := ZZw4.out; have q6 := HL0.out; have q7 := HL2.out; omega); have Ka2_w5 : Hid (Bo.Box w5 (w.heap.size + 1) (.int .i64 a2_0) (.int .i64 a2_1) (.slice s2 L2.length c2)) := Ka2_w4.out.on b (by have q0 := ZZwa.out; have q1 := ZZw1.out; have q2 := ZZw2.out; have q3 := ZZw2d.out; have q4 := ZZw3.out; have q5 := ZZw4.out; have q6 := HL0.out; have q7 := HL2.out; omega); clear b; clear Rp0_w4 Rp2_w4 Ka0_w4 Ka2_w4; obtain ⟨da0_w5_0, da0_w5_1, da0_w5_2⟩ := Ka0_w5.out; obtain ⟨da2_w5_0, da2_w5_1, da2_w5_2⟩ := Ka2_w5.out))
  clear Rp0_w5
  clear Rp2_w5
  obtain ⟨ca0_0, ca0_1, ca0_2⟩ := Ka0_w5.out
  go_wp2_with fail
  refine (TO0.out HL0.out w5 BBw5.out).mono ?_
  rintro e w6 ⟨gx0, rfl, r, b⟩
  clear ca0_0 ca0_1 ca0_2
  have ZZw6 : Hid (w5.heap.size ≤ w6.heap.size) := b.size
  have BBw6 : Hid (Below w.heap.size w w6) := BBw5.out.trans (b.mono BBw5.out.size)
  have Ka0_w6 : Hid (Bo.Box w6 w.heap.size (.int .i64 a0_0) (.int .i64 a0_1) (.slice s0 L0.length c0)) := Ka0_w5.out.on b (by have q0 := ZZwa.out; have q1 := ZZw1.out; have q2 := ZZw2.out; have q3 := ZZw2d.out; have q4 := ZZw3.out; have q5 := ZZw4.out; have q6 := ZZw5.out; have q7 := HL0.out; have q8 := HL2.out; omega)
  have Ka2_w6 : Hid (Bo.Box w6 (w.heap.size + 1) (.int .i64 a2_0) (.int .i64 a2_1) (.slice s2 L2.length c2)) := Ka2_w5.out.on b (by have q0 := ZZwa.out; have q1 := ZZw1.out; have q2 := ZZw2.out; have q3 := ZZw2d.out; have q4 := ZZw3.out; have q5 := ZZw4.out; have q6 := ZZw5.out; have q7 := HL0.out; have q8 := HL2.out; omega)
  have Rx0_w6 : Hid (w6.ownsRow w5.heap.size 2 1 (.slice (some ⟨gx0, 0, none⟩) L0.length L0.length) L0.length (ints L0)) := r
  have LTx0 : Hid (∀ k, (Value.slice (some ⟨gx0, 0, none⟩) L0.length L0.length).ownBlock = some k → w5.heap.size ≤ k ∧ k < w6.heap.size) := fun k hk => Rx0_w6.out.lt k hk
  clear r b
  clear Ka0_w5 Ka2_w5
  obtain ⟨w7, hw7⟩ : ∃ wz, wz = w6.alloc (Obj.cells #[.int .i64 a0_0, .int .i64 a0_1, .slice (some ⟨gx0, 0, none⟩) L0.length L0.length] 28) := ⟨_, rfl⟩
  have HWw7 : Hid (w7 = w6.alloc (Obj.cells #[.int .i64 a0_0, .int .i64 a0_1, .slice (some ⟨gx0, 0, none⟩) L0.length L0.length] 28)) := hw7
  have b : Below w6.heap.size w6 w7 := by rw [hw7]; exact (Below.refl _ _).alloc (Nat.le_refl _) _
  have ZZZw7 : Hid (w7.heap.size = w6.heap.size + 1) := (by show _ = _; rw [hw7]; simp)
  have ZZw7 : Hid (w6.heap.size ≤ w7.heap.size) := b.size
  have BBw7 : Hid (Below w.heap.size w w7) := BBw6.out.trans (b.mono BBw6.out.size)
  have Rx0_w7 : Hid (w7.ownsRow w5.heap.size 2 1 (.slice (some ⟨gx0, 0, none⟩) L0.length L0.length) L0.length (ints L0)) := row_on Rx0_w6.out b
  have Ka0_w7 : Hid (Bo.Box w7 w.heap.size (.int .i64 a0_0) (.int .i64 a0_1) (.slice s0 L0.length c0)) := Ka0_w6.out.on b (by have q0 := ZZwa.out; have q1 := ZZw1.out; have q2 := ZZw2.out; have q3 := ZZw2d.out; have q4 := ZZw3.out; have q5 := ZZw4.out; have q6 := ZZw5.out; have q7 := ZZw6.out; have q8 := ZZZw7.out; have q9 := HL0.out; have q10 := HL2.out; omega)
  have Ka2_w7 : Hid (Bo.Box w7 (w.heap.size + 1) (.int .i64 a2_0) (.int .i64 a2_1) (.slice s2 L2.length c2)) := Ka2_w6.out.on b (by have q0 := ZZwa.out; have q1 := ZZw1.out; have q2 := ZZw2.out; have q3 := ZZw2d.out; have q4 := ZZw3.out; have q5 := ZZw4.out; have q6 := ZZw5.out; have q7 := ZZw6.out; have q8 := ZZZw7.out; have q9 := HL0.out; have q10 := HL2.out; omega)
  have Kx0_w7 : Hid (Bo.Box w7 w6.heap.size (.int .i64 a0_0) (.int .i64 a0_1) (.slice (some ⟨gx0, 0, none⟩) L0.length L0.length)) := (by show Bo.Box _ _ _ _ _; rw [hw7]; unfold Bo.Box; simp [go_sem])
  clear b hw7
  clear Rx0_w6
  obtain ⟨ca2_0, ca2_1, ca2_2⟩ := Ka2_w6.out
  have ya2 : (w.heap.size + 1) < w6.heap.size := by have q0 := ZZwa.out; have q1 := ZZw1.out; have q2 := ZZw2.out; have q3 := ZZw2d.out; have q4 := ZZw3.out; have q5 := ZZw4.out; have q6 := ZZw5.out; have q7 := ZZw6.out; have q8 := ZZZw7.out; have q9 := ZZw7.out; have q10 := HL0.out; have q11 := HL2.out; omega
  go_wp2_with fail
  rw [← HWw7.out]
  clear HWw7
  refine (TO2.out HL2.out w7 BBw7.out).mono ?_
  rintro e w8 ⟨gx2, rfl, r, b⟩
  clear ya2 Ka0_w6 Ka2_w6
  clear ca2_0 ca2_1 ca2_2
  have ZZw8 : Hid (w7.heap.size ≤ w8.heap.size) := b.size
  have BBw8 : Hid (Below w.heap.size w w8) := BBw7.out.trans (b.mono BBw7.out.size)
  have Rx0_w8 : Hid (w8.ownsRow w5.heap.size 2 1 (.slice (some ⟨gx0, 0, none⟩) L0.length L0.length) L0.length (ints L0)) := row_on Rx0_w7.out b
  have Ka0_w8 : Hid (Bo.Box w8 w.heap.size (.int .i64 a0_0) (.int .i64 a0_1) (.slice s0 L0.length c0)) := Ka0_w7.out.on b (by have q0 := ZZwa.out; have q1 := ZZw1.out; have q2 := ZZw2.out; have q3 := ZZw2d.out; have q4 := ZZw3.out; have q5 := ZZw4.out; have q6 := ZZw5.out; have q7 := ZZw6.out; have q8 := ZZZw7.out; have q9 := ZZw7.out; have q10 := HL0.out; have q11 := HL2.out; omega)
  have Ka2_w8 : Hid (Bo.Box w8 (w.heap.size + 1) (.int .i64 a2_0) (.int .i64 a2_1) (.slice s2 L2.length c2)) := Ka2_w7.out.on b (by have q0 := ZZwa.out; have q1 := ZZw1.out; have q2 := ZZw2.out; have q3 := ZZw2d.out; have q4 := ZZw3.out; have q5 := ZZw4.out; have q6 := ZZw5.out; have q7 := ZZw6.out; have q8 := ZZZw7.out; have q9 := ZZw7.out; have q10 := HL0.out; have q11 := HL2.out; omega)
  have Kx0_w8 : Hid (Bo.Box w8 w6.heap.size (.int .i64 a0_0) (.int .i64 a0_1) (.slice (some ⟨gx0, 0, none⟩) L0.length L0.length)) := Kx0_w7.out.on b (by have q0 := ZZwa.out; have q1 := ZZw1.out; have q2 := ZZw2.out; have q3 := ZZw2d.out; have q4 := ZZw3.out; have q5 := ZZw4.out; have q6 := ZZw5.out; have q7 := ZZw6.out; have q8 := ZZZw7.out; have q9 := ZZw7.out; have q10 := HL0.out; have q11 := HL2.out; omega)
  have Rx2_w8 : Hid (w8.ownsRow w7.heap.size 2 1 (.slice (some ⟨gx2, 0, none⟩) L2.length L2.length) L2.length (ints L2)) := r
  have LTx2 : Hid (∀ k, (Value.slice (some ⟨gx2, 0, none⟩) L2.length L2.length).ownBlock = some k → w7.heap.size ≤ k ∧ k < w8.heap.size) := fun k hk => Rx2_w8.out.lt k hk
  clear r b
  clear Rx0_w7 Ka0_w7 Ka2_w7 Kx0_w7
  obtain ⟨w9, hw9⟩ : ∃ wz, wz = w8.alloc (Obj.cells #[.int .i64 a2_0, .int .i64 a2_1, .slice (some ⟨gx2, 0, none⟩) L2.length L2.length] 28) := ⟨_, rfl⟩
  have HWw9 : Hid (w9 = w8.alloc (Obj.cells #[.int .i64 a2_0, .int .i64 a2_1, .slice (some ⟨gx2, 0, none⟩) L2.length L2.length] 28)) := hw9
  have b : Below w8.heap.size w8 w9 := by rw [hw9]; exact (Below.refl _ _).alloc (Nat.le_refl _) _
  have ZZZw9 : Hid (w9.heap.size = w8.heap.size + 1) := (by show _ = _; rw [hw9]; simp)
  have ZZw9 : Hid (w8.heap.size ≤ w9.heap.size) := b.size
  have BBw9 : Hid (Below w.heap.size w w9) := BBw8.out.trans (b.mono BBw8.out.size)
  have Rx0_w9 : Hid (w9.ownsRow w5.heap.size 2 1 (.slice (some ⟨gx0, 0, none⟩) L0.length L0.length) L0.length (ints L0)) := row_on Rx0_w8.out b
  have Rx2_w9 : Hid (w9.ownsRow w7.heap.size 2 1 (.slice (some ⟨gx2, 0, none⟩) L2.length L2.length) L2.length (ints L2)) := row_on Rx2_w8.out b
  have Ka0_w9 : Hid (Bo.Box w9 w.heap.size (.int .i64 a0_0) (.int .i64 a0_1) (.slice s0 L0.length c0)) := Ka0_w8.out.on b (by have q0 := ZZwa.out; have q1 := ZZw1.out; have q2 := ZZw2.out; have q3 := ZZw2d.out; have q4 := ZZw3.out; have q5 := ZZw4.out; have q6 := ZZw5.out; have q7 := ZZw6.out; have q8 := ZZZw7.out; have q9 := ZZw7.out; have q10 := ZZw8.out; have q11 := ZZZw9.out; have q12 := HL0.out; have q13 := HL2.out; omega)
  have Ka2_w9 : Hid (Bo.Box w9 (w.heap.size + 1) (.int .i64 a2_0) (.int .i64 a2_1) (.slice s2 L2.length c2)) := Ka2_w8.out.on b (by have q0 := ZZwa.out; have q1 := ZZw1.out; have q2 := ZZw2.out; have q3 := ZZw2d.out; have q4 := ZZw3.out; have q5 := ZZw4.out; have q6 := ZZw5.out; have q7 := ZZw6.out; have q8 := ZZZw7.out; have q9 := ZZw7.out; have q10 := ZZw8.out; have q11 := ZZZw9.out; have q12 := HL0.out; have q13 := HL2.out; omega)
  have Kx0_w9 : Hid (Bo.Box w9 w6.heap.size (.int .i64 a0_0) (.int .i64 a0_1) (.slice (some ⟨gx0, 0, none⟩) L0.length L0.length)) := Kx0_w8.out.on b (by have q0 := ZZwa.out; have q1 := ZZw1.out; have q2 := ZZw2.out; have q3 := ZZw2d.out; have q4 := ZZw3.out; have q5 := ZZw4.out; have q6 := ZZw5.out; have q7 := ZZw6.out; have q8 := ZZZw7.out; have q9 := ZZw7.out; have q10 := ZZw8.out; have q11 := ZZZw9.out; have q12 := HL0.out; have q13 := HL2.out; omega)
  have Kx2_w9 : Hid (Bo.Box w9 w8.heap.size (.int .i64 a2_0) (.int .i64 a2_1) (.slice (some ⟨gx2, 0, none⟩) L2.length L2.length)) := (by show Bo.Box _ _ _ _ _; rw [hw9]; unfold Bo.Box; simp [go_sem])
  clear b hw9
  clear Rx0_w8 Rx2_w8
  obtain ⟨cx0_0, cx0_1, cx0_2⟩ := Kx0_w8.out
  have yx0 : w6.heap.size < w8.heap.size := by have q0 := ZZwa.out; have q1 := ZZw1.out; have q2 := ZZw2.out; have q3 := ZZw2d.out; have q4 := ZZw3.out; have q5 := ZZw4.out; have q6 := ZZw5.out; have q7 := ZZw6.out; have q8 := ZZZw7.out; have q9 := ZZw7.out; have q10 := ZZw8.out; have q11 := ZZZw9.out; have q12 := ZZw9.out; have q13 := HL0.out; have q14 := HL2.out; omega
  obtain ⟨cx2_0, cx2_1, cx2_2⟩ := Kx2_w9.out
  go_wp2_with fail
  rw [← HWw9.out]
  clear HWw9
  refine (IU.out w9 _ _ _ _ Rx0_w9.out Rx2_w9.out).mono ?_
  rintro e w10 ⟨rfl, b⟩
  clear yx0 Ka0_w8 Ka2_w8 Kx0_w8
  clear cx0_0 cx0_1 cx0_2
  clear cx2_0 cx2_1 cx2_2
  have ZZw10 : Hid (w9.heap.size ≤ w10.heap.size) := b.size
  have BBw10 : Hid (Below w.heap.size w w10) := BBw9.out.trans (b.mono BBw9.out.size)
  have Rx0_w10 : Hid (w10.ownsRow w5.heap.size 2 1 (.slice (some ⟨gx0, 0, none⟩) L0.length L0.length) L0.length (ints L0)) := row_on Rx0_w9.out b
  have Rx2_w10 : Hid (w10.ownsRow w7.heap.size 2 1 (.slice (some ⟨gx2, 0, none⟩) L2.length L2.length) L2.length (ints L2)) := row_on Rx2_w9.out b
  have Ka0_w10 : Hid (Bo.Box w10 w.heap.size (.int .i64 a0_0) (.int .i64 a0_1) (.slice s0 L0.length c0)) := Ka0_w9.out.on b (by have q0 := ZZwa.out; have q1 := ZZw1.out; have q2 := ZZw2.out; have q3 := ZZw2d.out; have q4 := ZZw3.out; have q5 := ZZw4.out; have q6 := ZZw5.out; have q7 := ZZw6.out; have q8 := ZZZw7.out; have q9 := ZZw7.out; have q10 := ZZw8.out; have q11 := ZZZw9.out; have q12 := ZZw9.out; have q13 := HL0.out; have q14 := HL2.out; omega)
  have Ka2_w10 : Hid (Bo.Box w10 (w.heap.size + 1) (.int .i64 a2_0) (.int .i64 a2_1) (.slice s2 L2.length c2)) := Ka2_w9.out.on b (by have q0 := ZZwa.out; have q1 := ZZw1.out; have q2 := ZZw2.out; have q3 := ZZw2d.out; have q4 := ZZw3.out; have q5 := ZZw4.out; have q6 := ZZw5.out; have q7 := ZZw6.out; have q8 := ZZZw7.out; have q9 := ZZw7.out; have q10 := ZZw8.out; have q11 := ZZZw9.out; have q12 := ZZw9.out; have q13 := HL0.out; have q14 := HL2.out; omega)
  have Kx0_w10 : Hid (Bo.Box w10 w6.heap.size (.int .i64 a0_0) (.int .i64 a0_1) (.slice (some ⟨gx0, 0, none⟩) L0.length L0.length)) := Kx0_w9.out.on b (by have q0 := ZZwa.out; have q1 := ZZw1.out; have q2 := ZZw2.out; have q3 := ZZw2d.out; have q4 := ZZw3.out; have q5 := ZZw4.out; have q6 := ZZw5.out; have q7 := ZZw6.out; have q8 := ZZZw7.out; have q9 := ZZw7.out; have q10 := ZZw8.out; have q11 := ZZZw9.out; have q12 := ZZw9.out; have q13 := HL0.out; have q14 := HL2.out; omega)
  have Kx2_w10 : Hid (Bo.Box w10 w8.heap.size (.int .i64 a2_0) (.int .i64 a2_1) (.slice (some ⟨gx2, 0, none⟩) L2.length L2.length)) := Kx2_w9.out.on b (by have q0 := ZZwa.out; have q1 := ZZw1.out; have q2 := ZZw2.out; have q3 := ZZw2d.out; have q4 := ZZw3.out; have q5 := ZZw4.out; have q6 := ZZw5.out; have q7 := ZZw6.out; have q8 := ZZZw7.out; have q9 := ZZw7.out; have q10 := ZZw8.out; have q11 := ZZZw9.out; have q12 := ZZw9.out; have q13 := HL0.out; have q14 := HL2.out; omega)
  clear b
  clear Rx0_w9 Rx2_w9 Ka0_w9 Ka2_w9 Kx0_w9 Kx2_w9
  obtain ⟨ca0_0, ca0_1, ca0_2⟩ := Ka0_w10.out
  obtain ⟨cx0_0, cx0_1, cx0_2⟩ := Kx0_w10.out
  have BBw10d : Hid (Below w.heap.size w w10.drew) := below_drewN BBw10.out 1
  have Rx0_w10d : Hid (w10.drew.ownsRow w5.heap.size 2 1 (.slice (some ⟨gx0, 0, none⟩) L0.length L0.length) L0.length (ints L0)) := Rx0_w10.out
  have Rx2_w10d : Hid (w10.drew.ownsRow w7.heap.size 2 1 (.slice (some ⟨gx2, 0, none⟩) L2.length L2.length) L2.length (ints L2)) := Rx2_w10.out
  have Ka0_w10d : Hid (Bo.Box w10.drew w.heap.size (.int .i64 a0_0) (.int .i64 a0_1) (.slice s0 L0.length c0)) := Ka0_w10.out
  have Ka2_w10d : Hid (Bo.Box w10.drew (w.heap.size + 1) (.int .i64 a2_0) (.int .i64 a2_1) (.slice s2 L2.length c2)) := Ka2_w10.out
  have Kx0_w10d : Hid (Bo.Box w10.drew w6.heap.size (.int .i64 a0_0) (.int .i64 a0_1) (.slice (some ⟨gx0, 0, none⟩) L0.length L0.length)) := Kx0_w10.out
  have Kx2_w10d : Hid (Bo.Box w10.drew w8.heap.size (.int .i64 a2_0) (.int .i64 a2_1) (.slice (some ⟨gx2, 0, none⟩) L2.length L2.length)) := Kx2_w10.out
  have ZZw10d : Hid (w10.drew.heap.size = w10.heap.size) := rfl
  go_wp2_with fail
  go_region_held3 (fun w' => w'.cell? ⟨w.heap.size, 0, none⟩ = some (.int .i64 a0_0) ∧ w'.cell? ⟨w.heap.size, 1, none⟩ = some (.int .i64 a0_1) ∧ w'.cell? ⟨w.heap.size, 2, none⟩ = some (.slice s0 L0.length c0) ∧ w'.cell? ⟨w6.heap.size, 0, none⟩ = some (.int .i64 a0_0) ∧ w'.cell? ⟨w6.heap.size, 1, none⟩ = some (.int .i64 a0_1) ∧ w'.cell? ⟨w6.heap.size, 2, none⟩ = some (.slice (some ⟨gx0, 0, none⟩) L0.length L0.length)) (go_keep)
    (first
    | (go_at_call 7; refine (TO0.out HL0.out _ BBw10d.out).mono ?_; rintro e w11 ⟨gy0, rfl, r, b⟩; clear ca0_0 ca0_1 ca0_2; clear cx0_0 cx0_1 cx0_2; have ZZw11 : Hid (w10.drew.heap.size ≤ w11.heap.size) := b.size; have BBw11 : Hid (Below w.heap.size w w11) := BBw10d.out.trans (b.mono BBw10d.out.size); have Rx0_w11 : Hid (w11.ownsRow w5.heap.size 2 1 (.slice (some ⟨gx0, 0, none⟩) L0.length L0.length) L0.length (ints L0)) := row_on Rx0_w10d.out b; have Rx2_w11 : Hid (w11.ownsRow w7.heap.size 2 1 (.slice (some ⟨gx2, 0, none⟩) L2.length L2.length) L2.length (ints L2)) := row_on Rx2_w10d.out b; have Ka0_w11 : Hid (Bo.Box w11 w.heap.size (.int .i64 a0_0) (.int .i64 a0_1) (.slice s0 L0.length c0)) := Ka0_w10d.out.on b (by have q0 := ZZwa.out; have q1 := ZZw1.out; have q2 := ZZw2.out; have q3 := ZZw2d.out; have q4 := ZZw3.out; have q5 := ZZw4.out; have q6 := ZZw5.out; have q7 := ZZw6.out; have q8 := ZZZw7.out; have q9 := ZZw7.out; have q10 := ZZw8.out; have q11 := ZZZw9.out; have q12 := ZZw9.out; have q13 := ZZw10.out; have q14 := ZZw10d.out; have q15 := HL0.out; have q16 := HL2.out; omega); have Ka2_w11 : Hid (Bo.Box w11 (w.heap.size + 1) (.int .i64 a2_0) (.int .i64 a2_1) (.slice s2 L2.length c2)) := Ka2_w10d.out.on b (by have q0 := ZZwa.out; have q1 := ZZw1.out; have q2 := ZZw2.out; have q3 := ZZw2d.out; have q4 := ZZw3.out; have q5 := ZZw4.out; have q6 := ZZw5.out; have q7 := ZZw6.out; have q8 := ZZZw7.out; have q9 := ZZw7.out; have q10 := ZZw8.out; have q11 := ZZZw9.out; have q12 := ZZw9.out; have q13 := ZZw10.out; have q14 := ZZw10d.out; have q15 := HL0.out; have q16 := HL2.out; omega); have Kx0_w11 : Hid (Bo.Box w11 w6.heap.size (.int .i64 a0_0) (.int .i64 a0_1) (.slice (some ⟨gx0, 0, none⟩) L0.length L0.length)) := Kx0_w10d.out.on b (by have q0 := ZZwa.out; have q1 := ZZw1.out; have q2 := ZZw2.out; have q3 := ZZw2d.out; have q4 := ZZw3.out; have q5 := ZZw4.out; have q6 := ZZw5.out; have q7 := ZZw6.out; have q8 := ZZZw7.out; have q9 := ZZw7.out; have q10 := ZZw8.out; have q11 := ZZZw9.out; have q12 := ZZw9.out; have q13 := ZZw10.out; have q14 := ZZw10d.out; have q15 := HL0.out; have q16 := HL2.out; omega); have Kx2_w11 : Hid (Bo.Box w11 w8.heap.size (.int .i64 a2_0) (.int .i64 a2_1) (.slice (some ⟨gx2, 0, none⟩) L2.length L2.length)) := Kx2_w10d.out.on b (by have q0 := ZZwa.out; have q1 := ZZw1.out; have q2 := ZZw2.out; have q3 := ZZw2d.out; have q4 := ZZw3.out; have q5 := ZZw4.out; have q6 := ZZw5.out; have q7 := ZZw6.out; have q8 := ZZZw7.out; have q9 := ZZw7.out; have q10 := ZZw8.out; have q11 := ZZZw9.out; have q12 := ZZw9.out; have q13 := ZZw10.out; have q14 := ZZw10d.out; have q15 := HL0.out; have q16 := HL2.out; omega); have Ry0_w11 : Hid (w11.ownsRow w10.drew.heap.size 2 1 (.slice (some ⟨gy0, 0, none⟩) L0.length L0.length) L0.length (ints L0)) := r; have LTy0 : Hid (∀ k, (Value.slice (some ⟨gy0, 0, none⟩) L0.length L0.length).ownBlock = some k → w10.drew.heap.size ≤ k ∧ k < w11.heap.size) := fun k hk => Ry0_w11.out.lt k hk; clear r b; clear Rx0_w10d Rx2_w10d Ka0_w10d Ka2_w10d Kx0_w10d Kx2_w10d; obtain ⟨da0_w11_0, da0_w11_1, da0_w11_2⟩ := Ka0_w11.out; obtain ⟨dx0_w11_0, dx0_w11_1, dx0_w11_2⟩ := Kx0_w11.out)
    | (go_at_call 9; refine (EQ0.out _ _ _ _ _ Rx0_w11.out Ry0_w11.out).mono ?_; rintro e w12 ⟨rfl, b⟩; have ZZw12 : Hid (w11.heap.size ≤ w12.heap.size) := b.size; have BBw12 : Hid (Below w.heap.size w w12) := BBw11.out.trans (b.mono BBw11.out.size); have Rx0_w12 : Hid (w12.ownsRow w5.heap.size 2 1 (.slice (some ⟨gx0, 0, none⟩) L0.length L0.length) L0.length (ints L0)) := row_on Rx0_w11.out b; have Rx2_w12 : Hid (w12.ownsRow w7.heap.size 2 1 (.slice (some ⟨gx2, 0, none⟩) L2.length L2.length) L2.length (ints L2)) := row_on Rx2_w11.out b; have Ry0_w12 : Hid (w12.ownsRow w10.drew.heap.size 2 1 (.slice (some ⟨gy0, 0, none⟩) L0.length L0.length) L0.length (ints L0)) := row_on Ry0_w11.out b; have Ka0_w12 : Hid (Bo.Box w12 w.heap.size (.int .i64 a0_0) (.int .i64 a0_1) (.slice s0 L0.length c0)) := Ka0_w11.out.on b (by have q0 := ZZwa.out; have q1 := ZZw1.out; have q2 := ZZw2.out; have q3 := ZZw2d.out; have q4 := ZZw3.out; have q5 := ZZw4.out; have q6 := ZZw5.out; have q7 := ZZw6.out; have q8 := ZZZw7.out; have q9 := ZZw7.out; have q10 := ZZw8.out; have q11 := ZZZw9.out; have q12 := ZZw9.out; have q13 := ZZw10.out; have q14 := ZZw10d.out; have q15 := ZZw11.out; have q16 := HL0.out; have q17 := HL2.out; omega); have Ka2_w12 : Hid (Bo.Box w12 (w.heap.size + 1) (.int .i64 a2_0) (.int .i64 a2_1) (.slice s2 L2.length c2)) := Ka2_w11.out.on b (by have q0 := ZZwa.out; have q1 := ZZw1.out; have q2 := ZZw2.out; have q3 := ZZw2d.out; have q4 := ZZw3.out; have q5 := ZZw4.out; have q6 := ZZw5.out; have q7 := ZZw6.out; have q8 := ZZZw7.out; have q9 := ZZw7.out; have q10 := ZZw8.out; have q11 := ZZZw9.out; have q12 := ZZw9.out; have q13 := ZZw10.out; have q14 := ZZw10d.out; have q15 := ZZw11.out; have q16 := HL0.out; have q17 := HL2.out; omega); have Kx0_w12 : Hid (Bo.Box w12 w6.heap.size (.int .i64 a0_0) (.int .i64 a0_1) (.slice (some ⟨gx0, 0, none⟩) L0.length L0.length)) := Kx0_w11.out.on b (by have q0 := ZZwa.out; have q1 := ZZw1.out; have q2 := ZZw2.out; have q3 := ZZw2d.out; have q4 := ZZw3.out; have q5 := ZZw4.out; have q6 := ZZw5.out; have q7 := ZZw6.out; have q8 := ZZZw7.out; have q9 := ZZw7.out; have q10 := ZZw8.out; have q11 := ZZZw9.out; have q12 := ZZw9.out; have q13 := ZZw10.out; have q14 := ZZw10d.out; have q15 := ZZw11.out; have q16 := HL0.out; have q17 := HL2.out; omega); have Kx2_w12 : Hid (Bo.Box w12 w8.heap.size (.int .i64 a2_0) (.int .i64 a2_1) (.slice (some ⟨gx2, 0, none⟩) L2.length L2.length)) := Kx2_w11.out.on b (by have q0 := ZZwa.out; have q1 := ZZw1.out; have q2 := ZZw2.out; have q3 := ZZw2d.out; have q4 := ZZw3.out; have q5 := ZZw4.out; have q6 := ZZw5.out; have q7 := ZZw6.out; have q8 := ZZZw7.out; have q9 := ZZw7.out; have q10 := ZZw8.out; have q11 := ZZZw9.out; have q12 := ZZw9.out; have q13 := ZZw10.out; have q14 := ZZw10d.out; have q15 := ZZw11.out; have q16 := HL0.out; have q17 := HL2.out; omega); clear b; clear Rx0_w11 Rx2_w11 Ry0_w11 Ka0_w11 Ka2_w11 Kx0_w11 Kx2_w11; obtain ⟨da0_w12_0, da0_w12_1, da0_w12_2⟩ := Ka0_w12.out; obtain ⟨dx0_w12_0, dx0_w12_1, dx0_w12_2⟩ := Kx0_w12.out))
  clear Ry0_w12
  obtain ⟨ca2_0, ca2_1, ca2_2⟩ := Ka2_w12.out
  obtain ⟨cx2_0, cx2_1, cx2_2⟩ := Kx2_w12.out
  have BBw12d : Hid (Below w.heap.size w w12.drew) := below_drewN BBw12.out 1
  have Rx0_w12d : Hid (w12.drew.ownsRow w5.heap.size 2 1 (.slice (some ⟨gx0, 0, none⟩) L0.length L0.length) L0.length (ints L0)) := Rx0_w12.out
  have Rx2_w12d : Hid (w12.drew.ownsRow w7.heap.size 2 1 (.slice (some ⟨gx2, 0, none⟩) L2.length L2.length) L2.length (ints L2)) := Rx2_w12.out
  have Ka0_w12d : Hid (Bo.Box w12.drew w.heap.size (.int .i64 a0_0) (.int .i64 a0_1) (.slice s0 L0.length c0)) := Ka0_w12.out
  have Ka2_w12d : Hid (Bo.Box w12.drew (w.heap.size + 1) (.int .i64 a2_0) (.int .i64 a2_1) (.slice s2 L2.length c2)) := Ka2_w12.out
  have Kx0_w12d : Hid (Bo.Box w12.drew w6.heap.size (.int .i64 a0_0) (.int .i64 a0_1) (.slice (some ⟨gx0, 0, none⟩) L0.length L0.length)) := Kx0_w12.out
  have Kx2_w12d : Hid (Bo.Box w12.drew w8.heap.size (.int .i64 a2_0) (.int .i64 a2_1) (.slice (some ⟨gx2, 0, none⟩) L2.length L2.length)) := Kx2_w12.out
  have ZZw12d : Hid (w12.drew.heap.size = w12.heap.size) := rfl
  go_wp2_with fail
  go_region_held3 (fun w' => w'.cell? ⟨(w.heap.size + 1), 0, none⟩ = some (.int .i64 a2_0) ∧ w'.cell? ⟨(w.heap.size + 1), 1, none⟩ = some (.int .i64 a2_1) ∧ w'.cell? ⟨(w.heap.size + 1), 2, none⟩ = some (.slice s2 L2.length c2) ∧ w'.cell? ⟨w8.heap.size, 0, none⟩ = some (.int .i64 a2_0) ∧ w'.cell? ⟨w8.heap.size, 1, none⟩ = some (.int .i64 a2_1) ∧ w'.cell? ⟨w8.heap.size, 2, none⟩ = some (.slice (some ⟨gx2, 0, none⟩) L2.length L2.length)) (go_keep)
    (first
    | (go_at_call 7; refine (TO2.out HL2.out _ BBw12d.out).mono ?_; rintro e w13 ⟨gy2, rfl, r, b⟩; clear ca2_0 ca2_1 ca2_2; clear cx2_0 cx2_1 cx2_2; have ZZw13 : Hid (w12.drew.heap.size ≤ w13.heap.size) := b.size; have BBw13 : Hid (Below w.heap.size w w13) := BBw12d.out.trans (b.mono BBw12d.out.size); have Rx0_w13 : Hid (w13.ownsRow w5.heap.size 2 1 (.slice (some ⟨gx0, 0, none⟩) L0.length L0.length) L0.length (ints L0)) := row_on Rx0_w12d.out b; have Rx2_w13 : Hid (w13.ownsRow w7.heap.size 2 1 (.slice (some ⟨gx2, 0, none⟩) L2.length L2.length) L2.length (ints L2)) := row_on Rx2_w12d.out b; have Ka0_w13 : Hid (Bo.Box w13 w.heap.size (.int .i64 a0_0) (.int .i64 a0_1) (.slice s0 L0.length c0)) := Ka0_w12d.out.on b (by have q0 := ZZwa.out; have q1 := ZZw1.out; have q2 := ZZw2.out; have q3 := ZZw2d.out; have q4 := ZZw3.out; have q5 := ZZw4.out; have q6 := ZZw5.out; have q7 := ZZw6.out; have q8 := ZZZw7.out; have q9 := ZZw7.out; have q10 := ZZw8.out; have q11 := ZZZw9.out; have q12 := ZZw9.out; have q13 := ZZw10.out; have q14 := ZZw10d.out; have q15 := ZZw11.out; have q16 := ZZw12.out; have q17 := ZZw12d.out; have q18 := HL0.out; have q19 := HL2.out; omega); have Ka2_w13 : Hid (Bo.Box w13 (w.heap.size + 1) (.int .i64 a2_0) (.int .i64 a2_1) (.slice s2 L2.length c2)) := Ka2_w12d.out.on b (by have q0 := ZZwa.out; have q1 := ZZw1.out; have q2 := ZZw2.out; have q3 := ZZw2d.out; have q4 := ZZw3.out; have q5 := ZZw4.out; have q6 := ZZw5.out; have q7 := ZZw6.out; have q8 := ZZZw7.out; have q9 := ZZw7.out; have q10 := ZZw8.out; have q11 := ZZZw9.out; have q12 := ZZw9.out; have q13 := ZZw10.out; have q14 := ZZw10d.out; have q15 := ZZw11.out; have q16 := ZZw12.out; have q17 := ZZw12d.out; have q18 := HL0.out; have q19 := HL2.out; omega); have Kx0_w13 : Hid (Bo.Box w13 w6.heap.size (.int .i64 a0_0) (.int .i64 a0_1) (.slice (some ⟨gx0, 0, none⟩) L0.length L0.length)) := Kx0_w12d.out.on b (by have q0 := ZZwa.out; have q1 := ZZw1.out; have q2 := ZZw2.out; have q3 := ZZw2d.out; have q4 := ZZw3.out; have q5 := ZZw4.out; have q6 := ZZw5.out; have q7 := ZZw6.out; have q8 := ZZZw7.out; have q9 := ZZw7.out; have q10 := ZZw8.out; have q11 := ZZZw9.out; have q12 := ZZw9.out; have q13 := ZZw10.out; have q14 := ZZw10d.out; have q15 := ZZw11.out; have q16 := ZZw12.out; have q17 := ZZw12d.out; have q18 := HL0.out; have q19 := HL2.out; omega); have Kx2_w13 : Hid (Bo.Box w13 w8.heap.size (.int .i64 a2_0) (.int .i64 a2_1) (.slice (some ⟨gx2, 0, none⟩) L2.length L2.length)) := Kx2_w12d.out.on b (by have q0 := ZZwa.out; have q1 := ZZw1.out; have q2 := ZZw2.out; have q3 := ZZw2d.out; have q4 := ZZw3.out; have q5 := ZZw4.out; have q6 := ZZw5.out; have q7 := ZZw6.out; have q8 := ZZZw7.out; have q9 := ZZw7.out; have q10 := ZZw8.out; have q11 := ZZZw9.out; have q12 := ZZw9.out; have q13 := ZZw10.out; have q14 := ZZw10d.out; have q15 := ZZw11.out; have q16 := ZZw12.out; have q17 := ZZw12d.out; have q18 := HL0.out; have q19 := HL2.out; omega); have Ry2_w13 : Hid (w13.ownsRow w12.drew.heap.size 2 1 (.slice (some ⟨gy2, 0, none⟩) L2.length L2.length) L2.length (ints L2)) := r; have LTy2 : Hid (∀ k, (Value.slice (some ⟨gy2, 0, none⟩) L2.length L2.length).ownBlock = some k → w12.drew.heap.size ≤ k ∧ k < w13.heap.size) := fun k hk => Ry2_w13.out.lt k hk; clear r b; clear Rx0_w12d Rx2_w12d Ka0_w12d Ka2_w12d Kx0_w12d Kx2_w12d; obtain ⟨da2_w13_0, da2_w13_1, da2_w13_2⟩ := Ka2_w13.out; obtain ⟨dx2_w13_0, dx2_w13_1, dx2_w13_2⟩ := Kx2_w13.out)
    | (go_at_call 9; refine (EQ2.out _ _ _ _ _ Rx2_w13.out Ry2_w13.out).mono ?_; rintro e w14 ⟨rfl, b⟩; have ZZw14 : Hid (w13.heap.size ≤ w14.heap.size) := b.size; have BBw14 : Hid (Below w.heap.size w w14) := BBw13.out.trans (b.mono BBw13.out.size); have Rx0_w14 : Hid (w14.ownsRow w5.heap.size 2 1 (.slice (some ⟨gx0, 0, none⟩) L0.length L0.length) L0.length (ints L0)) := row_on Rx0_w13.out b; have Rx2_w14 : Hid (w14.ownsRow w7.heap.size 2 1 (.slice (some ⟨gx2, 0, none⟩) L2.length L2.length) L2.length (ints L2)) := row_on Rx2_w13.out b; have Ry2_w14 : Hid (w14.ownsRow w12.drew.heap.size 2 1 (.slice (some ⟨gy2, 0, none⟩) L2.length L2.length) L2.length (ints L2)) := row_on Ry2_w13.out b; have Ka0_w14 : Hid (Bo.Box w14 w.heap.size (.int .i64 a0_0) (.int .i64 a0_1) (.slice s0 L0.length c0)) := Ka0_w13.out.on b (by have q0 := ZZwa.out; have q1 := ZZw1.out; have q2 := ZZw2.out; have q3 := ZZw2d.out; have q4 := ZZw3.out; have q5 := ZZw4.out; have q6 := ZZw5.out; have q7 := ZZw6.out; have q8 := ZZZw7.out; have q9 := ZZw7.out; have q10 := ZZw8.out; have q11 := ZZZw9.out; have q12 := ZZw9.out; have q13 := ZZw10.out; have q14 := ZZw10d.out; have q15 := ZZw11.out; have q16 := ZZw12.out; have q17 := ZZw12d.out; have q18 := ZZw13.out; have q19 := HL0.out; have q20 := HL2.out; omega); have Ka2_w14 : Hid (Bo.Box w14 (w.heap.size + 1) (.int .i64 a2_0) (.int .i64 a2_1) (.slice s2 L2.length c2)) := Ka2_w13.out.on b (by have q0 := ZZwa.out; have q1 := ZZw1.out; have q2 := ZZw2.out; have q3 := ZZw2d.out; have q4 := ZZw3.out; have q5 := ZZw4.out; have q6 := ZZw5.out; have q7 := ZZw6.out; have q8 := ZZZw7.out; have q9 := ZZw7.out; have q10 := ZZw8.out; have q11 := ZZZw9.out; have q12 := ZZw9.out; have q13 := ZZw10.out; have q14 := ZZw10d.out; have q15 := ZZw11.out; have q16 := ZZw12.out; have q17 := ZZw12d.out; have q18 := ZZw13.out; have q19 := HL0.out; have q20 := HL2.out; omega); have Kx0_w14 : Hid (Bo.Box w14 w6.heap.size (.int .i64 a0_0) (.int .i64 a0_1) (.slice (some ⟨gx0, 0, none⟩) L0.length L0.length)) := Kx0_w13.out.on b (by have q0 := ZZwa.out; have q1 := ZZw1.out; have q2 := ZZw2.out; have q3 := ZZw2d.out; have q4 := ZZw3.out; have q5 := ZZw4.out; have q6 := ZZw5.out; have q7 := ZZw6.out; have q8 := ZZZw7.out; have q9 := ZZw7.out; have q10 := ZZw8.out; have q11 := ZZZw9.out; have q12 := ZZw9.out; have q13 := ZZw10.out; have q14 := ZZw10d.out; have q15 := ZZw11.out; have q16 := ZZw12.out; have q17 := ZZw12d.out; have q18 := ZZw13.out; have q19 := HL0.out; have q20 := HL2.out; omega); have Kx2_w14 : Hid (Bo.Box w14 w8.heap.size (.int .i64 a2_0) (.int .i64 a2_1) (.slice (some ⟨gx2, 0, none⟩) L2.length L2.length)) := Kx2_w13.out.on b (by have q0 := ZZwa.out; have q1 := ZZw1.out; have q2 := ZZw2.out; have q3 := ZZw2d.out; have q4 := ZZw3.out; have q5 := ZZw4.out; have q6 := ZZw5.out; have q7 := ZZw6.out; have q8 := ZZZw7.out; have q9 := ZZw7.out; have q10 := ZZw8.out; have q11 := ZZZw9.out; have q12 := ZZw9.out; have q13 := ZZw10.out; have q14 := ZZw10d.out; have q15 := ZZw11.out; have q16 := ZZw12.out; have q17 := ZZw12d.out; have q18 := ZZw13.out; have q19 := HL0.out; have q20 := HL2.out; omega); clear b; clear Rx0_w13 Rx2_w13 Ry2_w13 Ka0_w13 Ka2_w13 Kx0_w13 Kx2_w13; obtain ⟨da2_w14_0, da2_w14_1, da2_w14_2⟩ := Ka2_w14.out; obtain ⟨dx2_w14_0, dx2_w14_1, dx2_w14_2⟩ := Kx2_w14.out))
  clear Ry2_w14
  go_wp2_with fail
  go_ret
  exact ⟨rfl, BBw14.out⟩
end Go.Proofs.Ythmknlejnnnbaaa.LawMvL
