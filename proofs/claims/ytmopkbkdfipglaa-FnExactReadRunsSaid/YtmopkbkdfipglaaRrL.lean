/- The law walked; what model and program answer comes in as hypotheses. -/
import Derived.Test.YtmopkbkdfipglaaSr
import Derived.Test.YtmopkbkdfipglaaBm
namespace Go.Proofs.Ytmopkbkdfipglaa.LawRrL
open Go.ChangeShapes Go.WideShapes Go.ChangeAt Go.RowKit
open Go.Proofs.Ytmopkbkdfipglaa.Lists

theorem below_drewN {B : Nat} {a w : World} (h : Below B a w) (n : Nat) : Below B a (w.drewN n) := h.trans ⟨rfl, rfl, rfl, Nat.le_refl _, fun _ _ => rfl⟩
theorem row_on {w w' : World} {base n : Nat} {v : Value} {e : TypeId} {xs : List Value} (h : w.ownsRow base e 1 v n xs) (hb : Below w.heap.size w w') : w'.ownsRow base e 1 v n xs := by
  refine h.kept (row := none) ⟨hb.os, hb.tape, hb.output, hb.size, fun k hk _ => hb.block k hk⟩ ?_
  by_cases e : v.ownBlock = none
  · exact Or.inl e
  · exact Or.inr e
theorem row_off {w w' : World} {base n : Nat} {row : Option Nat} {v : Value} {e : TypeId} {xs : List Value} (h : w.ownsRow base e 1 v n xs) (hg : w.grownBy w' row) (hne : ∀ k j, v.ownBlock = some k → row = some j → k ≠ j) : w'.ownsRow base e 1 v n xs := by
  refine h.kept hg ?_
  cases e : v.ownBlock with
  | none => exact Or.inl rfl
  | some k => exact Or.inr fun x => hne k k e x.symm rfl

theorem held2 (w : World) (base : Nat) (v : Value) (n : Nat) (k0 : Int) (hk0 : 0 ≤ k0) (hk1 : k0 ≤ 1000000) (hn : n ≤ 2000000) (h : w.ownsRow base 2 1 v n (ints (sq k0 n))) :
    Calls Try.prog 17 #[v, .int .i64 k0] w fun e w' => e = .returned (.int .i64 (k0 + n)) ∧ ∃ m, w' = w.drewN m :=
  (held_any w base v n k0 hk0 hk1 hn h).mono fun _ _ ⟨a, b⟩ => ⟨a, 0, by rw [b, World.drewN_zero]⟩
set_option maxRecDepth 20000 in
set_option maxHeartbeats 2000000 in
theorem readLaw (w : World) (v0 : Value) (L0 : List Int) (h0 : Bytes.Reads w v0 L0) (f0 : L0.length < 9223372036854775808) (X0 : List Int) (hX0 : X0.length ≤ 100000) (b1 : Bool)
    (SA : ∀ (w : World) (t0 : Value), Bytes.Reads w t0 L0 → Calls Try.prog 14 #[t0] w fun e w' => ∃ u0, e = .returned (.tuple #[u0, .bool b1]) ∧ w'.ownsRow w.heap.size 2 1 u0 X0.length (ints X0) ∧ Below w.heap.size w w')
    (IA : ∀ (w : World) (t0 : Value), Bytes.Reads w t0 L0 → Calls Try.prog 16 #[t0] w fun e w' => ∃ u0, e = .returned (.tuple #[u0, .bool b1]) ∧ w'.ownsRow w.heap.size 2 1 u0 X0.length (ints X0) ∧ Below w.heap.size w w') :
    Calls Try.prog 4 #[v0] w fun e w' => e = .returned (.bool true) ∧ Below w.heap.size w w' := by
  obtain ⟨s0, c0, rfl⟩ := h0.form
  by_cases g0 : 1048576 < L0.length
  · have i1 : (1048576 : Int) < (L0.length : Int) := by omega
    go_enter Try.func4, Try.ntmps4
    go_wp2_with fail
    go_ret
    exact ⟨rfl, Below.refl _ _⟩
  have j0 : ¬ (1048576 : Int) < (L0.length : Int) := by omega
  have TO0 : Hid (∀ w', Below w.heap.size w w' → Calls Try.prog 15 #[.slice s0 L0.length c0] w' fun e w'' => e = .returned (.slice (some ⟨w'.heap.size, 0, none⟩) L0.length L0.length) ∧ w''.ownsRow w'.heap.size 5 1 (.slice (some ⟨w'.heap.size, 0, none⟩) L0.length L0.length) L0.length (Bytes.bys L0) ∧ Below w'.heap.size w' w'') := fun w' hb => Bytes.to_any w' _ L0 (h0.on hb) (by omega)
  have SU : Hid (∀ (w' : World) (B0 : Nat) (t0 : Value), w'.ownsRow B0 5 1 t0 L0.length (Bytes.bys L0) → Calls Try.prog 14 #[t0] w' fun e w'' => ∃ u0, e = .returned (.tuple #[u0, .bool b1]) ∧ w''.ownsRow w'.heap.size 2 1 u0 X0.length (ints X0) ∧ Below w'.heap.size w' w'') := fun w' B0 t0 o0 => SA w' t0 (Bytes.reads_row o0)
  have IU : Hid (∀ (w' : World) (B0 : Nat) (t0 : Value), w'.ownsRow B0 5 1 t0 L0.length (Bytes.bys L0) → Calls Try.prog 16 #[t0] w' fun e w'' => ∃ u0, e = .returned (.tuple #[u0, .bool b1]) ∧ w''.ownsRow w'.heap.size 2 1 u0 X0.length (ints X0) ∧ Below w'.heap.size w' w'') := fun w' B0 t0 o0 => IA w' t0 (Bytes.reads_row o0)
  have hbb : ∀ b : Bool, (b != b) = false := fun b => by cases b <;> rfl
  have hii : ∀ b : Int, (b != b) = false := fun b => by simp
  have hqq : ((1 : Int) + (X0.length : Int) != 1 + (X0.length : Int)) = false := by simp
  have hq0 : ¬ (1 : Int) + (X0.length : Int) < 0 := by omega
  have hq1 : ¬ (1 : Int) + (L0.length : Int) < 0 := by omega
  have HL0 : Hid (L0.length ≤ 1048576) := (by show _ ≤ _; omega)
  have HX0 : Hid (X0.length ≤ 100000) := hX0
  clear SA IA hX0 h0 g0 f0
  have BBwa : Hid (Below w.heap.size w w) := Below.refl _ _
  have ZZwa : Hid (w.heap.size ≤ w.heap.size) := Nat.le_refl w.heap.size
  go_enter Try.func4, Try.ntmps4
  go_wp2_with fail
  refine (TO0.out w BBwa.out).mono ?_
  rintro e w1 ⟨rfl, r, b⟩
  have ZZw1 : Hid (w.heap.size ≤ w1.heap.size) := b.size
  have BBw1 : Hid (Below w.heap.size w w1) := BBwa.out.trans (b.mono BBwa.out.size)
  have Rp0_w1 : Hid (w1.ownsRow w.heap.size 5 1 (.slice (some ⟨w.heap.size, 0, none⟩) L0.length L0.length) L0.length (Bytes.bys L0)) := r
  have LTp0 : Hid (∀ k, (Value.slice (some ⟨w.heap.size, 0, none⟩) L0.length L0.length).ownBlock = some k → w.heap.size ≤ k ∧ k < w1.heap.size) := fun k hk => Rp0_w1.out.lt k hk
  clear r b
  go_wp2_with fail
  refine (SU.out w1 _ _ Rp0_w1.out).mono ?_
  rintro e w2 ⟨us0, rfl, rr0, b⟩
  have ZZw2 : Hid (w1.heap.size ≤ w2.heap.size) := b.size
  have BBw2 : Hid (Below w.heap.size w w2) := BBw1.out.trans (b.mono BBw1.out.size)
  have Rp0_w2 : Hid (w2.ownsRow w.heap.size 5 1 (.slice (some ⟨w.heap.size, 0, none⟩) L0.length L0.length) L0.length (Bytes.bys L0)) := row_on Rp0_w1.out b
  have Rs0_w2 : Hid (w2.ownsRow w1.heap.size 2 1 us0 X0.length (ints X0)) := rr0
  have LTs0 : Hid (∀ k, us0.ownBlock = some k → w1.heap.size ≤ k ∧ k < w2.heap.size) := fun k hk => Rs0_w2.out.lt k hk
  clear rr0
  clear b
  clear Rp0_w1
  clear Rp0_w2
  go_wp2_with fail
  refine (TO0.out w2 BBw2.out).mono ?_
  rintro e w3 ⟨rfl, r, b⟩
  have ZZw3 : Hid (w2.heap.size ≤ w3.heap.size) := b.size
  have BBw3 : Hid (Below w.heap.size w w3) := BBw2.out.trans (b.mono BBw2.out.size)
  have Rs0_w3 : Hid (w3.ownsRow w1.heap.size 2 1 us0 X0.length (ints X0)) := row_on Rs0_w2.out b
  have Rx0_w3 : Hid (w3.ownsRow w2.heap.size 5 1 (.slice (some ⟨w2.heap.size, 0, none⟩) L0.length L0.length) L0.length (Bytes.bys L0)) := r
  have LTx0 : Hid (∀ k, (Value.slice (some ⟨w2.heap.size, 0, none⟩) L0.length L0.length).ownBlock = some k → w2.heap.size ≤ k ∧ k < w3.heap.size) := fun k hk => Rx0_w3.out.lt k hk
  clear r b
  clear Rs0_w2
  go_wp2_with fail
  refine (IU.out w3 _ _ Rx0_w3.out).mono ?_
  rintro e w4 ⟨ug0, rfl, rr0, b⟩
  have ZZw4 : Hid (w3.heap.size ≤ w4.heap.size) := b.size
  have BBw4 : Hid (Below w.heap.size w w4) := BBw3.out.trans (b.mono BBw3.out.size)
  have Rs0_w4 : Hid (w4.ownsRow w1.heap.size 2 1 us0 X0.length (ints X0)) := row_on Rs0_w3.out b
  have Rx0_w4 : Hid (w4.ownsRow w2.heap.size 5 1 (.slice (some ⟨w2.heap.size, 0, none⟩) L0.length L0.length) L0.length (Bytes.bys L0)) := row_on Rx0_w3.out b
  have Rg0_w4 : Hid (w4.ownsRow w3.heap.size 2 1 ug0 X0.length (ints X0)) := rr0
  have LTg0 : Hid (∀ k, ug0.ownBlock = some k → w3.heap.size ≤ k ∧ k < w4.heap.size) := fun k hk => Rg0_w4.out.lt k hk
  clear rr0
  clear b
  clear Rs0_w3 Rx0_w3
  go_wp2_with fail
  refine (eq_same _ _ _ _ _ X0 Rg0_w4.out Rs0_w4.out).mono ?_
  rintro e w5 ⟨rfl, mw5, hw⟩
  have ZZw5 : Hid (w5.heap.size = w4.heap.size) := (by show _ = _; rw [hw]; rfl)
  have BBw5 : Hid (Below w.heap.size w w5) := (by show Below _ _ _; rw [hw]; exact below_drewN BBw4.out _)
  have Rs0_w5 : Hid (w5.ownsRow w1.heap.size 2 1 us0 X0.length (ints X0)) := (by show World.ownsRow _ _ _ _ _ _ _; rw [hw]; exact Rs0_w4.out)
  have Rx0_w5 : Hid (w5.ownsRow w2.heap.size 5 1 (.slice (some ⟨w2.heap.size, 0, none⟩) L0.length L0.length) L0.length (Bytes.bys L0)) := (by show World.ownsRow _ _ _ _ _ _ _; rw [hw]; exact Rx0_w4.out)
  have Rg0_w5 : Hid (w5.ownsRow w3.heap.size 2 1 ug0 X0.length (ints X0)) := (by show World.ownsRow _ _ _ _ _ _ _; rw [hw]; exact Rg0_w4.out)
  clear hw
  clear Rs0_w4 Rx0_w4 Rg0_w4
  go_wp2_with fail
  refine (TO0.out w5 BBw5.out).mono ?_
  rintro e w6 ⟨rfl, r, b⟩
  have ZZw6 : Hid (w5.heap.size ≤ w6.heap.size) := b.size
  have BBw6 : Hid (Below w.heap.size w w6) := BBw5.out.trans (b.mono BBw5.out.size)
  have Rs0_w6 : Hid (w6.ownsRow w1.heap.size 2 1 us0 X0.length (ints X0)) := row_on Rs0_w5.out b
  have Rx0_w6 : Hid (w6.ownsRow w2.heap.size 5 1 (.slice (some ⟨w2.heap.size, 0, none⟩) L0.length L0.length) L0.length (Bytes.bys L0)) := row_on Rx0_w5.out b
  have Rg0_w6 : Hid (w6.ownsRow w3.heap.size 2 1 ug0 X0.length (ints X0)) := row_on Rg0_w5.out b
  have Ry0_w6 : Hid (w6.ownsRow w5.heap.size 5 1 (.slice (some ⟨w5.heap.size, 0, none⟩) L0.length L0.length) L0.length (Bytes.bys L0)) := r
  have LTy0 : Hid (∀ k, (Value.slice (some ⟨w5.heap.size, 0, none⟩) L0.length L0.length).ownBlock = some k → w5.heap.size ≤ k ∧ k < w6.heap.size) := fun k hk => Ry0_w6.out.lt k hk
  clear r b
  clear Rs0_w5 Rx0_w5 Rg0_w5
  go_wp2_with fail
  refine (Bytes.eq_same _ _ _ _ _ L0 Rx0_w6.out Ry0_w6.out).mono ?_
  rintro e w7 ⟨rfl, mw7, hw⟩
  have ZZw7 : Hid (w7.heap.size = w6.heap.size) := (by show _ = _; rw [hw]; rfl)
  have BBw7 : Hid (Below w.heap.size w w7) := (by show Below _ _ _; rw [hw]; exact below_drewN BBw6.out _)
  have Rs0_w7 : Hid (w7.ownsRow w1.heap.size 2 1 us0 X0.length (ints X0)) := (by show World.ownsRow _ _ _ _ _ _ _; rw [hw]; exact Rs0_w6.out)
  have Rx0_w7 : Hid (w7.ownsRow w2.heap.size 5 1 (.slice (some ⟨w2.heap.size, 0, none⟩) L0.length L0.length) L0.length (Bytes.bys L0)) := (by show World.ownsRow _ _ _ _ _ _ _; rw [hw]; exact Rx0_w6.out)
  have Rg0_w7 : Hid (w7.ownsRow w3.heap.size 2 1 ug0 X0.length (ints X0)) := (by show World.ownsRow _ _ _ _ _ _ _; rw [hw]; exact Rg0_w6.out)
  have Ry0_w7 : Hid (w7.ownsRow w5.heap.size 5 1 (.slice (some ⟨w5.heap.size, 0, none⟩) L0.length L0.length) L0.length (Bytes.bys L0)) := (by show World.ownsRow _ _ _ _ _ _ _; rw [hw]; exact Ry0_w6.out)
  clear hw
  clear Rs0_w6 Rx0_w6 Rg0_w6 Ry0_w6
  clear Ry0_w7
  go_wp2_with fail
  refine (bmark_any w7 _ _ L0 (1) (by have q0 := ZZwa.out; have q1 := ZZw1.out; have q2 := ZZw2.out; have q3 := ZZw3.out; have q4 := ZZw4.out; have q5 := ZZw5.out; have q6 := ZZw6.out; have q7 := ZZw7.out; have q8 := HL0.out; have q9 := HX0.out; omega) (by have q0 := ZZwa.out; have q1 := ZZw1.out; have q2 := ZZw2.out; have q3 := ZZw3.out; have q4 := ZZw4.out; have q5 := ZZw5.out; have q6 := ZZw6.out; have q7 := ZZw7.out; have q8 := HL0.out; have q9 := HX0.out; omega) (by have q0 := ZZwa.out; have q1 := ZZw1.out; have q2 := ZZw2.out; have q3 := ZZw3.out; have q4 := ZZw4.out; have q5 := ZZw5.out; have q6 := ZZw6.out; have q7 := ZZw7.out; have q8 := HL0.out; have q9 := HX0.out; omega) Rx0_w7.out).mono ?_
  rintro e w8 ⟨rfl, ⟨M0, hM0, r⟩, g⟩
  have ZZw8 : Hid (w7.heap.size ≤ w8.heap.size) := g.size
  have BBw8 : Hid (Below w.heap.size w w8) := BBw7.out.grown g BBw7.out.size (fun k hk => by have q0 := ZZwa.out; have q1 := ZZw1.out; have q2 := ZZw2.out; have q3 := ZZw3.out; have q4 := ZZw4.out; have q5 := ZZw5.out; have q6 := ZZw6.out; have q7 := ZZw7.out; have q8 := HL0.out; have q9 := HX0.out; have := LTx0.out k hk; omega)
  have Rs0_w8 : Hid (w8.ownsRow w1.heap.size 2 1 us0 X0.length (ints X0)) := row_off Rs0_w7.out g (fun k j hk hj => by have q0 := ZZwa.out; have q1 := ZZw1.out; have q2 := ZZw2.out; have q3 := ZZw3.out; have q4 := ZZw4.out; have q5 := ZZw5.out; have q6 := ZZw6.out; have q7 := ZZw7.out; have q8 := HL0.out; have q9 := HX0.out; have := LTs0.out k hk; have := LTx0.out j hj; omega)
  have Rg0_w8 : Hid (w8.ownsRow w3.heap.size 2 1 ug0 X0.length (ints X0)) := row_off Rg0_w7.out g (fun k j hk hj => by have q0 := ZZwa.out; have q1 := ZZw1.out; have q2 := ZZw2.out; have q3 := ZZw3.out; have q4 := ZZw4.out; have q5 := ZZw5.out; have q6 := ZZw6.out; have q7 := ZZw7.out; have q8 := HL0.out; have q9 := HX0.out; have := LTg0.out k hk; have := LTx0.out j hj; omega)
  have Rx0_w8 : Hid (w8.ownsRow w2.heap.size 5 1 (.slice (some ⟨w2.heap.size, 0, none⟩) L0.length L0.length) L0.length (Bytes.bys M0)) := r
  clear r g
  clear Rs0_w7 Rx0_w7 Rg0_w7
  clear Rx0_w8
  go_wp2_with fail
  refine (eq_same _ _ _ _ _ X0 Rg0_w8.out Rs0_w8.out).mono ?_
  rintro e w9 ⟨rfl, mw9, hw⟩
  have ZZw9 : Hid (w9.heap.size = w8.heap.size) := (by show _ = _; rw [hw]; rfl)
  have BBw9 : Hid (Below w.heap.size w w9) := (by show Below _ _ _; rw [hw]; exact below_drewN BBw8.out _)
  have Rs0_w9 : Hid (w9.ownsRow w1.heap.size 2 1 us0 X0.length (ints X0)) := (by show World.ownsRow _ _ _ _ _ _ _; rw [hw]; exact Rs0_w8.out)
  have Rg0_w9 : Hid (w9.ownsRow w3.heap.size 2 1 ug0 X0.length (ints X0)) := (by show World.ownsRow _ _ _ _ _ _ _; rw [hw]; exact Rg0_w8.out)
  clear hw
  clear Rs0_w8 Rg0_w8
  go_wp2_with fail
  refine (mark_any w9 _ _ X0 (1) (by have q0 := ZZwa.out; have q1 := ZZw1.out; have q2 := ZZw2.out; have q3 := ZZw3.out; have q4 := ZZw4.out; have q5 := ZZw5.out; have q6 := ZZw6.out; have q7 := ZZw7.out; have q8 := ZZw8.out; have q9 := ZZw9.out; have q10 := HL0.out; have q11 := HX0.out; omega) (by have q0 := ZZwa.out; have q1 := ZZw1.out; have q2 := ZZw2.out; have q3 := ZZw3.out; have q4 := ZZw4.out; have q5 := ZZw5.out; have q6 := ZZw6.out; have q7 := ZZw7.out; have q8 := ZZw8.out; have q9 := ZZw9.out; have q10 := HL0.out; have q11 := HX0.out; omega) (by have q0 := ZZwa.out; have q1 := ZZw1.out; have q2 := ZZw2.out; have q3 := ZZw3.out; have q4 := ZZw4.out; have q5 := ZZw5.out; have q6 := ZZw6.out; have q7 := ZZw7.out; have q8 := ZZw8.out; have q9 := ZZw9.out; have q10 := HL0.out; have q11 := HX0.out; omega) Rg0_w9.out).mono ?_
  rintro e w10 ⟨rfl, r, g⟩
  have ZZw10 : Hid (w9.heap.size ≤ w10.heap.size) := g.size
  have BBw10 : Hid (Below w.heap.size w w10) := BBw9.out.grown g BBw9.out.size (fun k hk => by have q0 := ZZwa.out; have q1 := ZZw1.out; have q2 := ZZw2.out; have q3 := ZZw3.out; have q4 := ZZw4.out; have q5 := ZZw5.out; have q6 := ZZw6.out; have q7 := ZZw7.out; have q8 := ZZw8.out; have q9 := ZZw9.out; have q10 := HL0.out; have q11 := HX0.out; have := LTg0.out k hk; omega)
  have Rs0_w10 : Hid (w10.ownsRow w1.heap.size 2 1 us0 X0.length (ints X0)) := row_off Rs0_w9.out g (fun k j hk hj => by have q0 := ZZwa.out; have q1 := ZZw1.out; have q2 := ZZw2.out; have q3 := ZZw3.out; have q4 := ZZw4.out; have q5 := ZZw5.out; have q6 := ZZw6.out; have q7 := ZZw7.out; have q8 := ZZw8.out; have q9 := ZZw9.out; have q10 := HL0.out; have q11 := HX0.out; have := LTs0.out k hk; have := LTg0.out j hj; omega)
  have Rg0_w10 : Hid (w10.ownsRow w3.heap.size 2 1 ug0 X0.length (ints (sq (1) X0.length))) := r
  clear r g
  clear Rs0_w9 Rg0_w9
  go_wp2_with fail
  refine (held2 w10 _ _ X0.length (1) (by have q0 := ZZwa.out; have q1 := ZZw1.out; have q2 := ZZw2.out; have q3 := ZZw3.out; have q4 := ZZw4.out; have q5 := ZZw5.out; have q6 := ZZw6.out; have q7 := ZZw7.out; have q8 := ZZw8.out; have q9 := ZZw9.out; have q10 := ZZw10.out; have q11 := HL0.out; have q12 := HX0.out; omega) (by have q0 := ZZwa.out; have q1 := ZZw1.out; have q2 := ZZw2.out; have q3 := ZZw3.out; have q4 := ZZw4.out; have q5 := ZZw5.out; have q6 := ZZw6.out; have q7 := ZZw7.out; have q8 := ZZw8.out; have q9 := ZZw9.out; have q10 := ZZw10.out; have q11 := HL0.out; have q12 := HX0.out; omega) (by have := HX0.out; omega) Rg0_w10.out).mono ?_
  rintro e w11 ⟨rfl, mw11, hw⟩
  have ZZw11 : Hid (w11.heap.size = w10.heap.size) := (by show _ = _; rw [hw]; rfl)
  have BBw11 : Hid (Below w.heap.size w w11) := (by show Below _ _ _; rw [hw]; exact below_drewN BBw10.out _)
  have Rs0_w11 : Hid (w11.ownsRow w1.heap.size 2 1 us0 X0.length (ints X0)) := (by show World.ownsRow _ _ _ _ _ _ _; rw [hw]; exact Rs0_w10.out)
  have Rg0_w11 : Hid (w11.ownsRow w3.heap.size 2 1 ug0 X0.length (ints (sq (1) X0.length))) := (by show World.ownsRow _ _ _ _ _ _ _; rw [hw]; exact Rg0_w10.out)
  clear hw
  clear Rs0_w10 Rg0_w10
  go_wp2_with fail
  refine (TO0.out w11 BBw11.out).mono ?_
  rintro e w12 ⟨rfl, r, b⟩
  have ZZw12 : Hid (w11.heap.size ≤ w12.heap.size) := b.size
  have BBw12 : Hid (Below w.heap.size w w12) := BBw11.out.trans (b.mono BBw11.out.size)
  have Rs0_w12 : Hid (w12.ownsRow w1.heap.size 2 1 us0 X0.length (ints X0)) := row_on Rs0_w11.out b
  have Rg0_w12 : Hid (w12.ownsRow w3.heap.size 2 1 ug0 X0.length (ints (sq (1) X0.length))) := row_on Rg0_w11.out b
  have Rq0_w12 : Hid (w12.ownsRow w11.heap.size 5 1 (.slice (some ⟨w11.heap.size, 0, none⟩) L0.length L0.length) L0.length (Bytes.bys L0)) := r
  have LTq0 : Hid (∀ k, (Value.slice (some ⟨w11.heap.size, 0, none⟩) L0.length L0.length).ownBlock = some k → w11.heap.size ≤ k ∧ k < w12.heap.size) := fun k hk => Rq0_w12.out.lt k hk
  clear r b
  clear Rs0_w11 Rg0_w11
  go_wp2_with fail
  refine (IU.out w12 _ _ Rq0_w12.out).mono ?_
  rintro e w13 ⟨uh0, rfl, rr0, b⟩
  have ZZw13 : Hid (w12.heap.size ≤ w13.heap.size) := b.size
  have BBw13 : Hid (Below w.heap.size w w13) := BBw12.out.trans (b.mono BBw12.out.size)
  have Rs0_w13 : Hid (w13.ownsRow w1.heap.size 2 1 us0 X0.length (ints X0)) := row_on Rs0_w12.out b
  have Rg0_w13 : Hid (w13.ownsRow w3.heap.size 2 1 ug0 X0.length (ints (sq (1) X0.length))) := row_on Rg0_w12.out b
  have Rq0_w13 : Hid (w13.ownsRow w11.heap.size 5 1 (.slice (some ⟨w11.heap.size, 0, none⟩) L0.length L0.length) L0.length (Bytes.bys L0)) := row_on Rq0_w12.out b
  have Rh0_w13 : Hid (w13.ownsRow w12.heap.size 2 1 uh0 X0.length (ints X0)) := rr0
  have LTh0 : Hid (∀ k, uh0.ownBlock = some k → w12.heap.size ≤ k ∧ k < w13.heap.size) := fun k hk => Rh0_w13.out.lt k hk
  clear rr0
  clear b
  clear Rs0_w12 Rg0_w12 Rq0_w12
  clear Rq0_w13
  go_wp2_with fail
  refine (eq_same _ _ _ _ _ X0 Rh0_w13.out Rs0_w13.out).mono ?_
  rintro e w14 ⟨rfl, mw14, hw⟩
  have ZZw14 : Hid (w14.heap.size = w13.heap.size) := (by show _ = _; rw [hw]; rfl)
  have BBw14 : Hid (Below w.heap.size w w14) := (by show Below _ _ _; rw [hw]; exact below_drewN BBw13.out _)
  have Rs0_w14 : Hid (w14.ownsRow w1.heap.size 2 1 us0 X0.length (ints X0)) := (by show World.ownsRow _ _ _ _ _ _ _; rw [hw]; exact Rs0_w13.out)
  have Rg0_w14 : Hid (w14.ownsRow w3.heap.size 2 1 ug0 X0.length (ints (sq (1) X0.length))) := (by show World.ownsRow _ _ _ _ _ _ _; rw [hw]; exact Rg0_w13.out)
  have Rh0_w14 : Hid (w14.ownsRow w12.heap.size 2 1 uh0 X0.length (ints X0)) := (by show World.ownsRow _ _ _ _ _ _ _; rw [hw]; exact Rh0_w13.out)
  clear hw
  clear Rs0_w13 Rg0_w13 Rh0_w13
  go_wp2_with fail
  refine (held2 w14 _ _ X0.length (1) (by have q0 := ZZwa.out; have q1 := ZZw1.out; have q2 := ZZw2.out; have q3 := ZZw3.out; have q4 := ZZw4.out; have q5 := ZZw5.out; have q6 := ZZw6.out; have q7 := ZZw7.out; have q8 := ZZw8.out; have q9 := ZZw9.out; have q10 := ZZw10.out; have q11 := ZZw11.out; have q12 := ZZw12.out; have q13 := ZZw13.out; have q14 := ZZw14.out; have q15 := HL0.out; have q16 := HX0.out; omega) (by have q0 := ZZwa.out; have q1 := ZZw1.out; have q2 := ZZw2.out; have q3 := ZZw3.out; have q4 := ZZw4.out; have q5 := ZZw5.out; have q6 := ZZw6.out; have q7 := ZZw7.out; have q8 := ZZw8.out; have q9 := ZZw9.out; have q10 := ZZw10.out; have q11 := ZZw11.out; have q12 := ZZw12.out; have q13 := ZZw13.out; have q14 := ZZw14.out; have q15 := HL0.out; have q16 := HX0.out; omega) (by have := HX0.out; omega) Rg0_w14.out).mono ?_
  rintro e w15 ⟨rfl, mw15, hw⟩
  have ZZw15 : Hid (w15.heap.size = w14.heap.size) := (by show _ = _; rw [hw]; rfl)
  have BBw15 : Hid (Below w.heap.size w w15) := (by show Below _ _ _; rw [hw]; exact below_drewN BBw14.out _)
  have Rs0_w15 : Hid (w15.ownsRow w1.heap.size 2 1 us0 X0.length (ints X0)) := (by show World.ownsRow _ _ _ _ _ _ _; rw [hw]; exact Rs0_w14.out)
  have Rg0_w15 : Hid (w15.ownsRow w3.heap.size 2 1 ug0 X0.length (ints (sq (1) X0.length))) := (by show World.ownsRow _ _ _ _ _ _ _; rw [hw]; exact Rg0_w14.out)
  have Rh0_w15 : Hid (w15.ownsRow w12.heap.size 2 1 uh0 X0.length (ints X0)) := (by show World.ownsRow _ _ _ _ _ _ _; rw [hw]; exact Rh0_w14.out)
  clear hw
  clear Rs0_w14 Rg0_w14 Rh0_w14
  go_wp2_with fail
  go_ret
  exact ⟨rfl, BBw15.out⟩
end Go.Proofs.Ytmopkbkdfipglaa.LawRrL
