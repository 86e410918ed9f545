/- The law walked; what model and program answer comes in as hypotheses. -/
import Derived.Test.YtnnmklkpgdpkgaaXoA
import Derived.Test.YtnnmklkpgdpkgaaRmH
namespace Go.Proofs.Ytnnmklkpgdpkgaa.LawMxL
open Go.ChangeShapes Go.WideShapes Go.ChangeAt Go.RowKit
open Go.Proofs.Ytnnmklkpgdpkgaa.Lists

theorem below_drewN {B : Nat} {a w : World} (h : Below B a w) (n : Nat) : Below B a (w.drewN n) := h.trans ⟨rfl, rfl, rfl, Nat.le_refl _, fun _ _ => rfl⟩
theorem row_on {w w' : World} {base n : Nat} {v : Value} {xs : List Value} (h : w.ownsRow base 2 1 v n xs) (hb : Below w.heap.size w w') : w'.ownsRow base 2 1 v n xs := by
  refine h.kept (row := none) ⟨hb.os, hb.tape, hb.output, hb.size, fun k hk _ => hb.block k hk⟩ ?_
  by_cases e : v.ownBlock = none
  · exact Or.inl e
  · exact Or.inr e
theorem row_off {w w' : World} {base n : Nat} {row : Option Nat} {v : Value} {xs : List Value} (h : w.ownsRow base 2 1 v n xs) (hg : w.grownBy w' row) (hne : ∀ k j, v.ownBlock = some k → row = some j → k ≠ j) : w'.ownsRow base 2 1 v n xs := by
  refine h.kept hg ?_
  cases e : v.ownBlock with
  | none => exact Or.inl rfl
  | some k => exact Or.inr fun x => hne k k e x.symm rfl

set_option maxRecDepth 20000 in
set_option maxHeartbeats 2000000 in
theorem mixedLaw (w : World) (v0 : Value) (L0 : List Int) (h0 : Lists.Reads w v0 L0) (f0 : L0.length < 9223372036854775808) (v1 : Value) (L1 : List Int) (h1 : Lists.Reads w v1 L1) (f1 : L1.length < 9223372036854775808) (X0 : List Int) (hX0 : X0.length ≤ 1000) (b1 : Bool)
    (SA : ∀ (w : World) (t0 t1 : Value), Lists.Reads w t0 L0 → Lists.Reads w t1 L1 → Calls Try.prog 9 #[t0, t1] w fun e w' => ∃ u0, e = .returned (.tuple #[u0, .bool b1]) ∧ w'.ownsRow w.heap.size 2 1 u0 X0.length (ints X0) ∧ Below w.heap.size w w')
    (IA : ∀ (w : World) (t0 t1 : Value), Lists.Reads w t0 L0 → Lists.Reads w t1 L1 → Calls Try.prog 10 #[t0, t1] w fun e w' => ∃ u0, e = .returned (.tuple #[u0, .bool b1]) ∧ w'.ownsRow w.heap.size 2 1 u0 X0.length (ints X0) ∧ Below w.heap.size w w') :
    Calls Try.prog 4 #[v0, v1] w fun e w' => e = .returned (.bool true) ∧ Below w.heap.size w w' := by
  obtain ⟨s0, c0, rfl⟩ := h0.form
  obtain ⟨s1, c1, rfl⟩ := h1.form
  by_cases g0 : 1048576 < L0.length
  · have i1 : (1048576 : Int) < (L0.length : Int) := by omega
    go_enter Try.func4, Try.ntmps4
    go_wp2_with fail
    go_ret
    exact ⟨rfl, Below.refl _ _⟩
  have j0 : ¬ (1048576 : Int) < (L0.length : Int) := by omega
  by_cases g1 : 1048576 < L1.length
  · have i1 : (1048576 : Int) < (L1.length : Int) := by omega
    go_enter Try.func4, Try.ntmps4
    go_wp2_with fail
    go_ret
    exact ⟨rfl, Below.refl _ _⟩
  have j1 : ¬ (1048576 : Int) < (L1.length : Int) := by omega
  have TO0 : Hid (∀ w', Below w.heap.size w w' → Calls Try.prog 6 #[.slice s0 L0.length c0] w' fun e w'' => e = .returned (.slice (some ⟨w'.heap.size, 0, none⟩) L0.length L0.length) ∧ w''.ownsRow w'.heap.size 2 1 (.slice (some ⟨w'.heap.size, 0, none⟩) L0.length L0.length) L0.length (ints L0) ∧ Below w'.heap.size w' w'') := fun w' hb => to_any w' _ L0 (h0.on hb) (by omega)
  have TO1 : Hid (∀ w', Below w.heap.size w w' → Calls Try.prog 6 #[.slice s1 L1.length c1] w' fun e w'' => e = .returned (.slice (some ⟨w'.heap.size, 0, none⟩) L1.length L1.length) ∧ w''.ownsRow w'.heap.size 2 1 (.slice (some ⟨w'.heap.size, 0, none⟩) L1.length L1.length) L1.length (ints L1) ∧ Below w'.heap.size w' w'') := fun w' hb => to_any w' _ L1 (h1.on hb) (by omega)
  have SU : Hid (∀ (w' : World) (B0 B1 : Nat) (t0 t1 : Value), w'.ownsRow B0 2 1 t0 L0.length (ints L0) → w'.ownsRow B1 2 1 t1 L1.length (ints L1) → Calls Try.prog 9 #[t0, t1] w' fun e w'' => ∃ u0, e = .returned (.tuple #[u0, .bool b1]) ∧ w''.ownsRow w'.heap.size 2 1 u0 X0.length (ints X0) ∧ Below w'.heap.size w' w'') := fun w' B0 B1 t0 t1 o0 o1 => SA w' t0 t1 (Lists.reads_row o0) (Lists.reads_row o1)
  have IU : Hid (∀ (w' : World) (B0 B1 : Nat) (t0 t1 : Value), w'.ownsRow B0 2 1 t0 L0.length (ints L0) → w'.ownsRow B1 2 1 t1 L1.length (ints L1) → Calls Try.prog 10 #[t0, t1] w' fun e w'' => ∃ u0, e = .returned (.tuple #[u0, .bool b1]) ∧ w''.ownsRow w'.heap.size 2 1 u0 X0.length (ints X0) ∧ Below w'.heap.size w' w'') := fun w' B0 B1 t0 t1 o0 o1 => IA w' t0 t1 (Lists.reads_row o0) (Lists.reads_row o1)
  have hbb : ∀ b : Bool, (b != b) = false := fun b => by cases b <;> rfl
  have hii : ∀ b : Int, (b != b) = false := fun b => by simp
  have hqq : ((1 : Int) + (X0.length : Int) != 1 + (X0.length : Int)) = false := by simp
  have hq0 : ¬ (1 : Int) + (X0.length : Int) < 0 := by omega
  have hq1 : ¬ (1 : Int) + (L0.length : Int) + (L1.length : Int) < 0 := by omega
  have HL0 : Hid (L0.length ≤ 1048576) := (by show _ ≤ _; omega)
  have HL1 : Hid (L1.length ≤ 1048576) := (by show _ ≤ _; omega)
  have HX0 : Hid (X0.length ≤ 1000) := hX0
  clear SA IA hX0 h0 h1 g0 g1 f0 f1
  have BBwa : Hid (Below w.heap.size w w) := Below.refl _ _
  have ZZwa : Hid (w.heap.size ≤ w.heap.size) := Nat.le_refl w.heap.size
  go_enter Try.func4, Try.ntmps4
  go_wp2_with fail
  refine (TO0.out w BBwa.out).mono ?_
  rintro e w1 ⟨rfl, r, b⟩
  have ZZw1 : Hid (w.heap.size ≤ w1.heap.size) := b.size
  have BBw1 : Hid (Below w.heap.size w w1) := BBwa.out.trans (b.mono BBwa.out.size)
  have Rp0_w1 : Hid (w1.ownsRow w.heap.size 2 1 (.slice (some ⟨w.heap.size, 0, none⟩) L0.length L0.length) L0.length (ints L0)) := r
  have LTp0 : Hid (∀ k, (Value.slice (some ⟨w.heap.size, 0, none⟩) L0.length L0.length).ownBlock = some k → w.heap.size ≤ k ∧ k < w1.heap.size) := fun k hk => Rp0_w1.out.lt k hk
  clear r b
  go_wp2_with fail
  refine (TO1.out w1 BBw1.out).mono ?_
  rintro e w2 ⟨rfl, r, b⟩
  have ZZw2 : Hid (w1.heap.size ≤ w2.heap.size) := b.size
  have BBw2 : Hid (Below w.heap.size w w2) := BBw1.out.trans (b.mono BBw1.out.size)
  have Rp0_w2 : Hid (w2.ownsRow w.heap.size 2 1 (.slice (some ⟨w.heap.size, 0, none⟩) L0.length L0.length) L0.length (ints L0)) := row_on Rp0_w1.out b
  have Rp1_w2 : Hid (w2.ownsRow w1.heap.size 2 1 (.slice (some ⟨w1.heap.size, 0, none⟩) L1.length L1.length) L1.length (ints L1)) := r
  have LTp1 : Hid (∀ k, (Value.slice (some ⟨w1.heap.size, 0, none⟩) L1.length L1.length).ownBlock = some k → w1.heap.size ≤ k ∧ k < w2.heap.size) := fun k hk => Rp1_w2.out.lt k hk
  clear r b
  clear Rp0_w1
  go_wp2_with fail
  refine (SU.out w2 _ _ _ _ Rp0_w2.out Rp1_w2.out).mono ?_
  rintro e w3 ⟨us0, rfl, rr0, b⟩
  have ZZw3 : Hid (w2.heap.size ≤ w3.heap.size) := b.size
  have BBw3 : Hid (Below w.heap.size w w3) := BBw2.out.trans (b.mono BBw2.out.size)
  have Rp0_w3 : Hid (w3.ownsRow w.heap.size 2 1 (.slice (some ⟨w.heap.size, 0, none⟩) L0.length L0.length) L0.length (ints L0)) := row_on Rp0_w2.out b
  have Rp1_w3 : Hid (w3.ownsRow w1.heap.size 2 1 (.slice (some ⟨w1.heap.size, 0, none⟩) L1.length L1.length) L1.length (ints L1)) := row_on Rp1_w2.out b
  have Rs0_w3 : Hid (w3.ownsRow w2.heap.size 2 1 us0 X0.length (ints X0)) := rr0
  have LTs0 : Hid (∀ k, us0.ownBlock = some k → w2.heap.size ≤ k ∧ k < w3.heap.size) := fun k hk => Rs0_w3.out.lt k hk
  clear rr0
  clear b
  clear Rp0_w2 Rp1_w2
  clear Rp0_w3
  clear Rp1_w3
  go_wp2_with fail
  refine (TO0.out w3 BBw3.out).mono ?_
  rintro e w4 ⟨rfl, r, b⟩
  have ZZw4 : Hid (w3.heap.size ≤ w4.heap.size) := b.size
  have BBw4 : Hid (Below w.heap.size w w4) := BBw3.out.trans (b.mono BBw3.out.size)
  have Rs0_w4 : Hid (w4.ownsRow w2.heap.size 2 1 us0 X0.length (ints X0)) := row_on Rs0_w3.out b
  have Rx0_w4 : Hid (w4.ownsRow w3.heap.size 2 1 (.slice (some ⟨w3.heap.size, 0, none⟩) L0.length L0.length) L0.length (ints L0)) := r
  have LTx0 : Hid (∀ k, (Value.slice (some ⟨w3.heap.size, 0, none⟩) L0.length L0.length).ownBlock = some k → w3.heap.size ≤ k ∧ k < w4.heap.size) := fun k hk => Rx0_w4.out.lt k hk
  clear r b
  clear Rs0_w3
  go_wp2_with fail
  refine (TO1.out w4 BBw4.out).mono ?_
  rintro e w5 ⟨rfl, r, b⟩
  have ZZw5 : Hid (w4.heap.size ≤ w5.heap.size) := b.size
  have BBw5 : Hid (Below w.heap.size w w5) := BBw4.out.trans (b.mono BBw4.out.size)
  have Rs0_w5 : Hid (w5.ownsRow w2.heap.size 2 1 us0 X0.length (ints X0)) := row_on Rs0_w4.out b
  have Rx0_w5 : Hid (w5.ownsRow w3.heap.size 2 1 (.slice (some ⟨w3.heap.size, 0, none⟩) L0.length L0.length) L0.length (ints L0)) := row_on Rx0_w4.out b
  have Rx1_w5 : Hid (w5.ownsRow w4.heap.size 2 1 (.slice (some ⟨w4.heap.size, 0, none⟩) L1.length L1.length) L1.length (ints L1)) := r
  have LTx1 : Hid (∀ k, (Value.slice (some ⟨w4.heap.size, 0, none⟩) L1.length L1.length).ownBlock = some k → w4.heap.size ≤ k ∧ k < w5.heap.size) := fun k hk => Rx1_w5.out.lt k hk
  clear r b
  clear Rs0_w4 Rx0_w4
  go_wp2_with fail
  refine (IU.out w5 _ _ _ _ Rx0_w5.out Rx1_w5.out).mono ?_
  rintro e w6 ⟨ug0, rfl, rr0, b⟩
  have ZZw6 : Hid (w5.heap.size ≤ w6.heap.size) := b.size
  have BBw6 : Hid (Below w.heap.size w w6) := BBw5.out.trans (b.mono BBw5.out.size)
  have Rs0_w6 : Hid (w6.ownsRow w2.heap.size 2 1 us0 X0.length (ints X0)) := row_on Rs0_w5.out b
  have Rx0_w6 : Hid (w6.ownsRow w3.heap.size 2 1 (.slice (some ⟨w3.heap.size, 0, none⟩) L0.length L0.length) L0.length (ints L0)) := row_on Rx0_w5.out b
  have Rx1_w6 : Hid (w6.ownsRow w4.heap.size 2 1 (.slice (some ⟨w4.heap.size, 0, none⟩) L1.length L1.length) L1.length (ints L1)) := row_on Rx1_w5.out b
  have Rg0_w6 : Hid (w6.ownsRow w5.heap.size 2 1 ug0 X0.length (ints X0)) := rr0
  have LTg0 : Hid (∀ k, ug0.ownBlock = some k → w5.heap.size ≤ k ∧ k < w6.heap.size) := fun k hk => Rg0_w6.out.lt k hk
  clear rr0
  clear b
  clear Rs0_w5 Rx0_w5 Rx1_w5
  go_wp2_with fail
  refine (eq_same _ _ _ _ _ X0 Rg0_w6.out Rs0_w6.out).mono ?_
  rintro e w7 ⟨rfl, mw7, hw⟩
  have ZZw7 : Hid (w7.heap.size = w6.heap.size) := (by show _ = _; rw [hw]; rfl)
  have BBw7 : Hid (Below w.heap.size w w7) := (by show Below _ _ _; rw [hw]; exact below_drewN BBw6.out _)
  have Rs0_w7 : Hid (w7.ownsRow w2.heap.size 2 1 us0 X0.length (ints X0)) := (by show World.ownsRow _ _ _ _ _ _ _; rw [hw]; exact Rs0_w6.out)
  have Rx0_w7 : Hid (w7.ownsRow w3.heap.size 2 1 (.slice (some ⟨w3.heap.size, 0, none⟩) L0.length L0.length) L0.length (ints L0)) := (by show World.ownsRow _ _ _ _ _ _ _; rw [hw]; exact Rx0_w6.out)
  have Rx1_w7 : Hid (w7.ownsRow w4.heap.size 2 1 (.slice (some ⟨w4.heap.size, 0, none⟩) L1.length L1.length) L1.length (ints L1)) := (by show World.ownsRow _ _ _ _ _ _ _; rw [hw]; exact Rx1_w6.out)
  have Rg0_w7 : Hid (w7.ownsRow w5.heap.size 2 1 ug0 X0.length (ints X0)) := (by show World.ownsRow _ _ _ _ _ _ _; rw [hw]; exact Rg0_w6.out)
  clear hw
  clear Rs0_w6 Rx0_w6 Rx1_w6 Rg0_w6
  go_wp2_with fail
  refine (TO0.out w7 BBw7.out).mono ?_
  rintro e w8 ⟨rfl, r, b⟩
  have ZZw8 : Hid (w7.heap.size ≤ w8.heap.size) := b.size
  have BBw8 : Hid (Below w.heap.size w w8) := BBw7.out.trans (b.mono BBw7.out.size)
  have Rs0_w8 : Hid (w8.ownsRow w2.heap.size 2 1 us0 X0.length (ints X0)) := row_on Rs0_w7.out b
  have Rx0_w8 : Hid (w8.ownsRow w3.heap.size 2 1 (.slice (some ⟨w3.heap.size, 0, none⟩) L0.length L0.length) L0.length (ints L0)) := row_on Rx0_w7.out b
  have Rx1_w8 : Hid (w8.ownsRow w4.heap.size 2 1 (.slice (some ⟨w4.heap.size, 0, none⟩) L1.length L1.length) L1.length (ints L1)) := row_on Rx1_w7.out b
  have Rg0_w8 : Hid (w8.ownsRow w5.heap.size 2 1 ug0 X0.length (ints X0)) := row_on Rg0_w7.out b
  have Ry0_w8 : Hid (w8.ownsRow w7.heap.size 2 1 (.slice (some ⟨w7.heap.size, 0, none⟩) L0.length L0.length) L0.length (ints L0)) := r
  have LTy0 : Hid (∀ k, (Value.slice (some ⟨w7.heap.size, 0, none⟩) L0.length L0.length).ownBlock = some k → w7.heap.size ≤ k ∧ k < w8.heap.size) := fun k hk => Ry0_w8.out.lt k hk
  clear r b
  clear Rs0_w7 Rx0_w7 Rx1_w7 Rg0_w7
  go_wp2_with fail
  refine (eq_same _ _ _ _ _ L0 Rx0_w8.out Ry0_w8.out).mono ?_
  rintro e w9 ⟨rfl, mw9, hw⟩
  have ZZw9 : Hid (w9.heap.size = w8.heap.size) := (by show _ = _; rw [hw]; rfl)
  have BBw9 : Hid (Below w.heap.size w w9) := (by show Below _ _ _; rw [hw]; exact below_drewN BBw8.out _)
  have Rs0_w9 : Hid (w9.ownsRow w2.heap.size 2 1 us0 X0.length (ints X0)) := (by show World.ownsRow _ _ _ _ _ _ _; rw [hw]; exact Rs0_w8.out)
  have Rx0_w9 : Hid (w9.ownsRow w3.heap.size 2 1 (.slice (some ⟨w3.heap.size, 0, none⟩) L0.length L0.length) L0.length (ints L0)) := (by show World.ownsRow _ _ _ _ _ _ _; rw [hw]; exact Rx0_w8.out)
  have Rx1_w9 : Hid (w9.ownsRow w4.heap.size 2 1 (.slice (some ⟨w4.heap.size, 0, none⟩) L1.length L1.length) L1.length (ints L1)) := (by show World.ownsRow _ _ _ _ _ _ _; rw [hw]; exact Rx1_w8.out)
  have Rg0_w9 : Hid (w9.ownsRow w5.heap.size 2 1 ug0 X0.length (ints X0)) := (by show World.ownsRow _ _ _ _ _ _ _; rw [hw]; exact Rg0_w8.out)
  have Ry0_w9 : Hid (w9.ownsRow w7.heap.size 2 1 (.slice (some ⟨w7.heap.size, 0, none⟩) L0.length L0.length) L0.length (ints L0)) := (by show World.ownsRow _ _ _ _ _ _ _; rw [hw]; exact Ry0_w8.out)
  clear hw
  clear Rs0_w8 Rx0_w8 Rx1_w8 Rg0_w8 Ry0_w8
  clear Ry0_w9
  go_wp2_with fail
  refine (TO1.out w9 BBw9.out).mono ?_
  rintro e w10 ⟨rfl, r, b⟩
  have ZZw10 : Hid (w9.heap.size ≤ w10.heap.size) := b.size
  have BBw10 : Hid (Below w.heap.size w w10) := BBw9.out.trans (b.mono BBw9.out.size)
  have Rs0_w10 : Hid (w10.ownsRow w2.heap.size 2 1 us0 X0.length (ints X0)) := row_on Rs0_w9.out b
  have Rx0_w10 : Hid (w10.ownsRow w3.heap.size 2 1 (.slice (some ⟨w3.heap.size, 0, none⟩) L0.length L0.length) L0.length (ints L0)) := row_on Rx0_w9.out b
  have Rx1_w10 : Hid (w10.ownsRow w4.heap.size 2 1 (.slice (some ⟨w4.heap.size, 0, none⟩) L1.length L1.length) L1.length (ints L1)) := row_on Rx1_w9.out b
  have Rg0_w10 : Hid (w10.ownsRow w5.heap.size 2 1 ug0 X0.length (ints X0)) := row_on Rg0_w9.out b
  have Ry1_w10 : Hid (w10.ownsRow w9.heap.size 2 1 (.slice (some ⟨w9.heap.size, 0, none⟩) L1.length L1.length) L1.length (ints L1)) := r
  have LTy1 : Hid (∀ k, (Value.slice (some ⟨w9.heap.size, 0, none⟩) L1.length L1.length).ownBlock = some k → w9.heap.size ≤ k ∧ k < w10.heap.size) := fun k hk => Ry1_w10.out.lt k hk
  clear r b
  clear Rs0_w9 Rx0_w9 Rx1_w9 Rg0_w9
  go_wp2_with fail
  refine (eq_same _ _ _ _ _ L1 Rx1_w10.out Ry1_w10.out).mono ?_
  rintro e w11 ⟨rfl, mw11, hw⟩
  have ZZw11 : Hid (w11.heap.size = w10.heap.size) := (by show _ = _; rw [hw]; rfl)
  have BBw11 : Hid (Below w.heap.size w w11) := (by show Below _ _ _; rw [hw]; exact below_drewN BBw10.out _)
  have Rs0_w11 : Hid (w11.ownsRow w2.heap.size 2 1 us0 X0.length (ints X0)) := (by show World.ownsRow _ _ _ _ _ _ _; rw [hw]; exact Rs0_w10.out)
  have Rx0_w11 : Hid (w11.ownsRow w3.heap.size 2 1 (.slice (some ⟨w3.heap.size, 0, none⟩) L0.length L0.length) L0.length (ints L0)) := (by show World.ownsRow _ _ _ _ _ _ _; rw [hw]; exact Rx0_w10.out)
  have Rx1_w11 : Hid (w11.ownsRow w4.heap.size 2 1 (.slice (some ⟨w4.heap.size, 0, none⟩) L1.length L1.length) L1.length (ints L1)) := (by show World.ownsRow _ _ _ _ _ _ _; rw [hw]; exact Rx1_w10.out)
  have Rg0_w11 : Hid (w11.ownsRow w5.heap.size 2 1 ug0 X0.length (ints X0)) := (by show World.ownsRow _ _ _ _ _ _ _; rw [hw]; exact Rg0_w10.out)
  have Ry1_w11 : Hid (w11.ownsRow w9.heap.size 2 1 (.slice (some ⟨w9.heap.size, 0, none⟩) L1.length L1.length) L1.length (ints L1)) := (by show World.ownsRow _ _ _ _ _ _ _; rw [hw]; exact Ry1_w10.out)
  clear hw
  clear Rs0_w10 Rx0_w10 Rx1_w10 Rg0_w10 Ry1_w10
  clear Ry1_w11
  go_wp2_with fail
  refine (mark_any w11 _ _ L0 (1) (by have q0 := ZZwa.out; have q1 := ZZw1.out; have q2 := ZZw2.out; have q3 := ZZw3.out; have q4 := ZZw4.out; have q5 := ZZw5.out; have q6 := ZZw6.out; have q7 := ZZw7.out; have q8 := ZZw8.out; have q9 := ZZw9.out; have q10 := ZZw10.out; have q11 := ZZw11.out; have q12 := HL0.out; have q13 := HL1.out; have q14 := HX0.out; omega) (by have q0 := ZZwa.out; have q1 := ZZw1.out; have q2 := ZZw2.out; have q3 := ZZw3.out; have q4 := ZZw4.out; have q5 := ZZw5.out; have q6 := ZZw6.out; have q7 := ZZw7.out; have q8 := ZZw8.out; have q9 := ZZw9.out; have q10 := ZZw10.out; have q11 := ZZw11.out; have q12 := HL0.out; have q13 := HL1.out; have q14 := HX0.out; omega) (by have q0 := ZZwa.out; have q1 := ZZw1.out; have q2 := ZZw2.out; have q3 := ZZw3.out; have q4 := ZZw4.out; have q5 := ZZw5.out; have q6 := ZZw6.out; have q7 := ZZw7.out; have q8 := ZZw8.out; have q9 := ZZw9.out; have q10 := ZZw10.out; have q11 := ZZw11.out; have q12 := HL0.out; have q13 := HL1.out; have q14 := HX0.out; omega) Rx0_w11.out).mono ?_
  rintro e w12 ⟨rfl, r, g⟩
  have ZZw12 : Hid (w11.heap.size ≤ w12.heap.size) := g.size
  have BBw12 : Hid (Below w.heap.size w w12) := BBw11.out.grown g BBw11.out.size (fun k hk => by have q0 := ZZwa.out; have q1 := ZZw1.out; have q2 := ZZw2.out; have q3 := ZZw3.out; have q4 := ZZw4.out; have q5 := ZZw5.out; have q6 := ZZw6.out; have q7 := ZZw7.out; have q8 := ZZw8.out; have q9 := ZZw9.out; have q10 := ZZw10.out; have q11 := ZZw11.out; have q12 := HL0.out; have q13 := HL1.out; have q14 := HX0.out; have := LTx0.out k hk; omega)
  have Rs0_w12 : Hid (w12.ownsRow w2.heap.size 2 1 us0 X0.length (ints X0)) := row_off Rs0_w11.out g (fun k j hk hj => by have q0 := ZZwa.out; have q1 := ZZw1.out; have q2 := ZZw2.out; have q3 := ZZw3.out; have q4 := ZZw4.out; have q5 := ZZw5.out; have q6 := ZZw6.out; have q7 := ZZw7.out; have q8 := ZZw8.out; have q9 := ZZw9.out; have q10 := ZZw10.out; have q11 := ZZw11.out; have q12 := HL0.out; have q13 := HL1.out; have q14 := HX0.out; have := LTs0.out k hk; have := LTx0.out j hj; omega)
  have Rx1_w12 : Hid (w12.ownsRow w4.heap.size 2 1 (.slice (some ⟨w4.heap.size, 0, none⟩) L1.length L1.length) L1.length (ints L1)) := row_off Rx1_w11.out g (fun k j hk hj => by have q0 := ZZwa.out; have q1 := ZZw1.out; have q2 := ZZw2.out; have q3 := ZZw3.out; have q4 := ZZw4.out; have q5 := ZZw5.out; have q6 := ZZw6.out; have q7 := ZZw7.out; have q8 := ZZw8.out; have q9 := ZZw9.out; have q10 := ZZw10.out; have q11 := ZZw11.out; have q12 := HL0.out; have q13 := HL1.out; have q14 := HX0.out; have := LTx1.out k hk; have := LTx0.out j hj; omega)
  have Rg0_w12 : Hid (w12.ownsRow w5.heap.size 2 1 ug0 X0.length (ints X0)) := row_off Rg0_w11.out g (fun k j hk hj => by have q0 := ZZwa.out; have q1 := ZZw1.out; have q2 := ZZw2.out; have q3 := ZZw3.out; have q4 := ZZw4.out; have q5 := ZZw5.out; have q6 := ZZw6.out; have q7 := ZZw7.out; have q8 := ZZw8.out; have q9 := ZZw9.out; have q10 := ZZw10.out; have q11 := ZZw11.out; have q12 := HL0.out; have q13 := HL1.out; have q14 := HX0.out; have := LTg0.out k hk; have := LTx0.out j hj; omega)
  have Rx0_w12 : Hid (w12.ownsRow w3.heap.size 2 1 (.slice (some ⟨w3.heap.size, 0, none⟩) L0.length L0.length) L0.length (ints (sq (1) L0.length))) := r
  clear r g
  clear Rs0_w11 Rx0_w11 Rx1_w11 Rg0_w11
  go_wp2_with fail
  refine (mark_any w12 _ _ L1 (1 + (L0.length : Int)) (by have q0 := ZZwa.out; have q1 := ZZw1.out; have q2 := ZZw2.out; have q3 := ZZw3.out; have q4 := ZZw4.out; have q5 := ZZw5.out; have q6 := ZZw6.out; have q7 := ZZw7.out; have q8 := ZZw8.out; have q9 := ZZw9.out; have q10 := ZZw10.out; have q11 := ZZw11.out; have q12 := ZZw12.out; have q13 := HL0.out; have q14 := HL1.out; have q15 := HX0.out; omega) (by have q0 := ZZwa.out; have q1 := ZZw1.out; have q2 := ZZw2.out; have q3 := ZZw3.out; have q4 := ZZw4.out; have q5 := ZZw5.out; have q6 := ZZw6.out; have q7 := ZZw7.out; have q8 := ZZw8.out; have q9 := ZZw9.out; have q10 := ZZw10.out; have q11 := ZZw11.out; have q12 := ZZw12.out; have q13 := HL0.out; have q14 := HL1.out; have q15 := HX0.out; omega) (by have q0 := ZZwa.out; have q1 := ZZw1.out; have q2 := ZZw2.out; have q3 := ZZw3.out; have q4 := ZZw4.out; have q5 := ZZw5.out; have q6 := ZZw6.out; have q7 := ZZw7.out; have q8 := ZZw8.out; have q9 := ZZw9.out; have q10 := ZZw10.out; have q11 := ZZw11.out; have q12 := ZZw12.out; have q13 := HL0.out; have q14 := HL1.out; have q15 := HX0.out; omega) Rx1_w12.out).mono ?_
  rintro e w13 ⟨rfl, r, g⟩
  have ZZw13 : Hid (w12.heap.size ≤ w13.heap.size) := g.size
  have BBw13 : Hid (Below w.heap.size w w13) := BBw12.out.grown g BBw12.out.size (fun k hk => by have q0 := ZZwa.out; have q1 := ZZw1.out; have q2 := ZZw2.out; have q3 := ZZw3.out; have q4 := ZZw4.out; have q5 := ZZw5.out; have q6 := ZZw6.out; have q7 := ZZw7.out; have q8 := ZZw8.out; have q9 := ZZw9.out; have q10 := ZZw10.out; have q11 := ZZw11.out; have q12 := ZZw12.out; have q13 := HL0.out; have q14 := HL1.out; have q15 := HX0.out; have := LTx1.out k hk; omega)
  have Rs0_w13 : Hid (w13.ownsRow w2.heap.size 2 1 us0 X0.length (ints X0)) := row_off Rs0_w12.out g (fun k j hk hj => by have q0 := ZZwa.out; have q1 := ZZw1.out; have q2 := ZZw2.out; have q3 := ZZw3.out; have q4 := ZZw4.out; have q5 := ZZw5.out; have q6 := ZZw6.out; have q7 := ZZw7.out; have q8 := ZZw8.out; have q9 := ZZw9.out; have q10 := ZZw10.out; have q11 := ZZw11.out; have q12 := ZZw12.out; have q13 := HL0.out; have q14 := HL1.out; have q15 := HX0.out; have := LTs0.out k hk; have := LTx1.out j hj; omega)
  have Rx0_w13 : Hid (w13.ownsRow w3.heap.size 2 1 (.slice (some ⟨w3.heap.size, 0, none⟩) L0.length L0.length) L0.length (ints (sq (1) L0.length))) := row_off Rx0_w12.out g (fun k j hk hj => by have q0 := ZZwa.out; have q1 := ZZw1.out; have q2 := ZZw2.out; have q3 := ZZw3.out; have q4 := ZZw4.out; have q5 := ZZw5.out; have q6 := ZZw6.out; have q7 := ZZw7.out; have q8 := ZZw8.out; have q9 := ZZw9.out; have q10 := ZZw10.out; have q11 := ZZw11.out; have q12 := ZZw12.out; have q13 := HL0.out; have q14 := HL1.out; have q15 := HX0.out; have := LTx0.out k hk; have := LTx1.out j hj; omega)
  have Rg0_w13 : Hid (w13.ownsRow w5.heap.size 2 1 ug0 X0.length (ints X0)) := row_off Rg0_w12.out g (fun k j hk hj => by have q0 := ZZwa.out; have q1 := ZZw1.out; have q2 := ZZw2.out; have q3 := ZZw3.out; have q4 := ZZw4.out; have q5 := ZZw5.out; have q6 := ZZw6.out; have q7 := ZZw7.out; have q8 := ZZw8.out; have q9 := ZZw9.out; have q10 := ZZw10.out; have q11 := ZZw11.out; have q12 := ZZw12.out; have q13 := HL0.out; have q14 := HL1.out; have q15 := HX0.out; have := LTg0.out k hk; have := LTx1.out j hj; omega)
  have Rx1_w13 : Hid (w13.ownsRow w4.heap.size 2 1 (.slice (some ⟨w4.heap.size, 0, none⟩) L1.length L1.length) L1.length (ints (sq (1 + (L0.length : Int)) L1.length))) := r
  clear r g
  clear Rs0_w12 Rx0_w12 Rx1_w12 Rg0_w12
  clear Rx0_w13
  clear Rx1_w13
  go_wp2_with fail
  refine (eq_same _ _ _ _ _ X0 Rg0_w13.out Rs0_w13.out).mono ?_
  rintro e w14 ⟨rfl, mw14, hw⟩
  have ZZw14 : Hid (w14.heap.size = w13.heap.size) := (by show _ = _; rw [hw]; rfl)
  have BBw14 : Hid (Below w.heap.size w w14) := (by show Below _ _ _; rw [hw]; exact below_drewN BBw13.out _)
  have Rs0_w14 : Hid (w14.ownsRow w2.heap.size 2 1 us0 X0.length (ints X0)) := (by show World.ownsRow _ _ _ _ _ _ _; rw [hw]; exact Rs0_w13.out)
  have Rg0_w14 : Hid (w14.ownsRow w5.heap.size 2 1 ug0 X0.length (ints X0)) := (by show World.ownsRow _ _ _ _ _ _ _; rw [hw]; exact Rg0_w13.out)
  clear hw
  clear Rs0_w13 Rg0_w13
  go_wp2_with fail
  refine (mark_any w14 _ _ X0 (1) (by have q0 := ZZwa.out; have q1 := ZZw1.out; have q2 := ZZw2.out; have q3 := ZZw3.out; have q4 := ZZw4.out; have q5 := ZZw5.out; have q6 := ZZw6.out; have q7 := ZZw7.out; have q8 := ZZw8.out; have q9 := ZZw9.out; have q10 := ZZw10.out; have q11 := ZZw11.out; have q12 := ZZw12.out; have q13 := ZZw13.out; have q14 := ZZw14.out; have q15 := HL0.out; have q16 := HL1.out; have q17 := HX0.out; omega) (by have q0 := ZZwa.out; have q1 := ZZw1.out; have q2 := ZZw2.out; have q3 := ZZw3.out; have q4 := ZZw4.out; have q5 := ZZw5.out; have q6 := ZZw6.out; have q7 := ZZw7.out; have q8 := ZZw8.out; have q9 := ZZw9.out; have q10 := ZZw10.out; have q11 := ZZw11.out; have q12 := ZZw12.out; have q13 := ZZw13.out; have q14 := ZZw14.out; have q15 := HL0.out; have q16 := HL1.out; have q17 := HX0.out; omega) (by have q0 := ZZwa.out; have q1 := ZZw1.out; have q2 := ZZw2.out; have q3 := ZZw3.out; have q4 := ZZw4.out; have q5 := ZZw5.out; have q6 := ZZw6.out; have q7 := ZZw7.out; have q8 := ZZw8.out; have q9 := ZZw9.out; have q10 := ZZw10.out; have q11 := ZZw11.out; have q12 := ZZw12.out; have q13 := ZZw13.out; have q14 := ZZw14.out; have q15 := HL0.out; have q16 := HL1.out; have q17 := HX0.out; omega) Rg0_w14.out).mono ?_
  rintro e w15 ⟨rfl, r, g⟩
  have ZZw15 : Hid (w14.heap.size ≤ w15.heap.size) := g.size
  have BBw15 : Hid (Below w.heap.size w w15) := BBw14.out.grown g BBw14.out.size (fun k hk => by have q0 := ZZwa.out; have q1 := ZZw1.out; have q2 := ZZw2.out; have q3 := ZZw3.out; have q4 := ZZw4.out; have q5 := ZZw5.out; have q6 := ZZw6.out; have q7 := ZZw7.out; have q8 := ZZw8.out; have q9 := ZZw9.out; have q10 := ZZw10.out; have q11 := ZZw11.out; have q12 := ZZw12.out; have q13 := ZZw13.out; have q14 := ZZw14.out; have q15 := HL0.out; have q16 := HL1.out; have q17 := HX0.out; have := LTg0.out k hk; omega)
  have Rs0_w15 : Hid (w15.ownsRow w2.heap.size 2 1 us0 X0.length (ints X0)) := row_off Rs0_w14.out g (fun k j hk hj => by have q0 := ZZwa.out; have q1 := ZZw1.out; have q2 := ZZw2.out; have q3 := ZZw3.out; have q4 := ZZw4.out; have q5 := ZZw5.out; have q6 := ZZw6.out; have q7 := ZZw7.out; have q8 := ZZw8.out; have q9 := ZZw9.out; have q10 := ZZw10.out; have q11 := ZZw11.out; have q12 := ZZw12.out; have q13 := ZZw13.out; have q14 := ZZw14.out; have q15 := HL0.out; have q16 := HL1.out; have q17 := HX0.out; have := LTs0.out k hk; have := LTg0.out j hj; omega)
  have Rg0_w15 : Hid (w15.ownsRow w5.heap.size 2 1 ug0 X0.length (ints (sq (1) X0.length))) := r
  clear r g
  clear Rs0_w14 Rg0_w14
  go_wp2_with fail
  refine (held_any w15 _ X0.length (1) (by have q0 := ZZwa.out; have q1 := ZZw1.out; have q2 := ZZw2.out; have q3 := ZZw3.out; have q4 := ZZw4.out; have q5 := ZZw5.out; have q6 := ZZw6.out; have q7 := ZZw7.out; have q8 := ZZw8.out; have q9 := ZZw9.out; have q10 := ZZw10.out; have q11 := ZZw11.out; have q12 := ZZw12.out; have q13 := ZZw13.out; have q14 := ZZw14.out; have q15 := ZZw15.out; have q16 := HL0.out; have q17 := HL1.out; have q18 := HX0.out; omega) (by have q0 := ZZwa.out; have q1 := ZZw1.out; have q2 := ZZw2.out; have q3 := ZZw3.out; have q4 := ZZw4.out; have q5 := ZZw5.out; have q6 := ZZw6.out; have q7 := ZZw7.out; have q8 := ZZw8.out; have q9 := ZZw9.out; have q10 := ZZw10.out; have q11 := ZZw11.out; have q12 := ZZw12.out; have q13 := ZZw13.out; have q14 := ZZw14.out; have q15 := ZZw15.out; have q16 := HL0.out; have q17 := HL1.out; have q18 := HX0.out; omega) (by have := HX0.out; omega) (Lists.reads_row (L := sq (1) X0.length) (by rw [sq_len]; exact Rg0_w15.out))).mono ?_
  rintro e w16 ⟨rfl, mw16, hw⟩
  have ZZw16 : Hid (w16.heap.size = w15.heap.size) := (by show _ = _; rw [hw]; rfl)
  have BBw16 : Hid (Below w.heap.size w w16) := (by show Below _ _ _; rw [hw]; exact below_drewN BBw15.out _)
  have Rs0_w16 : Hid (w16.ownsRow w2.heap.size 2 1 us0 X0.length (ints X0)) := (by show World.ownsRow _ _ _ _ _ _ _; rw [hw]; exact Rs0_w15.out)
  have Rg0_w16 : Hid (w16.ownsRow w5.heap.size 2 1 ug0 X0.length (ints (sq (1) X0.length))) := (by show World.ownsRow _ _ _ _ _ _ _; rw [hw]; exact Rg0_w15.out)
  clear hw
  clear Rs0_w15 Rg0_w15
  go_wp2_with fail
  refine (TO0.out w16 BBw16.out).mono ?_
  rintro e w17 ⟨rfl, r, b⟩
  have ZZw17 : Hid (w16.heap.size ≤ w17.heap.size) := b.size
  have BBw17 : Hid (Below w.heap.size w w17) := BBw16.out.trans (b.mono BBw16.out.size)
  have Rs0_w17 : Hid (w17.ownsRow w2.heap.size 2 1 us0 X0.length (ints X0)) := row_on Rs0_w16.out b
  have Rg0_w17 : Hid (w17.ownsRow w5.heap.size 2 1 ug0 X0.length (ints (sq (1) X0.length))) := row_on Rg0_w16.out b
  have Rq0_w17 : Hid (w17.ownsRow w16.heap.size 2 1 (.slice (some ⟨w16.heap.size, 0, none⟩) L0.length L0.length) L0.length (ints L0)) := r
  have LTq0 : Hid (∀ k, (Value.slice (some ⟨w16.heap.size, 0, none⟩) L0.length L0.length).ownBlock = some k → w16.heap.size ≤ k ∧ k < w17.heap.size) := fun k hk => Rq0_w17.out.lt k hk
  clear r b
  clear Rs0_w16 Rg0_w16
  go_wp2_with fail
  refine (TO1.out w17 BBw17.out).mono ?_
  rintro e w18 ⟨rfl, r, b⟩
  have ZZw18 : Hid (w17.heap.size ≤ w18.heap.size) := b.size
  have BBw18 : Hid (Below w.heap.size w w18) := BBw17.out.trans (b.mono BBw17.out.size)
  have Rs0_w18 : Hid (w18.ownsRow w2.heap.size 2 1 us0 X0.length (ints X0)) := row_on Rs0_w17.out b
  have Rg0_w18 : Hid (w18.ownsRow w5.heap.size 2 1 ug0 X0.length (ints (sq (1) X0.length))) := row_on Rg0_w17.out b
  have Rq0_w18 : Hid (w18.ownsRow w16.heap.size 2 1 (.slice (some ⟨w16.heap.size, 0, none⟩) L0.length L0.length) L0.length (ints L0)) := row_on Rq0_w17.out b
  have Rq1_w18 : Hid (w18.ownsRow w17.heap.size 2 1 (.slice (some ⟨w17.heap.size, 0, none⟩) L1.length L1.length) L1.length (ints L1)) := r
  have LTq1 : Hid (∀ k, (Value.slice (some ⟨w17.heap.size, 0, none⟩) L1.length L1.length).ownBlock = some k → w17.heap.size ≤ k ∧ k < w18.heap.size) := fun k hk => Rq1_w18.out.lt k hk
  clear r b
  clear Rs0_w17 Rg0_w17 Rq0_w17
  go_wp2_with fail
  refine (IU.out w18 _ _ _ _ Rq0_w18.out Rq1_w18.out).mono ?_
  rintro e w19 ⟨uh0, rfl, rr0, b⟩
  have ZZw19 : Hid (w18.heap.size ≤ w19.heap.size) := b.size
  have BBw19 : Hid (Below w.heap.size w w19) := BBw18.out.trans (b.mono BBw18.out.size)
  have Rs0_w19 : Hid (w19.ownsRow w2.heap.size 2 1 us0 X0.length (ints X0)) := row_on Rs0_w18.out b
  have Rg0_w19 : Hid (w19.ownsRow w5.heap.size 2 1 ug0 X0.length (ints (sq (1) X0.length))) := row_on Rg0_w18.out b
  have Rq0_w19 : Hid (w19.ownsRow w16.heap.size 2 1 (.slice (some ⟨w16.heap.size, 0, none⟩) L0.length L0.length) L0.length (ints L0)) := row_on Rq0_w18.out b
  have Rq1_w19 : Hid (w19.ownsRow w17.heap.size 2 1 (.slice (some ⟨w17.heap.size, 0, none⟩) L1.length L1.length) L1.length (ints L1)) := row_on Rq1_w18.out b
  have Rh0_w19 : Hid (w19.ownsRow w18.heap.size 2 1 uh0 X0.length (ints X0)) := rr0
  have LTh0 : Hid (∀ k, uh0.ownBlock = some k → w18.heap.size ≤ k ∧ k < w19.heap.size) := fun k hk => Rh0_w19.out.lt k hk
  clear rr0
  clear b
  clear Rs0_w18 Rg0_w18 Rq0_w18 Rq1_w18
  clear Rq0_w19
  clear Rq1_w19
  go_wp2_with fail
  refine (eq_same _ _ _ _ _ X0 Rh0_w19.out Rs0_w19.out).mono ?_
  rintro e w20 ⟨rfl, mw20, hw⟩
  have ZZw20 : Hid (w20.heap.size = w19.heap.size) := (by show _ = _; rw [hw]; rfl)
  have BBw20 : Hid (Below w.heap.size w w20) := (by show Below _ _ _; rw [hw]; exact below_drewN BBw19.out _)
  have Rs0_w20 : Hid (w20.ownsRow w2.heap.size 2 1 us0 X0.length (ints X0)) := (by show World.ownsRow _ _ _ _ _ _ _; rw [hw]; exact Rs0_w19.out)
  have Rg0_w20 : Hid (w20.ownsRow w5.heap.size 2 1 ug0 X0.length (ints (sq (1) X0.length))) := (by show World.ownsRow _ _ _ _ _ _ _; rw [hw]; exact Rg0_w19.out)
  have Rh0_w20 : Hid (w20.ownsRow w18.heap.size 2 1 uh0 X0.length (ints X0)) := (by show World.ownsRow _ _ _ _ _ _ _; rw [hw]; exact Rh0_w19.out)
  clear hw
  clear Rs0_w19 Rg0_w19 Rh0_w19
  go_wp2_with fail
  refine (held_any w20 _ X0.length (1) (by have q0 := ZZwa.out; have q1 := ZZw1.out; have q2 := ZZw2.out; have q3 := ZZw3.out; have q4 := ZZw4.out; have q5 := ZZw5.out; have q6 := ZZw6.out; have q7 := ZZw7.out; have q8 := ZZw8.out; have q9 := ZZw9.out; have q10 := ZZw10.out; have q11 := ZZw11.out; have q12 := ZZw12.out; have q13 := ZZw13.out; have q14 := ZZw14.out; have q15 := ZZw15.out; have q16 := ZZw16.out; have q17 := ZZw17.out; have q18 := ZZw18.out; have q19 := ZZw19.out; have q20 := ZZw20.out; have q21 := HL0.out; have q22 := HL1.out; have q23 := HX0.out; omega) (by have q0 := ZZwa.out; have q1 := ZZw1.out; have q2 := ZZw2.out; have q3 := ZZw3.out; have q4 := ZZw4.out; have q5 := ZZw5.out; have q6 := ZZw6.out; have q7 := ZZw7.out; have q8 := ZZw8.out; have q9 := ZZw9.out; have q10 := ZZw10.out; have q11 := ZZw11.out; have q12 := ZZw12.out; have q13 := ZZw13.out; have q14 := ZZw14.out; have q15 := ZZw15.out; have q16 := ZZw16.out; have q17 := ZZw17.out; have q18 := ZZw18.out; have q19 := ZZw19.out; have q20 := ZZw20.out; have q21 := HL0.out; have q22 := HL1.out; have q23 := HX0.out; omega) (by have := HX0.out; omega) (Lists.reads_row (L := sq (1) X0.length) (by rw [sq_len]; exact Rg0_w20.out))).mono ?_
  rintro e w21 ⟨rfl, mw21, hw⟩
  have ZZw21 : Hid (w21.heap.size = w20.heap.size) := (by show _ = _; rw [hw]; rfl)
  have BBw21 : Hid (Below w.heap.size w w21) := (by show Below _ _ _; rw [hw]; exact below_drewN BBw20.out _)
  have Rs0_w21 : Hid (w21.ownsRow w2.heap.size 2 1 us0 X0.length (ints X0)) := (by show World.ownsRow _ _ _ _ _ _ _; rw [hw]; exact Rs0_w20.out)
  have Rg0_w21 : Hid (w21.ownsRow w5.heap.size 2 1 ug0 X0.length (ints (sq (1) X0.length))) := (by show World.ownsRow _ _ _ _ _ _ _; rw [hw]; exact Rg0_w20.out)
  have Rh0_w21 : Hid (w21.ownsRow w18.heap.size 2 1 uh0 X0.length (ints X0)) := (by show World.ownsRow _ _ _ _ _ _ _; rw [hw]; exact Rh0_w20.out)
  clear hw
  clear Rs0_w20 Rg0_w20 Rh0_w20
  go_wp2_with fail
  go_ret
  exact ⟨rfl, BBw21.out⟩
end Go.Proofs.Ytnnmklkpgdpkgaa.LawMxL
