/- The law walked; what model and program answer comes in as hypotheses. -/
import Derived.Test.YtgnapoklkicfmaaXoA
import Derived.Test.YtgnapoklkicfmaaRmH
namespace Go.Proofs.Ytgnapoklkicfmaa.LawLvL
open Go.ChangeShapes Go.WideShapes Go.ChangeAt Go.RowKit
open Go.Proofs.Ytgnapoklkicfmaa.Lists

theorem below_drewN {B : Nat} {a w : World} (h : Below B a w) (n : Nat) : Below B a (w.drewN n) := h.trans ⟨rfl, rfl, rfl, Nat.le_refl _, fun _ _ => rfl⟩
theorem row_on {w w' : World} {base n : Nat} {v : Value} {xs : List Value} (h : w.ownsRow base 2 1 v n xs) (hb : Below w.heap.size w w') : w'.ownsRow base 2 1 v n xs := by
  refine h.kept (row := none) ⟨hb.os, hb.tape, hb.output, hb.size, fun k hk _ => hb.block k hk⟩ ?_
  by_cases e : v.ownBlock = none
  · exact Or.inl e
  · exact Or.inr e
theorem row_off {w w' : World} {base n : Nat} {row : Option Nat} {v : Value} {xs : List Value} (h : w.ownsRow base 2 1 v n xs) (hg : w.grownBy w' row) (hne : ∀ k j, v.ownBlock = some k → row = some j → k ≠ j) : w'.ownsRow base 2 1 v n xs := by
  refine h.kept hg ?_
  cases e : v.ownBlock with
  | none => exact Or.inl rfl
  | some k => exact Or.inr fun x => hne k k e x.symm rfl

set_option maxRecDepth 20000 in
set_option maxHeartbeats 2000000 in
theorem lvLaw (w : World) (v0 : Value) (L0 : List Int) (h0 : Lists.Reads w v0 L0) (f0 : L0.length < 9223372036854775808) (v1 : Value) (L1 : List Int) (h1 : Lists.Reads w v1 L1) (f1 : L1.length < 9223372036854775808) (v2 : Value) (L2 : List Int) (h2 : Lists.Reads w v2 L2) (f2 : L2.length < 9223372036854775808) (n3 : Int) (X0 : List Int) (hX0 : X0.length ≤ 1000) (b1 : Bool)
    (SA : ∀ (w : World) (t0 t1 t2 : Value), Lists.Reads w t0 L0 → Lists.Reads w t1 L1 → Lists.Reads w t2 L2 → Calls Try.prog 4 #[t0, t1, t2, .int .i64 n3] w fun e w' => ∃ u0, e = .returned (.tuple #[u0, .bool b1]) ∧ w'.ownsRow w.heap.size 2 1 u0 X0.length (ints X0) ∧ Below w.heap.size w w')
    (IA : ∀ (w : World) (t0 t1 t2 : Value), Lists.Reads w t0 L0 → Lists.Reads w t1 L1 → Lists.Reads w t2 L2 → Calls Try.prog 6 #[t0, t1, t2, .int .i64 n3] w fun e w' => ∃ u0, e = .returned (.tuple #[u0, .bool b1]) ∧ w'.ownsRow w.heap.size 2 1 u0 X0.length (ints X0) ∧ Below w.heap.size w w') :
    Calls Try.prog 3 #[v0, v1, v2, .int .i64 n3] w fun e w' => e = .returned (.bool true) ∧ Below w.heap.size w w' := by
  obtain ⟨s0, c0, rfl⟩ := h0.form
  obtain ⟨s1, c1, rfl⟩ := h1.form
  obtain ⟨s2, c2, rfl⟩ := h2.form
  by_cases g0 : 1048576 < L0.length
  · have i1 : (1048576 : Int) < (L0.length : Int) := by omega
    go_enter Try.func3, Try.ntmps3
    go_wp2_with fail
    go_ret
    exact ⟨rfl, Below.refl _ _⟩
  have j0 : ¬ (1048576 : Int) < (L0.length : Int) := by omega
  by_cases g1 : 1048576 < L1.length
  · have i1 : (1048576 : Int) < (L1.length : Int) := by omega
    go_enter Try.func3, Try.ntmps3
    go_wp2_with fail
    go_ret
    exact ⟨rfl, Below.refl _ _⟩
  have j1 : ¬ (1048576 : Int) < (L1.length : Int) := by omega
  by_cases g2 : 1048576 < L2.length
  · have i1 : (1048576 : Int) < (L2.length : Int) := by omega
    go_enter Try.func3, Try.ntmps3
    go_wp2_with fail
    go_ret
    exact ⟨rfl, Below.refl _ _⟩
  have j2 : ¬ (1048576 : Int) < (L2.length : Int) := by omega
  have TO0 : Hid (∀ w', Below w.heap.size w w' → Calls Try.prog 5 #[.slice s0 L0.length c0] w' fun e w'' => e = .returned (.slice (some ⟨w'.heap.size, 0, none⟩) L0.length L0.length) ∧ w''.ownsRow w'.heap.size 2 1 (.slice (some ⟨w'.heap.size, 0, none⟩) L0.length L0.length) L0.length (ints L0) ∧ Below w'.heap.size w' w'') := fun w' hb => to_any w' _ L0 (h0.on hb) (by omega)
  have TO1 : Hid (∀ w', Below w.heap.size w w' → Calls Try.prog 5 #[.slice s1 L1.length c1] w' fun e w'' => e = .returned (.slice (some ⟨w'.heap.size, 0, none⟩) L1.length L1.length) ∧ w''.ownsRow w'.heap.size 2 1 (.slice (some ⟨w'.heap.size, 0, none⟩) L1.length L1.length) L1.length (ints L1) ∧ Below w'.heap.size w' w'') := fun w' hb => to_any w' _ L1 (h1.on hb) (by omega)
  have TO2 : Hid (∀ w', Below w.heap.size w w' → Calls Try.prog 5 #[.slice s2 L2.length c2] w' fun e w'' => e = .returned (.slice (some ⟨w'.heap.size, 0, none⟩) L2.length L2.length) ∧ w''.ownsRow w'.heap.size 2 1 (.slice (some ⟨w'.heap.size, 0, none⟩) L2.length L2.length) L2.length (ints L2) ∧ Below w'.heap.size w' w'') := fun w' hb => to_any w' _ L2 (h2.on hb) (by omega)
  have SU : Hid (∀ (w' : World) (B0 B1 B2 : Nat) (t0 t1 t2 : Value), w'.ownsRow B0 2 1 t0 L0.length (ints L0) → w'.ownsRow B1 2 1 t1 L1.length (ints L1) → w'.ownsRow B2 2 1 t2 L2.length (ints L2) → Calls Try.prog 4 #[t0, t1, t2, .int .i64 n3] w' fun e w'' => ∃ u0, e = .returned (.tuple #[u0, .bool b1]) ∧ w''.ownsRow w'.heap.size 2 1 u0 X0.length (ints X0) ∧ Below w'.heap.size w' w'') := fun w' B0 B1 B2 t0 t1 t2 o0 o1 o2 => SA w' t0 t1 t2 (Lists.reads_row o0) (Lists.reads_row o1) (Lists.reads_row o2)
  have IU : Hid (∀ (w' : World) (B0 B1 B2 : Nat) (t0 t1 t2 : Value), w'.ownsRow B0 2 1 t0 L0.length (ints L0) → w'.ownsRow B1 2 1 t1 L1.length (ints L1) → w'.ownsRow B2 2 1 t2 L2.length (ints L2) → Calls Try.prog 6 #[t0, t1, t2, .int .i64 n3] w' fun e w'' => ∃ u0, e = .returned (.tuple #[u0, .bool b1]) ∧ w''.ownsRow w'.heap.size 2 1 u0 X0.length (ints X0) ∧ Below w'.heap.size w' w'') := fun w' B0 B1 B2 t0 t1 t2 o0 o1 o2 => IA w' t0 t1 t2 (Lists.reads_row o0) (Lists.reads_row o1) (Lists.reads_row o2)
  have hbb : ∀ b : Bool, (b != b) = false := fun b => by cases b <;> rfl
  have hii : ∀ b : Int, (b != b) = false := fun b => by simp
  have hqq : ((1 : Int) + (X0.length : Int) != 1 + (X0.length : Int)) = false := by simp
  have hq0 : ¬ (1 : Int) + (X0.length : Int) < 0 := by omega
  have hq1 : ¬ (1 : Int) + (L0.length : Int) + (L1.length : Int) + (L2.length : Int) < 0 := by omega
  have HL0 : Hid (L0.length ≤ 1048576) := (by show _ ≤ _; omega)
  have HL1 : Hid (L1.length ≤ 1048576) := (by show _ ≤ _; omega)
  have HL2 : Hid (L2.length ≤ 1048576) := (by show _ ≤ _; omega)
  have HX0 : Hid (X0.length ≤ 1000) := hX0
  clear SA IA hX0 h0 h1 h2 g0 g1 g2 f0 f1 f2
  have BBwa : Hid (Below w.heap.size w w) := Below.refl _ _
  have ZZwa : Hid (w.heap.size ≤ w.heap.size) := Nat.le_refl w.heap.size
  go_enter Try.func3, Try.ntmps3
  go_wp2_with fail
  refine (TO0.out w BBwa.out).mono ?_
  rintro e w1 ⟨rfl, r, b⟩
  have ZZw1 : Hid (w.heap.size ≤ w1.heap.size) := b.size
  have BBw1 : Hid (Below w.heap.size w w1) := BBwa.out.trans (b.mono BBwa.out.size)
  have Rp0_w1 : Hid (w1.ownsRow w.heap.size 2 1 (.slice (some ⟨w.heap.size, 0, none⟩) L0.length L0.length) L0.length (ints L0)) := r
  have LTp0 : Hid (∀ k, (Value.slice (some ⟨w.heap.size, 0, none⟩) L0.length L0.length).ownBlock = some k → w.heap.size ≤ k ∧ k < w1.heap.size) := fun k hk => Rp0_w1.out.lt k hk
  clear r b
  go_wp2_with fail
  refine (TO1.out w1 BBw1.out).mono ?_
  rintro e w2 ⟨rfl, r, b⟩
  have ZZw2 : Hid (w1.heap.size ≤ w2.heap.size) := b.size
  have BBw2 : Hid (Below w.heap.size w w2) := BBw1.out.trans (b.mono BBw1.out.size)
  have Rp0_w2 : Hid (w2.ownsRow w.heap.size 2 1 (.slice (some ⟨w.heap.size, 0, none⟩) L0.length L0.length) L0.length (ints L0)) := row_on Rp0_w1.out b
  have Rp1_w2 : Hid (w2.ownsRow w1.heap.size 2 1 (.slice (some ⟨w1.heap.size, 0, none⟩) L1.length L1.length) L1.length (ints L1)) := r
  have LTp1 : Hid (∀ k, (Value.slice (some ⟨w1.heap.size, 0, none⟩) L1.length L1.length).ownBlock = some k → w1.heap.size ≤ k ∧ k < w2.heap.size) := fun k hk => Rp1_w2.out.lt k hk
  clear r b
  clear Rp0_w1
  go_wp2_with fail
  refine (TO2.out w2 BBw2.out).mono ?_
  rintro e w3 ⟨rfl, r, b⟩
  have ZZw3 : Hid (w2.heap.size ≤ w3.heap.size) := b.size
  have BBw3 : Hid (Below w.heap.size w w3) := BBw2.out.trans (b.mono BBw2.out.size)
  have Rp0_w3 : Hid (w3.ownsRow w.heap.size 2 1 (.slice (some ⟨w.heap.size, 0, none⟩) L0.length L0.length) L0.length (ints L0)) := row_on Rp0_w2.out b
  have Rp1_w3 : Hid (w3.ownsRow w1.heap.size 2 1 (.slice (some ⟨w1.heap.size, 0, none⟩) L1.length L1.length) L1.length (ints L1)) := row_on Rp1_w2.out b
  have Rp2_w3 : Hid (w3.ownsRow w2.heap.size 2 1 (.slice (some ⟨w2.heap.size, 0, none⟩) L2.length L2.length) L2.length (ints L2)) := r
  have LTp2 : Hid (∀ k, (Value.slice (some ⟨w2.heap.size, 0, none⟩) L2.length L2.length).ownBlock = some k → w2.heap.size ≤ k ∧ k < w3.heap.size) := fun k hk => Rp2_w3.out.lt k hk
  clear r b
  clear Rp0_w2 Rp1_w2
  go_wp2_with fail
  refine (SU.out w3 _ _ _ _ _ _ Rp0_w3.out Rp1_w3.out Rp2_w3.out).mono ?_
  rintro e w4 ⟨us0, rfl, rr0, b⟩
  have ZZw4 : Hid (w3.heap.size ≤ w4.heap.size) := b.size
  have BBw4 : Hid (Below w.heap.size w w4) := BBw3.out.trans (b.mono BBw3.out.size)
  have Rp0_w4 : Hid (w4.ownsRow w.heap.size 2 1 (.slice (some ⟨w.heap.size, 0, none⟩) L0.length L0.length) L0.length (ints L0)) := row_on Rp0_w3.out b
  have Rp1_w4 : Hid (w4.ownsRow w1.heap.size 2 1 (.slice (some ⟨w1.heap.size, 0, none⟩) L1.length L1.length) L1.length (ints L1)) := row_on Rp1_w3.out b
  have Rp2_w4 : Hid (w4.ownsRow w2.heap.size 2 1 (.slice (some ⟨w2.heap.size, 0, none⟩) L2.length L2.length) L2.length (ints L2)) := row_on Rp2_w3.out b
  have Rs0_w4 : Hid (w4.ownsRow w3.heap.size 2 1 us0 X0.length (ints X0)) := rr0
  have LTs0 : Hid (∀ k, us0.ownBlock = some k → w3.heap.size ≤ k ∧ k < w4.heap.size) := fun k hk => Rs0_w4.out.lt k hk
  clear rr0
  clear b
  clear Rp0_w3 Rp1_w3 Rp2_w3
  clear Rp0_w4
  clear Rp1_w4
  clear Rp2_w4
  go_wp2_with fail
  refine (TO0.out w4 BBw4.out).mono ?_
  rintro e w5 ⟨rfl, r, b⟩
  have ZZw5 : Hid (w4.heap.size ≤ w5.heap.size) := b.size
  have BBw5 : Hid (Below w.heap.size w w5) := BBw4.out.trans (b.mono BBw4.out.size)
  have Rs0_w5 : Hid (w5.ownsRow w3.heap.size 2 1 us0 X0.length (ints X0)) := row_on Rs0_w4.out b
  have Rx0_w5 : Hid (w5.ownsRow w4.heap.size 2 1 (.slice (some ⟨w4.heap.size, 0, none⟩) L0.length L0.length) L0.length (ints L0)) := r
  have LTx0 : Hid (∀ k, (Value.slice (some ⟨w4.heap.size, 0, none⟩) L0.length L0.length).ownBlock = some k → w4.heap.size ≤ k ∧ k < w5.heap.size) := fun k hk => Rx0_w5.out.lt k hk
  clear r b
  clear Rs0_w4
  go_wp2_with fail
  refine (TO1.out w5 BBw5.out).mono ?_
  rintro e w6 ⟨rfl, r, b⟩
  have ZZw6 : Hid (w5.heap.size ≤ w6.heap.size) := b.size
  have BBw6 : Hid (Below w.heap.size w w6) := BBw5.out.trans (b.mono BBw5.out.size)
  have Rs0_w6 : Hid (w6.ownsRow w3.heap.size 2 1 us0 X0.length (ints X0)) := row_on Rs0_w5.out b
  have Rx0_w6 : Hid (w6.ownsRow w4.heap.size 2 1 (.slice (some ⟨w4.heap.size, 0, none⟩) L0.length L0.length) L0.length (ints L0)) := row_on Rx0_w5.out b
  have Rx1_w6 : Hid (w6.ownsRow w5.heap.size 2 1 (.slice (some ⟨w5.heap.size, 0, none⟩) L1.length L1.length) L1.length (ints L1)) := r
  have LTx1 : Hid (∀ k, (Value.slice (some ⟨w5.heap.size, 0, none⟩) L1.length L1.length).ownBlock = some k → w5.heap.size ≤ k ∧ k < w6.heap.size) := fun k hk => Rx1_w6.out.lt k hk
  clear r b
  clear Rs0_w5 Rx0_w5
  go_wp2_with fail
  refine (TO2.out w6 BBw6.out).mono ?_
  rintro e w7 ⟨rfl, r, b⟩
  have ZZw7 : Hid (w6.heap.size ≤ w7.heap.size) := b.size
  have BBw7 : Hid (Below w.heap.size w w7) := BBw6.out.trans (b.mono BBw6.out.size)
  have Rs0_w7 : Hid (w7.ownsRow w3.heap.size 2 1 us0 X0.length (ints X0)) := row_on Rs0_w6.out b
  have Rx0_w7 : Hid (w7.ownsRow w4.heap.size 2 1 (.slice (some ⟨w4.heap.size, 0, none⟩) L0.length L0.length) L0.length (ints L0)) := row_on Rx0_w6.out b
  have Rx1_w7 : Hid (w7.ownsRow w5.heap.size 2 1 (.slice (some ⟨w5.heap.size, 0, none⟩) L1.length L1.length) L1.length (ints L1)) := row_on Rx1_w6.out b
  have Rx2_w7 : Hid (w7.ownsRow w6.heap.size 2 1 (.slice (some ⟨w6.heap.size, 0, none⟩) L2.length L2.length) L2.length (ints L2)) := r
  have LTx2 : Hid (∀ k, (Value.slice (some ⟨w6.heap.size, 0, none⟩) L2.length L2.length).ownBlock = some k → w6.heap.size ≤ k ∧ k < w7.heap.size) := fun k hk => Rx2_w7.out.lt k hk
  clear r b
  clear Rs0_w6 Rx0_w6 Rx1_w6
  go_wp2_with fail
  refine (IU.out w7 _ _ _ _ _ _ Rx0_w7.out Rx1_w7.out Rx2_w7.out).mono ?_
  rintro e w8 ⟨ug0, rfl, rr0, b⟩
  have ZZw8 : Hid (w7.heap.size ≤ w8.heap.size) := b.size
  have BBw8 : Hid (Below w.heap.size w w8) := BBw7.out.trans (b.mono BBw7.out.size)
  have Rs0_w8 : Hid (w8.ownsRow w3.heap.size 2 1 us0 X0.length (ints X0)) := row_on Rs0_w7.out b
  have Rx0_w8 : Hid (w8.ownsRow w4.heap.size 2 1 (.slice (some ⟨w4.heap.size, 0, none⟩) L0.length L0.length) L0.length (ints L0)) := row_on Rx0_w7.out b
  have Rx1_w8 : Hid (w8.ownsRow w5.heap.size 2 1 (.slice (some ⟨w5.heap.size, 0, none⟩) L1.length L1.length) L1.length (ints L1)) := row_on Rx1_w7.out b
  have Rx2_w8 : Hid (w8.ownsRow w6.heap.size 2 1 (.slice (some ⟨w6.heap.size, 0, none⟩) L2.length L2.length) L2.length (ints L2)) := row_on Rx2_w7.out b
  have Rg0_w8 : Hid (w8.ownsRow w7.heap.size 2 1 ug0 X0.length (ints X0)) := rr0
  have LTg0 : Hid (∀ k, ug0.ownBlock = some k → w7.heap.size ≤ k ∧ k < w8.heap.size) := fun k hk => Rg0_w8.out.lt k hk
  clear rr0
  clear b
  clear Rs0_w7 Rx0_w7 Rx1_w7 Rx2_w7
  go_wp2_with fail
  refine (eq_same _ _ _ _ _ X0 Rg0_w8.out Rs0_w8.out).mono ?_
  rintro e w9 ⟨rfl, mw9, hw⟩
  have ZZw9 : Hid (w9.heap.size = w8.heap.size) := (by show _ = _; rw [hw]; rfl)
  have BBw9 : Hid (Below w.heap.size w w9) := (by show Below _ _ _; rw [hw]; exact below_drewN BBw8.out _)
  have Rs0_w9 : Hid (w9.ownsRow w3.heap.size 2 1 us0 X0.length (ints X0)) := (by show World.ownsRow _ _ _ _ _ _ _; rw [hw]; exact Rs0_w8.out)
  have Rx0_w9 : Hid (w9.ownsRow w4.heap.size 2 1 (.slice (some ⟨w4.heap.size, 0, none⟩) L0.length L0.length) L0.length (ints L0)) := (by show World.ownsRow _ _ _ _ _ _ _; rw [hw]; exact Rx0_w8.out)
  have Rx1_w9 : Hid (w9.ownsRow w5.heap.size 2 1 (.slice (some ⟨w5.heap.size, 0, none⟩) L1.length L1.length) L1.length (ints L1)) := (by show World.ownsRow _ _ _ _ _ _ _; rw [hw]; exact Rx1_w8.out)
  have Rx2_w9 : Hid (w9.ownsRow w6.heap.size 2 1 (.slice (some ⟨w6.heap.size, 0, none⟩) L2.length L2.length) L2.length (ints L2)) := (by show World.ownsRow _ _ _ _ _ _ _; rw [hw]; exact Rx2_w8.out)
  have Rg0_w9 : Hid (w9.ownsRow w7.heap.size 2 1 ug0 X0.length (ints X0)) := (by show World.ownsRow _ _ _ _ _ _ _; rw [hw]; exact Rg0_w8.out)
  clear hw
  clear Rs0_w8 Rx0_w8 Rx1_w8 Rx2_w8 Rg0_w8
  go_wp2_with fail
  refine (TO0.out w9 BBw9.out).mono ?_
  rintro e w10 ⟨rfl, r, b⟩
  have ZZw10 : Hid (w9.heap.size ≤ w10.heap.size) := b.size
  have BBw10 : Hid (Below w.heap.size w w10) := BBw9.out.trans (b.mono BBw9.out.size)
  have Rs0_w10 : Hid (w10.ownsRow w3.heap.size 2 1 us0 X0.length (ints X0)) := row_on Rs0_w9.out b
  have Rx0_w10 : Hid (w10.ownsRow w4.heap.size 2 1 (.slice (some ⟨w4.heap.size, 0, none⟩) L0.length L0.length) L0.length (ints L0)) := row_on Rx0_w9.out b
  have Rx1_w10 : Hid (w10.ownsRow w5.heap.size 2 1 (.slice (some ⟨w5.heap.size, 0, none⟩) L1.length L1.length) L1.length (ints L1)) := row_on Rx1_w9.out b
  have Rx2_w10 : Hid (w10.ownsRow w6.heap.size 2 1 (.slice (some ⟨w6.heap.size, 0, none⟩) L2.length L2.length) L2.length (ints L2)) := row_on Rx2_w9.out b
  have Rg0_w10 : Hid (w10.ownsRow w7.heap.size 2 1 ug0 X0.length (ints X0)) := row_on Rg0_w9.out b
  have Ry0_w10 : Hid (w10.ownsRow w9.heap.size 2 1 (.slice (some ⟨w9.heap.size, 0, none⟩) L0.length L0.length) L0.length (ints L0)) := r
  have LTy0 : Hid (∀ k, (Value.slice (some ⟨w9.heap.size, 0, none⟩) L0.length L0.length).ownBlock = some k → w9.heap.size ≤ k ∧ k < w10.heap.size) := fun k hk => Ry0_w10.out.lt k hk
  clear r b
  clear Rs0_w9 Rx0_w9 Rx1_w9 Rx2_w9 Rg0_w9
  go_wp2_with fail
  refine (eq_same _ _ _ _ _ L0 Rx0_w10.out Ry0_w10.out).mono ?_
  rintro e w11 ⟨rfl, mw11, hw⟩
  have ZZw11 : Hid (w11.heap.size = w10.heap.size) := (by show _ = _; rw [hw]; rfl)
  have BBw11 : Hid (Below w.heap.size w w11) := (by show Below _ _ _; rw [hw]; exact below_drewN BBw10.out _)
  have Rs0_w11 : Hid (w11.ownsRow w3.heap.size 2 1 us0 X0.length (ints X0)) := (by show World.ownsRow _ _ _ _ _ _ _; rw [hw]; exact Rs0_w10.out)
  have Rx0_w11 : Hid (w11.ownsRow w4.heap.size 2 1 (.slice (some ⟨w4.heap.size, 0, none⟩) L0.length L0.length) L0.length (ints L0)) := (by show World.ownsRow _ _ _ _ _ _ _; rw [hw]; exact Rx0_w10.out)
  have Rx1_w11 : Hid (w11.ownsRow w5.heap.size 2 1 (.slice (some ⟨w5.heap.size, 0, none⟩) L1.length L1.length) L1.length (ints L1)) := (by show World.ownsRow _ _ _ _ _ _ _; rw [hw]; exact Rx1_w10.out)
  have Rx2_w11 : Hid (w11.ownsRow w6.heap.size 2 1 (.slice (some ⟨w6.heap.size, 0, none⟩) L2.length L2.length) L2.length (ints L2)) := (by show World.ownsRow _ _ _ _ _ _ _; rw [hw]; exact Rx2_w10.out)
  have Rg0_w11 : Hid (w11.ownsRow w7.heap.size 2 1 ug0 X0.length (ints X0)) := (by show World.ownsRow _ _ _ _ _ _ _; rw [hw]; exact Rg0_w10.out)
  have Ry0_w11 : Hid (w11.ownsRow w9.heap.size 2 1 (.slice (some ⟨w9.heap.size, 0, none⟩) L0.length L0.length) L0.length (ints L0)) := (by show World.ownsRow _ _ _ _ _ _ _; rw [hw]; exact Ry0_w10.out)
  clear hw
  clear Rs0_w10 Rx0_w10 Rx1_w10 Rx2_w10 Rg0_w10 Ry0_w10
  clear Ry0_w11
  go_wp2_with fail
  refine (TO1.out w11 BBw11.out).mono ?_
  rintro e w12 ⟨rfl, r, b⟩
  have ZZw12 : Hid (w11.heap.size ≤ w12.heap.size) := b.size
  have BBw12 : Hid (Below w.heap.size w w12) := BBw11.out.trans (b.mono BBw11.out.size)
  have Rs0_w12 : Hid (w12.ownsRow w3.heap.size 2 1 us0 X0.length (ints X0)) := row_on Rs0_w11.out b
  have Rx0_w12 : Hid (w12.ownsRow w4.heap.size 2 1 (.slice (some ⟨w4.heap.size, 0, none⟩) L0.length L0.length) L0.length (ints L0)) := row_on Rx0_w11.out b
  have Rx1_w12 : Hid (w12.ownsRow w5.heap.size 2 1 (.slice (some ⟨w5.heap.size, 0, none⟩) L1.length L1.length) L1.length (ints L1)) := row_on Rx1_w11.out b
  have Rx2_w12 : Hid (w12.ownsRow w6.heap.size 2 1 (.slice (some ⟨w6.heap.size, 0, none⟩) L2.length L2.length) L2.length (ints L2)) := row_on Rx2_w11.out b
  have Rg0_w12 : Hid (w12.ownsRow w7.heap.size 2 1 ug0 X0.length (ints X0)) := row_on Rg0_w11.out b
  have Ry1_w12 : Hid (w12.ownsRow w11.heap.size 2 1 (.slice (some ⟨w11.heap.size, 0, none⟩) L1.length L1.length) L1.length (ints L1)) := r
  have LTy1 : Hid (∀ k, (Value.slice (some ⟨w11.heap.size, 0, none⟩) L1.length L1.length).ownBlock = some k → w11.heap.size ≤ k ∧ k < w12.heap.size) := fun k hk => Ry1_w12.out.lt k hk
  clear r b
  clear Rs0_w11 Rx0_w11 Rx1_w11 Rx2_w11 Rg0_w11
  go_wp2_with fail
  refine (eq_same _ _ _ _ _ L1 Rx1_w12.out Ry1_w12.out).mono ?_
  rintro e w13 ⟨rfl, mw13, hw⟩
  have ZZw13 : Hid (w13.heap.size = w12.heap.size) := (by show _ = _; rw [hw]; rfl)
  have BBw13 : Hid (Below w.heap.size w w13) := (by show Below _ _ _; rw [hw]; exact below_drewN BBw12.out _)
  have Rs0_w13 : Hid (w13.ownsRow w3.heap.size 2 1 us0 X0.length (ints X0)) := (by show World.ownsRow _ _ _ _ _ _ _; rw [hw]; exact Rs0_w12.out)
  have Rx0_w13 : Hid (w13.ownsRow w4.heap.size 2 1 (.slice (some ⟨w4.heap.size, 0, none⟩) L0.length L0.length) L0.length (ints L0)) := (by show World.ownsRow _ _ _ _ _ _ _; rw [hw]; exact Rx0_w12.out)
  have Rx1_w13 : Hid (w13.ownsRow w5.heap.size 2 1 (.slice (some ⟨w5.heap.size, 0, none⟩) L1.length L1.length) L1.length (ints L1)) := (by show World.ownsRow _ _ _ _ _ _ _; rw [hw]; exact Rx1_w12.out)
  have Rx2_w13 : Hid (w13.ownsRow w6.heap.size 2 1 (.slice (some ⟨w6.heap.size, 0, none⟩) L2.length L2.length) L2.length (ints L2)) := (by show World.ownsRow _ _ _ _ _ _ _; rw [hw]; exact Rx2_w12.out)
  have Rg0_w13 : Hid (w13.ownsRow w7.heap.size 2 1 ug0 X0.length (ints X0)) := (by show World.ownsRow _ _ _ _ _ _ _; rw [hw]; exact Rg0_w12.out)
  have Ry1_w13 : Hid (w13.ownsRow w11.heap.size 2 1 (.slice (some ⟨w11.heap.size, 0, none⟩) L1.length L1.length) L1.length (ints L1)) := (by show World.ownsRow _ _ _ _ _ _ _; rw [hw]; exact Ry1_w12.out)
  clear hw
  clear Rs0_w12 Rx0_w12 Rx1_w12 Rx2_w12 Rg0_w12 Ry1_w12
  clear Ry1_w13
  go_wp2_with fail
  refine (TO2.out w13 BBw13.out).mono ?_
  rintro e w14 ⟨rfl, r, b⟩
  have ZZw14 : Hid (w13.heap.size ≤ w14.heap.size) := b.size
  have BBw14 : Hid (Below w.heap.size w w14) := BBw13.out.trans (b.mono BBw13.out.size)
  have Rs0_w14 : Hid (w14.ownsRow w3.heap.size 2 1 us0 X0.length (ints X0)) := row_on Rs0_w13.out b
  have Rx0_w14 : Hid (w14.ownsRow w4.heap.size 2 1 (.slice (some ⟨w4.heap.size, 0, none⟩) L0.length L0.length) L0.length (ints L0)) := row_on Rx0_w13.out b
  have Rx1_w14 : Hid (w14.ownsRow w5.heap.size 2 1 (.slice (some ⟨w5.heap.size, 0, none⟩) L1.length L1.length) L1.length (ints L1)) := row_on Rx1_w13.out b
  have Rx2_w14 : Hid (w14.ownsRow w6.heap.size 2 1 (.slice (some ⟨w6.heap.size, 0, none⟩) L2.length L2.length) L2.length (ints L2)) := row_on Rx2_w13.out b
  have Rg0_w14 : Hid (w14.ownsRow w7.heap.size 2 1 ug0 X0.length (ints X0)) := row_on Rg0_w13.out b
  have Ry2_w14 : Hid (w14.ownsRow w13.heap.size 2 1 (.slice (some ⟨w13.heap.size, 0, none⟩) L2.length L2.length) L2.length (ints L2)) := r
  have LTy2 : Hid (∀ k, (Value.slice (some ⟨w13.heap.size, 0, none⟩) L2.length L2.length).ownBlock = some k → w13.heap.size ≤ k ∧ k < w14.heap.size) := fun k hk => Ry2_w14.out.lt k hk
  clear r b
  clear Rs0_w13 Rx0_w13 Rx1_w13 Rx2_w13 Rg0_w13
  go_wp2_with fail
  refine (eq_same _ _ _ _ _ L2 Rx2_w14.out Ry2_w14.out).mono ?_
  rintro e w15 ⟨rfl, mw15, hw⟩
  have ZZw15 : Hid (w15.heap.size = w14.heap.size) := (by show _ = _; rw [hw]; rfl)
  have BBw15 : Hid (Below w.heap.size w w15) := (by show Below _ _ _; rw [hw]; exact below_drewN BBw14.out _)
  have Rs0_w15 : Hid (w15.ownsRow w3.heap.size 2 1 us0 X0.length (ints X0)) := (by show World.ownsRow _ _ _ _ _ _ _; rw [hw]; exact Rs0_w14.out)
  have Rx0_w15 : Hid (w15.ownsRow w4.heap.size 2 1 (.slice (some ⟨w4.heap.size, 0, none⟩) L0.length L0.length) L0.length (ints L0)) := (by show World.ownsRow _ _ _ _ _ _ _; rw [hw]; exact Rx0_w14.out)
  have Rx1_w15 : Hid (w15.ownsRow w5.heap.size 2 1 (.slice (some ⟨w5.heap.size, 0, none⟩) L1.length L1.length) L1.length (ints L1)) := (by show World.ownsRow _ _ _ _ _ _ _; rw [hw]; exact Rx1_w14.out)
  have Rx2_w15 : Hid (w15.ownsRow w6.heap.size 2 1 (.slice (some ⟨w6.heap.size, 0, none⟩) L2.length L2.length) L2.length (ints L2)) := (by show World.ownsRow _ _ _ _ _ _ _; rw [hw]; exact Rx2_w14.out)
  have Rg0_w15 : Hid (w15.ownsRow w7.heap.size 2 1 ug0 X0.length (ints X0)) := (by show World.ownsRow _ _ _ _ _ _ _; rw [hw]; exact Rg0_w14.out)
  have Ry2_w15 : Hid (w15.ownsRow w13.heap.size 2 1 (.slice (some ⟨w13.heap.size, 0, none⟩) L2.length L2.length) L2.length (ints L2)) := (by show World.ownsRow _ _ _ _ _ _ _; rw [hw]; exact Ry2_w14.out)
  clear hw
  clear Rs0_w14 Rx0_w14 Rx1_w14 Rx2_w14 Rg0_w14 Ry2_w14
  clear Ry2_w15
  go_wp2_with fail
  refine (mark_any w15 _ _ L0 (1) (by have q0 := ZZwa.out; have q1 := ZZw1.out; have q2 := ZZw2.out; have q3 := ZZw3.out; have q4 := ZZw4.out; have q5 := ZZw5.out; have q6 := ZZw6.out; have q7 := ZZw7.out; have q8 := ZZw8.out; have q9 := ZZw9.out; have q10 := ZZw10.out; have q11 := ZZw11.out; have q12 := ZZw12.out; have q13 := ZZw13.out; have q14 := ZZw14.out; have q15 := ZZw15.out; have q16 := HL0.out; have q17 := HL1.out; have q18 := HL2.out; have q19 := HX0.out; omega) (by have q0 := ZZwa.out; have q1 := ZZw1.out; have q2 := ZZw2.out; have q3 := ZZw3.out; have q4 := ZZw4.out; have q5 := ZZw5.out; have q6 := ZZw6.out; have q7 := ZZw7.out; have q8 := ZZw8.out; have q9 := ZZw9.out; have q10 := ZZw10.out; have q11 := ZZw11.out; have q12 := ZZw12.out; have q13 := ZZw13.out; have q14 := ZZw14.out; have q15 := ZZw15.out; have q16 := HL0.out; have q17 := HL1.out; have q18 := HL2.out; have q19 := HX0.out; omega) (by have q0 := ZZwa.out; have q1 := ZZw1.out; have q2 := ZZw2.out; have q3 := ZZw3.out; have q4 := ZZw4.out; have q5 := ZZw5.out; have q6 := ZZw6.out; have q7 := ZZw7.out; have q8 := ZZw8.out; have q9 := ZZw9.out; have q10 := ZZw10.out; have q11 := ZZw11.out; have q12 := ZZw12.out; have q13 := ZZw13.out; have q14 := ZZw14.out; have q15 := ZZw15.out; have q16 := HL0.out; have q17 := HL1.out; have q18 := HL2.out; have q19 := HX0.out; omega) Rx0_w15.out).mono ?_
  rintro e w16 ⟨rfl, r, g⟩
  have ZZw16 : Hid (w15.heap.size ≤ w16.heap.size) := g.size
  have BBw16 : Hid (Below w.heap.size w w16) := BBw15.out.grown g BBw15.out.size (fun k hk => by have q0 := ZZwa.out; have q1 := ZZw1.out; have q2 := ZZw2.out; have q3 := ZZw3.out; have q4 := ZZw4.out; have q5 := ZZw5.out; have q6 := ZZw6.out; have q7 := ZZw7.out; have q8 := ZZw8.out; have q9 := ZZw9.out; have q10 := ZZw10.out; have q11 := ZZw11.out; have q12 := ZZw12.out; have q13 := ZZw13.out; have q14 := ZZw14.out; have q15 := ZZw15.out; have q16 := HL0.out; have q17 := HL1.out; have q18 := HL2.out; have q19 := HX0.out; have := LTx0.out k hk; omega)
  have Rs0_w16 : Hid (w16.ownsRow w3.heap.size 2 1 us0 X0.length (ints X0)) := row_off Rs0_w15.out g (fun k j hk hj => by have q0 := ZZwa.out; have q1 := ZZw1.out; have q2 := ZZw2.out; have q3 := ZZw3.out; have q4 := ZZw4.out; have q5 := ZZw5.out; have q6 := ZZw6.out; have q7 := ZZw7.out; have q8 := ZZw8.out; have q9 := ZZw9.out; have q10 := ZZw10.out; have q11 := ZZw11.out; have q12 := ZZw12.out; have q13 := ZZw13.out; have q14 := ZZw14.out; have q15 := ZZw15.out; have q16 := HL0.out; have q17 := HL1.out; have q18 := HL2.out; have q19 := HX0.out; have := LTs0.out k hk; have := LTx0.out j hj; omega)
  have Rx1_w16 : Hid (w16.ownsRow w5.heap.size 2 1 (.slice (some ⟨w5.heap.size, 0, none⟩) L1.length L1.length) L1.length (ints L1)) := row_off Rx1_w15.out g (fun k j hk hj => by have q0 := ZZwa.out; have q1 := ZZw1.out; have q2 := ZZw2.out; have q3 := ZZw3.out; have q4 := ZZw4.out; have q5 := ZZw5.out; have q6 := ZZw6.out; have q7 := ZZw7.out; have q8 := ZZw8.out; have q9 := ZZw9.out; have q10 := ZZw10.out; have q11 := ZZw11.out; have q12 := ZZw12.out; have q13 := ZZw13.out; have q14 := ZZw14.out; have q15 := ZZw15.out; have q16 := HL0.out; have q17 := HL1.out; have q18 := HL2.out; have q19 := HX0.out; have := LTx1.out k hk; have := LTx0.out j hj; omega)
  have Rx2_w16 : Hid (w16.ownsRow w6.heap.size 2 1 (.slice (some ⟨w6.heap.size, 0, none⟩) L2.length L2.length) L2.length (ints L2)) := row_off Rx2_w15.out g (fun k j hk hj => by have q0 := ZZwa.out; have q1 := ZZw1.out; have q2 := ZZw2.out; have q3 := ZZw3.out; have q4 := ZZw4.out; have q5 := ZZw5.out; have q6 := ZZw6.out; have q7 := ZZw7.out; have q8 := ZZw8.out; have q9 := ZZw9.out; have q10 := ZZw10.out; have q11 := ZZw11.out; have q12 := ZZw12.out; have q13 := ZZw13.out; have q14 := ZZw14.out; have q15 := ZZw15.out; have q16 := HL0.out; have q17 := HL1.out; have q18 := HL2.out; have q19 := HX0.out; have := LTx2.out k hk; have := LTx0.out j hj; omega)
  have Rg0_w16 : Hid (w16.ownsRow w7.heap.size 2 1 ug0 X0.length (ints X0)) := row_off Rg0_w15.out g (fun k j hk hj => by have q0 := ZZwa.out; have q1 := ZZw1.out; have q2 := ZZw2.out; have q3 := ZZw3.out; have q4 := ZZw4.out; have q5 := ZZw5.out; have q6 := ZZw6.out; have q7 := ZZw7.out; have q8 := ZZw8.out; have q9 := ZZw9.out; have q10 := ZZw10.out; have q11 := ZZw11.out; have q12 := ZZw12.out; have q13 := ZZw13.out; have q14 := ZZw14.out; have q15 := ZZw15.out; have q16 := HL0.out; have q17 := HL1.out; have q18 := HL2.out; have q19 := HX0.out; have := LTg0.out k hk; have := LTx0.out j hj; omega)
  have Rx0_w16 : Hid (w16.ownsRow w4.heap.size 2 1 (.slice (some ⟨w4.heap.size, 0, none⟩) L0.length L0.length) L0.length (ints (sq (1) L0.length))) := r
  clear r g
  clear Rs0_w15 Rx0_w15 Rx1_w15 Rx2_w15 Rg0_w15
  go_wp2_with fail
  refine (mark_any w16 _ _ L1 (1 + (L0.length : Int)) (by have q0 := ZZwa.out; have q1 := ZZw1.out; have q2 := ZZw2.out; have q3 := ZZw3.out; have q4 := ZZw4.out; have q5 := ZZw5.out; have q6 := ZZw6.out; have q7 := ZZw7.out; have q8 := ZZw8.out; have q9 := ZZw9.out; have q10 := ZZw10.out; have q11 := ZZw11.out; have q12 := ZZw12.out; have q13 := ZZw13.out; have q14 := ZZw14.out; have q15 := ZZw15.out; have q16 := ZZw16.out; have q17 := HL0.out; have q18 := HL1.out; have q19 := HL2.out; have q20 := HX0.out; omega) (by have q0 := ZZwa.out; have q1 := ZZw1.out; have q2 := ZZw2.out; have q3 := ZZw3.out; have q4 := ZZw4.out; have q5 := ZZw5.out; have q6 := ZZw6.out; have q7 := ZZw7.out; have q8 := ZZw8.out; have q9 := ZZw9.out; have q10 := ZZw10.out; have q11 := ZZw11.out; have q12 := ZZw12.out; have q13 := ZZw13.out; have q14 := ZZw14.out; have q15 := ZZw15.out; have q16 := ZZw16.out; have q17 := HL0.out; have q18 := HL1.out; have q19 := HL2.out; have q20 := HX0.out; omega) (by have q0 := ZZwa.out; have q1 := ZZw1.out; have q2 := ZZw2.out; have q3 := ZZw3.out; have q4 := ZZw4.out; have q5 := ZZw5.out; have q6 := ZZw6.out; have q7 := ZZw7.out; have q8 := ZZw8.out; have q9 := ZZw9.out; have q10 := ZZw10.out; have q11 := ZZw11.out; have q12 := ZZw12.out; have q13 := ZZw13.out; have q14 := ZZw14.out; have q15 := ZZw15.out; have q16 := ZZw16.out; have q17 := HL0.out; have q18 := HL1.out; have q19 := HL2.out; have q20 := HX0.out; omega) Rx1_w16.out).mono ?_
  rintro e w17 ⟨rfl, r, g⟩
  have ZZw17 : Hid (w16.heap.size ≤ w17.heap.size) := g.size
  have BBw17 : Hid (Below w.heap.size w w17) := BBw16.out.grown g BBw16.out.size (fun k hk => by have q0 := ZZwa.out; have q1 := ZZw1.out; have q2 := ZZw2.out; have q3 := ZZw3.out; have q4 := ZZw4.out; have q5 := ZZw5.out; have q6 := ZZw6.out; have q7 := ZZw7.out; have q8 := ZZw8.out; have q9 := ZZw9.out; have q10 := ZZw10.out; have q11 := ZZw11.out; have q12 := ZZw12.out; have q13 := ZZw13.out; have q14 := ZZw14.out; have q15 := ZZw15.out; have q16 := ZZw16.out; have q17 := HL0.out; have q18 := HL1.out; have q19 := HL2.out; have q20 := HX0.out; have := LTx1.out k hk; omega)
  have Rs0_w17 : Hid (w17.ownsRow w3.heap.size 2 1 us0 X0.length (ints X0)) := row_off Rs0_w16.out g (fun k j hk hj => by have q0 := ZZwa.out; have q1 := ZZw1.out; have q2 := ZZw2.out; have q3 := ZZw3.out; have q4 := ZZw4.out; have q5 := ZZw5.out; have q6 := ZZw6.out; have q7 := ZZw7.out; have q8 := ZZw8.out; have q9 := ZZw9.out; have q10 := ZZw10.out; have q11 := ZZw11.out; have q12 := ZZw12.out; have q13 := ZZw13.out; have q14 := ZZw14.out; have q15 := ZZw15.out; have q16 := ZZw16.out; have q17 := HL0.out; have q18 := HL1.out; have q19 := HL2.out; have q20 := HX0.out; have := LTs0.out k hk; have := LTx1.out j hj; omega)
  have Rx0_w17 : Hid (w17.ownsRow w4.heap.size 2 1 (.slice (some ⟨w4.heap.size, 0, none⟩) L0.length L0.length) L0.length (ints (sq (1) L0.length))) := row_off Rx0_w16.out g (fun k j hk hj => by have q0 := ZZwa.out; have q1 := ZZw1.out; have q2 := ZZw2.out; have q3 := ZZw3.out; have q4 := ZZw4.out; have q5 := ZZw5.out; have q6 := ZZw6.out; have q7 := ZZw7.out; have q8 := ZZw8.out; have q9 := ZZw9.out; have q10 := ZZw10.out; have q11 := ZZw11.out; have q12 := ZZw12.out; have q13 := ZZw13.out; have q14 := ZZw14.out; have q15 := ZZw15.out; have q16 := ZZw16.out; have q17 := HL0.out; have q18 := HL1.out; have q19 := HL2.out; have q20 := HX0.out; have := LTx0.out k hk; have := LTx1.out j hj; omega)
  have Rx2_w17 : Hid (w17.ownsRow w6.heap.size 2 1 (.slice (some ⟨w6.heap.size, 0, none⟩) L2.length L2.length) L2.length (ints L2)) := row_off Rx2_w16.out g (fun k j hk hj => by have q0 := ZZwa.out; have q1 := ZZw1.out; have q2 := ZZw2.out; have q3 := ZZw3.out; have q4 := ZZw4.out; have q5 := ZZw5.out; have q6 := ZZw6.out; have q7 := ZZw7.out; have q8 := ZZw8.out; have q9 := ZZw9.out; have q10 := ZZw10.out; have q11 := ZZw11.out; have q12 := ZZw12.out; have q13 := ZZw13.out; have q14 := ZZw14.out; have q15 := ZZw15.out; have q16 := ZZw16.out; have q17 := HL0.out; have q18 := HL1.out; have q19 := HL2.out; have q20 := HX0.out; have := LTx2.out k hk; have := LTx1.out j hj; omega)
  have Rg0_w17 : Hid (w17.ownsRow w7.heap.size 2 1 ug0 X0.length (ints X0)) := row_off Rg0_w16.out g (fun k j hk hj => by have q0 := ZZwa.out; have q1 := ZZw1.out; have q2 := ZZw2.out; have q3 := ZZw3.out; have q4 := ZZw4.out; have q5 := ZZw5.out; have q6 := ZZw6.out; have q7 := ZZw7.out; have q8 := ZZw8.out; have q9 := ZZw9.out; have q10 := ZZw10.out; have q11 := ZZw11.out; have q12 := ZZw12.out; have q13 := ZZw13.out; have q14 := ZZw14.out; have q15 := ZZw15.out; have q16 := ZZw16.out; have q17 := HL0.out; have q18 := HL1.out; have q19 := HL2.out; have q20 := HX0.out; have := LTg0.out k hk; have := LTx1.out j hj; omega)
  have Rx1_w17 : Hid (w17.ownsRow w5.heap.size 2 1 (.slice (some ⟨w5.heap.size, 0, none⟩) L1.length L1.length) L1.length (ints (sq (1 + (L0.length : Int)) L1.length))) := r
  clear r g
  clear Rs0_w16 Rx0_w16 Rx1_w16 Rx2_w16 Rg0_w16
  go_wp2_with fail
  refine (mark_any w17 _ _ L2 (1 + (L0.length : Int) + (L1.length : Int)) (by have q0 := ZZwa.out; have q1 := ZZw1.out; have q2 := ZZw2.out; have q3 := ZZw3.out; have q4 := ZZw4.out; have q5 := ZZw5.out; have q6 := ZZw6.out; have q7 := ZZw7.out; have q8 := ZZw8.out; have q9 := ZZw9.out; have q10 := ZZw10.out; have q11 := ZZw11.out; have q12 := ZZw12.out; have q13 := ZZw13.out; have q14 := ZZw14.out; have q15 := ZZw15.out; have q16 := ZZw16.out; have q17 := ZZw17.out; have q18 := HL0.out; have q19 := HL1.out; have q20 := HL2.out; have q21 := HX0.out; omega) (by have q0 := ZZwa.out; have q1 := ZZw1.out; have q2 := ZZw2.out; have q3 := ZZw3.out; have q4 := ZZw4.out; have q5 := ZZw5.out; have q6 := ZZw6.out; have q7 := ZZw7.out; have q8 := ZZw8.out; have q9 := ZZw9.out; have q10 := ZZw10.out; have q11 := ZZw11.out; have q12 := ZZw12.out; have q13 := ZZw13.out; have q14 := ZZw14.out; have q15 := ZZw15.out; have q16 := ZZw16.out; have q17 := ZZw17.out; have q18 := HL0.out; have q19 := HL1.out; have q20 := HL2.out; have q21 := HX0.out; omega) (by have q0 := ZZwa.out; have q1 := ZZw1.out; have q2 := ZZw2.out; have q3 := ZZw3.out; have q4 := ZZw4.out; have q5 := ZZw5.out; have q6 := ZZw6.out; have q7 := ZZw7.out; have q8 := ZZw8.out; have q9 := ZZw9.out; have q10 := ZZw10.out; have q11 := ZZw11.out; have q12 := ZZw12.out; have q13 := ZZw13.out; have q14 := ZZw14.out; have q15 := ZZw15.out; have q16 := ZZw16.out; have q17 := ZZw17.out; have q18 := HL0.out; have q19 := HL1.out; have q20 := HL2.out; have q21 := HX0.out; omega) Rx2_w17.out).mono ?_
  rintro e w18 ⟨rfl, r, g⟩
  have ZZw18 : Hid (w17.heap.size ≤ w18.heap.size) := g.size
  have BBw18 : Hid (Below w.heap.size w w18) := BBw17.out.grown g BBw17.out.size (fun k hk => by have q0 := ZZwa.out; have q1 := ZZw1.out; have q2 := ZZw2.out; have q3 := ZZw3.out; have q4 := ZZw4.out; have q5 := ZZw5.out; have q6 := ZZw6.out; have q7 := ZZw7.out; have q8 := ZZw8.out; have q9 := ZZw9.out; have q10 := ZZw10.out; have q11 := ZZw11.out; have q12 := ZZw12.out; have q13 := ZZw13.out; have q14 := ZZw14.out; have q15 := ZZw15.out; have q16 := ZZw16.out; have q17 := ZZw17.out; have q18 := HL0.out; have q19 := HL1.out; have q20 := HL2.out; have q21 := HX0.out; have := LTx2.out k hk; omega)
  have Rs0_w18 : Hid (w18.ownsRow w3.heap.size 2 1 us0 X0.length (ints X0)) := row_off Rs0_w17.out g (fun k j hk hj => by have q0 := ZZwa.out; have q1 := ZZw1.out; have q2 := ZZw2.out; have q3 := ZZw3.out; have q4 := ZZw4.out; have q5 := ZZw5.out; have q6 := ZZw6.out; have q7 := ZZw7.out; have q8 := ZZw8.out; have q9 := ZZw9.out; have q10 := ZZw10.out; have q11 := ZZw11.out; have q12 := ZZw12.out; have q13 := ZZw13.out; have q14 := ZZw14.out; have q15 := ZZw15.out; have q16 := ZZw16.out; have q17 := ZZw17.out; have q18 := HL0.out; have q19 := HL1.out; have q20 := HL2.out; have q21 := HX0.out; have := LTs0.out k hk; have := LTx2.out j hj; omega)
  have Rx0_w18 : Hid (w18.ownsRow w4.heap.size 2 1 (.slice (some ⟨w4.heap.size, 0, none⟩) L0.length L0.length) L0.length (ints (sq (1) L0.length))) := row_off Rx0_w17.out g (fun k j hk hj => by have q0 := ZZwa.out; have q1 := ZZw1.out; have q2 := ZZw2.out; have q3 := ZZw3.out; have q4 := ZZw4.out; have q5 := ZZw5.out; have q6 := ZZw6.out; have q7 := ZZw7.out; have q8 := ZZw8.out; have q9 := ZZw9.out; have q10 := ZZw10.out; have q11 := ZZw11.out; have q12 := ZZw12.out; have q13 := ZZw13.out; have q14 := ZZw14.out; have q15 := ZZw15.out; have q16 := ZZw16.out; have q17 := ZZw17.out; have q18 := HL0.out; have q19 := HL1.out; have q20 := HL2.out; have q21 := HX0.out; have := LTx0.out k hk; have := LTx2.out j hj; omega)
  have Rx1_w18 : Hid (w18.ownsRow w5.heap.size 2 1 (.slice (some ⟨w5.heap.size, 0, none⟩) L1.length L1.length) L1.length (ints (sq (1 + (L0.length : Int)) L1.length))) := row_off Rx1_w17.out g (fun k j hk hj => by have q0 := ZZwa.out; have q1 := ZZw1.out; have q2 := ZZw2.out; have q3 := ZZw3.out; have q4 := ZZw4.out; have q5 := ZZw5.out; have q6 := ZZw6.out; have q7 := ZZw7.out; have q8 := ZZw8.out; have q9 := ZZw9.out; have q10 := ZZw10.out; have q11 := ZZw11.out; have q12 := ZZw12.out; have q13 := ZZw13.out; have q14 := ZZw14.out; have q15 := ZZw15.out; have q16 := ZZw16.out; have q17 := ZZw17.out; have q18 := HL0.out; have q19 := HL1.out; have q20 := HL2.out; have q21 := HX0.out; have := LTx1.out k hk; have := LTx2.out j hj; omega)
  have Rg0_w18 : Hid (w18.ownsRow w7.heap.size 2 1 ug0 X0.length (ints X0)) := row_off Rg0_w17.out g (fun k j hk hj => by have q0 := ZZwa.out; have q1 := ZZw1.out; have q2 := ZZw2.out; have q3 := ZZw3.out; have q4 := ZZw4.out; have q5 := ZZw5.out; have q6 := ZZw6.out; have q7 := ZZw7.out; have q8 := ZZw8.out; have q9 := ZZw9.out; have q10 := ZZw10.out; have q11 := ZZw11.out; have q12 := ZZw12.out; have q13 := ZZw13.out; have q14 := ZZw14.out; have q15 := ZZw15.out; have q16 := ZZw16.out; have q17 := ZZw17.out; have q18 := HL0.out; have q19 := HL1.out; have q20 := HL2.out; have q21 := HX0.out; have := LTg0.out k hk; have := LTx2.out j hj; omega)
  have Rx2_w18 : Hid (w18.ownsRow w6.heap.size 2 1 (.slice (some ⟨w6.heap.size, 0, none⟩) L2.length L2.length) L2.length (ints (sq (1 + (L0.length : Int) + (L1.length : Int)) L2.length))) := r
  clear r g
  clear Rs0_w17 Rx0_w17 Rx1_w17 Rx2_w17 Rg0_w17
  clear Rx0_w18
  clear Rx1_w18
  clear Rx2_w18
  go_wp2_with fail
  refine (eq_same _ _ _ _ _ X0 Rg0_w18.out Rs0_w18.out).mono ?_
  rintro e w19 ⟨rfl, mw19, hw⟩
  have ZZw19 : Hid (w19.heap.size = w18.heap.size) := (by show _ = _; rw [hw]; rfl)
  have BBw19 : Hid (Below w.heap.size w w19) := (by show Below _ _ _; rw [hw]; exact below_drewN BBw18.out _)
  have Rs0_w19 : Hid (w19.ownsRow w3.heap.size 2 1 us0 X0.length (ints X0)) := (by show World.ownsRow _ _ _ _ _ _ _; rw [hw]; exact Rs0_w18.out)
  have Rg0_w19 : Hid (w19.ownsRow w7.heap.size 2 1 ug0 X0.length (ints X0)) := (by show World.ownsRow _ _ _ _ _ _ _; rw [hw]; exact Rg0_w18.out)
  clear hw
  clear Rs0_w18 Rg0_w18
  go_wp2_with fail
  refine (mark_any w19 _ _ X0 (1) (by have q0 := ZZwa.out; have q1 := ZZw1.out; have q2 := ZZw2.out; have q3 := ZZw3.out; have q4 := ZZw4.out; have q5 := ZZw5.out; have q6 := ZZw6.out; have q7 := ZZw7.out; have q8 := ZZw8.out; have q9 := ZZw9.out; have q10 := ZZw10.out; have q11 := ZZw11.out; have q12 := ZZw12.out; have q13 := ZZw13.out; have q14 := ZZw14.out; have q15 := ZZw15.out; have q16 := ZZw16.out; have q17 := ZZw17.out; have q18 := ZZw18.out; have q19 := ZZw19.out; have q20 := HL0.out; have q21 := HL1.out; have q22 := HL2.out; have q23 := HX0.out; omega) (by have q0 := ZZwa.out; have q1 := ZZw1.out; have q2 := ZZw2.out; have q3 := ZZw3.out; have q4 := ZZw4.out; have q5 := ZZw5.out; have q6 := ZZw6.out; have q7 := ZZw7.out; have q8 := ZZw8.out; have q9 := ZZw9.out; have q10 := ZZw10.out; have q11 := ZZw11.out; have q12 := ZZw12.out; have q13 := ZZw13.out; have q14 := ZZw14.out; have q15 := ZZw15.out; have q16 := ZZw16.out; have q17 := ZZw17.out; have q18 := ZZw18.out; have q19 := ZZw19.out; have q20 := HL0.out; have q21 := HL1.out; have q22 := HL2.out; have q23 := HX0.out; omega) (by have q0 := ZZwa.out; have q1 := ZZw1.out; have q2 := ZZw2.out; have q3 := ZZw3.out; have q4 := ZZw4.out; have q5 := ZZw5.out; have q6 := ZZw6.out; have q7 := ZZw7.out; have q8 := ZZw8.out; have q9 := ZZw9.out; have q10 := ZZw10.out; have q11 := ZZw11.out; have q12 := ZZw12.out; have q13 := ZZw13.out; have q14 := ZZw14.out; have q15 := ZZw15.out; have q16 := ZZw16.out; have q17 := ZZw17.out; have q18 := ZZw18.out; have q19 := ZZw19.out; have q20 := HL0.out; have q21 := HL1.out; have q22 := HL2.out; have q23 := HX0.out; omega) Rg0_w19.out).mono ?_
  rintro e w20 ⟨rfl, r, g⟩
  have ZZw20 : Hid (w19.heap.size ≤ w20.heap.size) := g.size
  have BBw20 : Hid (Below w.heap.size w w20) := BBw19.out.grown g BBw19.out.size (fun k hk => by have q0 := ZZwa.out; have q1 := ZZw1.out; have q2 := ZZw2.out; have q3 := ZZw3.out; have q4 := ZZw4.out; have q5 := ZZw5.out; have q6 := ZZw6.out; have q7 := ZZw7.out; have q8 := ZZw8.out; have q9 := ZZw9.out; have q10 := ZZw10.out; have q11 := ZZw11.out; have q12 := ZZw12.out; have q13 := ZZw13.out; have q14 := ZZw14.out; have q15 := ZZw15.out; have q16 := ZZw16.out; have q17 := ZZw17.out; have q18 := ZZw18.out; have q19 := ZZw19.out; have q20 := HL0.out; have q21 := HL1.out; have q22 := HL2.out; have q23 := HX0.out; have := LTg0.out k hk; omega)
  have Rs0_w20 : Hid (w20.ownsRow w3.heap.size 2 1 us0 X0.length (ints X0)) := row_off Rs0_w19.out g (fun k j hk hj => by have q0 := ZZwa.out; have q1 := ZZw1.out; have q2 := ZZw2.out; have q3 := ZZw3.out; have q4 := ZZw4.out; have q5 := ZZw5.out; have q6 := ZZw6.out; have q7 := ZZw7.out; have q8 := ZZw8.out; have q9 := ZZw9.out; have q10 := ZZw10.out; have q11 := ZZw11.out; have q12 := ZZw12.out; have q13 := ZZw13.out; have q14 := ZZw14.out; have q15 := ZZw15.out; have q16 := ZZw16.out; have q17 := ZZw17.out; have q18 := ZZw18.out; have q19 := ZZw19.out; have q20 := HL0.out; have q21 := HL1.out; have q22 := HL2.out; have q23 := HX0.out; have := LTs0.out k hk; have := LTg0.out j hj; omega)
  have Rg0_w20 : Hid (w20.ownsRow w7.heap.size 2 1 ug0 X0.length (ints (sq (1) X0.length))) := r
  clear r g
  clear Rs0_w19 Rg0_w19
  go_wp2_with fail
  refine (held_any w20 _ X0.length (1) (by have q0 := ZZwa.out; have q1 := ZZw1.out; have q2 := ZZw2.out; have q3 := ZZw3.out; have q4 := ZZw4.out; have q5 := ZZw5.out; have q6 := ZZw6.out; have q7 := ZZw7.out; have q8 := ZZw8.out; have q9 := ZZw9.out; have q10 := ZZw10.out; have q11 := ZZw11.out; have q12 := ZZw12.out; have q13 := ZZw13.out; have q14 := ZZw14.out; have q15 := ZZw15.out; have q16 := ZZw16.out; have q17 := ZZw17.out; have q18 := ZZw18.out; have q19 := ZZw19.out; have q20 := ZZw20.out; have q21 := HL0.out; have q22 := HL1.out; have q23 := HL2.out; have q24 := HX0.out; omega) (by have q0 := ZZwa.out; have q1 := ZZw1.out; have q2 := ZZw2.out; have q3 := ZZw3.out; have q4 := ZZw4.out; have q5 := ZZw5.out; have q6 := ZZw6.out; have q7 := ZZw7.out; have q8 := ZZw8.out; have q9 := ZZw9.out; have q10 := ZZw10.out; have q11 := ZZw11.out; have q12 := ZZw12.out; have q13 := ZZw13.out; have q14 := ZZw14.out; have q15 := ZZw15.out; have q16 := ZZw16.out; have q17 := ZZw17.out; have q18 := ZZw18.out; have q19 := ZZw19.out; have q20 := ZZw20.out; have q21 := HL0.out; have q22 := HL1.out; have q23 := HL2.out; have q24 := HX0.out; omega) (by have := HX0.out; omega) (Lists.reads_row (L := sq (1) X0.length) (by rw [sq_len]; exact Rg0_w20.out))).mono ?_
  rintro e w21 ⟨rfl, mw21, hw⟩
  have ZZw21 : Hid (w21.heap.size = w20.heap.size) := (by show _ = _; rw [hw]; rfl)
  have BBw21 : Hid (Below w.heap.size w w21) := (by show Below _ _ _; rw [hw]; exact below_drewN BBw20.out _)
  have Rs0_w21 : Hid (w21.ownsRow w3.heap.size 2 1 us0 X0.length (ints X0)) := (by show World.ownsRow _ _ _ _ _ _ _; rw [hw]; exact Rs0_w20.out)
  have Rg0_w21 : Hid (w21.ownsRow w7.heap.size 2 1 ug0 X0.length (ints (sq (1) X0.length))) := (by show World.ownsRow _ _ _ _ _ _ _; rw [hw]; exact Rg0_w20.out)
  clear hw
  clear Rs0_w20 Rg0_w20
  go_wp2_with fail
  refine (TO0.out w21 BBw21.out).mono ?_
  rintro e w22 ⟨rfl, r, b⟩
  have ZZw22 : Hid (w21.heap.size ≤ w22.heap.size) := b.size
  have BBw22 : Hid (Below w.heap.size w w22) := BBw21.out.trans (b.mono BBw21.out.size)
  have Rs0_w22 : Hid (w22.ownsRow w3.heap.size 2 1 us0 X0.length (ints X0)) := row_on Rs0_w21.out b
  have Rg0_w22 : Hid (w22.ownsRow w7.heap.size 2 1 ug0 X0.length (ints (sq (1) X0.length))) := row_on Rg0_w21.out b
  have Rq0_w22 : Hid (w22.ownsRow w21.heap.size 2 1 (.slice (some ⟨w21.heap.size, 0, none⟩) L0.length L0.length) L0.length (ints L0)) := r
  have LTq0 : Hid (∀ k, (Value.slice (some ⟨w21.heap.size, 0, none⟩) L0.length L0.length).ownBlock = some k → w21.heap.size ≤ k ∧ k < w22.heap.size) := fun k hk => Rq0_w22.out.lt k hk
  clear r b
  clear Rs0_w21 Rg0_w21
  go_wp2_with fail
  refine (TO1.out w22 BBw22.out).mono ?_
  rintro e w23 ⟨rfl, r, b⟩
  have ZZw23 : Hid (w22.heap.size ≤ w23.heap.size) := b.size
  have BBw23 : Hid (Below w.heap.size w w23) := BBw22.out.trans (b.mono BBw22.out.size)
  have Rs0_w23 : Hid (w23.ownsRow w3.heap.size 2 1 us0 X0.length (ints X0)) := row_on Rs0_w22.out b
  have Rg0_w23 : Hid (w23.ownsRow w7.heap.size 2 1 ug0 X0.length (ints (sq (1) X0.length))) := row_on Rg0_w22.out b
  have Rq0_w23 : Hid (w23.ownsRow w21.heap.size 2 1 (.slice (some ⟨w21.heap.size, 0, none⟩) L0.length L0.length) L0.length (ints L0)) := row_on Rq0_w22.out b
  have Rq1_w23 : Hid (w23.ownsRow w22.heap.size 2 1 (.slice (some ⟨w22.heap.size, 0, none⟩) L1.length L1.length) L1.length (ints L1)) := r
  have LTq1 : Hid (∀ k, (Value.slice (some ⟨w22.heap.size, 0, none⟩) L1.length L1.length).ownBlock = some k → w22.heap.size ≤ k ∧ k < w23.heap.size) := fun k hk => Rq1_w23.out.lt k hk
  clear r b
  clear Rs0_w22 Rg0_w22 Rq0_w22
  go_wp2_with fail
  refine (TO2.out w23 BBw23.out).mono ?_
  rintro e w24 ⟨rfl, r, b⟩
  have ZZw24 : Hid (w23.heap.size ≤ w24.heap.size) := b.size
  have BBw24 : Hid (Below w.heap.size w w24) := BBw23.out.trans (b.mono BBw23.out.size)
  have Rs0_w24 : Hid (w24.ownsRow w3.heap.size 2 1 us0 X0.length (ints X0)) := row_on Rs0_w23.out b
  have Rg0_w24 : Hid (w24.ownsRow w7.heap.size 2 1 ug0 X0.length (ints (sq (1) X0.length))) := row_on Rg0_w23.out b
  have Rq0_w24 : Hid (w24.ownsRow w21.heap.size 2 1 (.slice (some ⟨w21.heap.size, 0, none⟩) L0.length L0.length) L0.length (ints L0)) := row_on Rq0_w23.out b
  have Rq1_w24 : Hid (w24.ownsRow w22.heap.size 2 1 (.slice (some ⟨w22.heap.size, 0, none⟩) L1.length L1.length) L1.length (ints L1)) := row_on Rq1_w23.out b
  have Rq2_w24 : Hid (w24.ownsRow w23.heap.size 2 1 (.slice (some ⟨w23.heap.size, 0, none⟩) L2.length L2.length) L2.length (ints L2)) := r
  have LTq2 : Hid (∀ k, (Value.slice (some ⟨w23.heap.size, 0, none⟩) L2.length L2.length).ownBlock = some k → w23.heap.size ≤ k ∧ k < w24.heap.size) := fun k hk => Rq2_w24.out.lt k hk
  clear r b
  clear Rs0_w23 Rg0_w23 Rq0_w23 Rq1_w23
  go_wp2_with fail
  refine (IU.out w24 _ _ _ _ _ _ Rq0_w24.out Rq1_w24.out Rq2_w24.out).mono ?_
  rintro e w25 ⟨uh0, rfl, rr0, b⟩
  have ZZw25 : Hid (w24.heap.size ≤ w25.heap.size) := b.size
  have BBw25 : Hid (Below w.heap.size w w25) := BBw24.out.trans (b.mono BBw24.out.size)
  have Rs0_w25 : Hid (w25.ownsRow w3.heap.size 2 1 us0 X0.length (ints X0)) := row_on Rs0_w24.out b
  have Rg0_w25 : Hid (w25.ownsRow w7.heap.size 2 1 ug0 X0.length (ints (sq (1) X0.length))) := row_on Rg0_w24.out b
  have Rq0_w25 : Hid (w25.ownsRow w21.heap.size 2 1 (.slice (some ⟨w21.heap.size, 0, none⟩) L0.length L0.length) L0.length (ints L0)) := row_on Rq0_w24.out b
  have Rq1_w25 : Hid (w25.ownsRow w22.heap.size 2 1 (.slice (some ⟨w22.heap.size, 0, none⟩) L1.length L1.length) L1.length (ints L1)) := row_on Rq1_w24.out b
  have Rq2_w25 : Hid (w25.ownsRow w23.heap.size 2 1 (.slice (some ⟨w23.heap.size, 0, none⟩) L2.length L2.length) L2.length (ints L2)) := row_on Rq2_w24.out b
  have Rh0_w25 : Hid (w25.ownsRow w24.heap.size 2 1 uh0 X0.length (ints X0)) := rr0
  have LTh0 : Hid (∀ k, uh0.ownBlock = some k → w24.heap.size ≤ k ∧ k < w25.heap.size) := fun k hk => Rh0_w25.out.lt k hk
  clear rr0
  clear b
  clear Rs0_w24 Rg0_w24 Rq0_w24 Rq1_w24 Rq2_w24
  clear Rq0_w25
  clear Rq1_w25
  clear Rq2_w25
  go_wp2_with fail
  refine (eq_same _ _ _ _ _ X0 Rh0_w25.out Rs0_w25.out).mono ?_
  rintro e w26 ⟨rfl, mw26, hw⟩
  have ZZw26 : Hid (w26.heap.size = w25.heap.size) := (by show _ = _; rw [hw]; rfl)
  have BBw26 : Hid (Below w.heap.size w w26) := (by show Below _ _ _; rw [hw]; exact below_drewN BBw25.out _)
  have Rs0_w26 : Hid (w26.ownsRow w3.heap.size 2 1 us0 X0.length (ints X0)) := (by show World.ownsRow _ _ _ _ _ _ _; rw [hw]; exact Rs0_w25.out)
  have Rg0_w26 : Hid (w26.ownsRow w7.heap.size 2 1 ug0 X0.length (ints (sq (1) X0.length))) := (by show World.ownsRow _ _ _ _ _ _ _; rw [hw]; exact Rg0_w25.out)
  have Rh0_w26 : Hid (w26.ownsRow w24.heap.size 2 1 uh0 X0.length (ints X0)) := (by show World.ownsRow _ _ _ _ _ _ _; rw [hw]; exact Rh0_w25.out)
  clear hw
  clear Rs0_w25 Rg0_w25 Rh0_w25
  go_wp2_with fail
  refine (held_any w26 _ X0.length (1) (by have q0 := ZZwa.out; have q1 := ZZw1.out; have q2 := ZZw2.out; have q3 := ZZw3.out; have q4 := ZZw4.out; have q5 := ZZw5.out; have q6 := ZZw6.out; have q7 := ZZw7.out; have q8 := ZZw8.out; have q9 := ZZw9.out; have q10 := ZZw10.out; have q11 := ZZw11.out; have q12 := ZZw12.out; have q13 := ZZw13.out; have q14 := ZZw14.out; have q15 := ZZw15.out; have q16 := ZZw16.out; have q17 := ZZw17.out; have q18 := ZZw18.out; have q19 := ZZw19.out; have q20 := ZZw20.out; have q21 := ZZw21.out; have q22 := ZZw22.out; have q23 := ZZw23.out; have q24 := ZZw24.out; have q25 := ZZw25.out; have q26 := ZZw26.out; have q27 := HL0.out; have q28 := HL1.out; have q29 := HL2.out; have q30 := HX0.out; omega) (by have q0 := ZZwa.out; have q1 := ZZw1.out; have q2 := ZZw2.out; have q3 := ZZw3.out; have q4 := ZZw4.out; have q5 := ZZw5.out; have q6 := ZZw6.out; have q7 := ZZw7.out; have q8 := ZZw8.out; have q9 := ZZw9.out; have q10 := ZZw10.out; have q11 := ZZw11.out; have q12 := ZZw12.out; have q13 := ZZw13.out; have q14 := ZZw14.out; have q15 := ZZw15.out; have q16 := ZZw16.out; have q17 := ZZw17.out; have q18 := ZZw18.out; have q19 := ZZw19.out; have q20 := ZZw20.out; have q21 := ZZw21.out; have q22 := ZZw22.out; have q23 := ZZw23.out; have q24 := ZZw24.out; have q25 := ZZw25.out; have q26 := ZZw26.out; have q27 := HL0.out; have q28 := HL1.out; have q29 := HL2.out; have q30 := HX0.out; omega) (by have := HX0.out; omega) (Lists.reads_row (L := sq (1) X0.length) (by rw [sq_len]; exact Rg0_w26.out))).mono ?_
  rintro e w27 ⟨rfl, mw27, hw⟩
  have ZZw27 : Hid (w27.heap.size = w26.heap.size) := (by show _ = _; rw [hw]; rfl)
  have BBw27 : Hid (Below w.heap.size w w27) := (by show Below _ _ _; rw [hw]; exact below_drewN BBw26.out _)
  have Rs0_w27 : Hid (w27.ownsRow w3.heap.size 2 1 us0 X0.length (ints X0)) := (by show World.ownsRow _ _ _ _ _ _ _; rw [hw]; exact Rs0_w26.out)
  have Rg0_w27 : Hid (w27.ownsRow w7.heap.size 2 1 ug0 X0.length (ints (sq (1) X0.length))) := (by show World.ownsRow _ _ _ _ _ _ _; rw [hw]; exact Rg0_w26.out)
  have Rh0_w27 : Hid (w27.ownsRow w24.heap.size 2 1 uh0 X0.length (ints X0)) := (by show World.ownsRow _ _ _ _ _ _ _; rw [hw]; exact Rh0_w26.out)
  clear hw
  clear Rs0_w26 Rg0_w26 Rh0_w26
  go_wp2_with fail
  go_ret
  exact ⟨rfl, BBw27.out⟩
end Go.Proofs.Ytgnapoklkicfmaa.LawLvL
