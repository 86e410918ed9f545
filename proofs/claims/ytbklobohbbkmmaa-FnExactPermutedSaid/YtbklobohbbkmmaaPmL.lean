/- The law walked; what model and program answer comes in as hypotheses. -/
import Derived.Test.YtbklobohbbkmmaaXoA
import Derived.Test.YtbklobohbbkmmaaAlA
namespace Go.Proofs.Ytbklobohbbkmmaa.LawPmL
open Go.ChangeShapes Go.WideShapes Go.ChangeAt Go.RowKit
open Go.Proofs.Ytbklobohbbkmmaa.Lists

theorem below_drewN {B : Nat} {a w : World} (h : Below B a w) (n : Nat) : Below B a (w.drewN n) := h.trans ⟨rfl, rfl, rfl, Nat.le_refl _, fun _ _ => rfl⟩
theorem row_on {w w' : World} {base n : Nat} {v : Value} {xs : List Value} (h : w.ownsRow base 2 1 v n xs) (hb : Below w.heap.size w w') : w'.ownsRow base 2 1 v n xs := by
  refine h.kept (row := none) ⟨hb.os, hb.tape, hb.output, hb.size, fun k hk _ => hb.block k hk⟩ ?_
  by_cases e : v.ownBlock = none
  · exact Or.inl e
  · exact Or.inr e
theorem row_off {w w' : World} {base n : Nat} {row : Option Nat} {v : Value} {xs : List Value} (h : w.ownsRow base 2 1 v n xs) (hg : w.grownBy w' row) (hne : ∀ k j, v.ownBlock = some k → row = some j → k ≠ j) : w'.ownsRow base 2 1 v n xs := by
  refine h.kept hg ?_
  cases e : v.ownBlock with
  | none => exact Or.inl rfl
  | some k => exact Or.inr fun x => hne k k e x.symm rfl

set_option maxRecDepth 20000 in
set_option maxHeartbeats 2000000 in
theorem permLaw (w : World) (v0 : Value) (L0 : List Int) (h0 : Lists.Reads w v0 L0) (f0 : L0.length < 9223372036854775808) (v1 : Value) (L1 : List Int) (h1 : Lists.Reads w v1 L1) (f1 : L1.length < 9223372036854775808) (r0 : Int) (r1 : Int)
    (SA : ∀ (w : World) (t0 t1 : Value), Lists.Reads w t0 L0 → Lists.Reads w t1 L1 → Calls Try.prog 4 #[t0, t1] w fun e w' => e = .returned (.tuple #[.int .i64 r0, .int .i64 r1]) ∧ Below w.heap.size w w')
    (IA : ∀ (w : World) (t0 t1 : Value), Lists.Reads w t0 L0 → Lists.Reads w t1 L1 → Calls Try.prog 6 #[t0, t1] w fun e w' => e = .returned (.tuple #[.int .i64 r0, .int .i64 r1]) ∧ Below w.heap.size w w') :
    Calls Try.prog 3 #[v0, v1] w fun e w' => e = .returned (.bool true) ∧ Below w.heap.size w w' := by
  obtain ⟨s0, c0, rfl⟩ := h0.form
  obtain ⟨s1, c1, rfl⟩ := h1.form
  by_cases g0 : 1048576 < L0.length
  · have i1 : (1048576 : Int) < (L0.length : Int) := by omega
    go_enter Try.func3, Try.ntmps3
    go_wp2_with fail
    go_ret
    exact ⟨rfl, Below.refl _ _⟩
  have j0 : ¬ (1048576 : Int) < (L0.length : Int) := by omega
  by_cases g1 : 1048576 < L1.length
  · have i1 : (1048576 : Int) < (L1.length : Int) := by omega
    go_enter Try.func3, Try.ntmps3
    go_wp2_with fail
    go_ret
    exact ⟨rfl, Below.refl _ _⟩
  have j1 : ¬ (1048576 : Int) < (L1.length : Int) := by omega
  have TO0 : Hid (∀ w', Below w.heap.size w w' → Calls Try.prog 5 #[.slice s0 L0.length c0] w' fun e w'' => e = .returned (.slice (some ⟨w'.heap.size, 0, none⟩) L0.length L0.length) ∧ w''.ownsRow w'.heap.size 2 1 (.slice (some ⟨w'.heap.size, 0, none⟩) L0.length L0.length) L0.length (ints L0) ∧ Below w'.heap.size w' w'') := fun w' hb => to_any w' _ L0 (h0.on hb) (by omega)
  have TO1 : Hid (∀ w', Below w.heap.size w w' → Calls Try.prog 5 #[.slice s1 L1.length c1] w' fun e w'' => e = .returned (.slice (some ⟨w'.heap.size, 0, none⟩) L1.length L1.length) ∧ w''.ownsRow w'.heap.size 2 1 (.slice (some ⟨w'.heap.size, 0, none⟩) L1.length L1.length) L1.length (ints L1) ∧ Below w'.heap.size w' w'') := fun w' hb => to_any w' _ L1 (h1.on hb) (by omega)
  have SU : Hid (∀ (w' : World) (B0 B1 : Nat) (t0 t1 : Value), w'.ownsRow B0 2 1 t0 L0.length (ints L0) → w'.ownsRow B1 2 1 t1 L1.length (ints L1) → Calls Try.prog 4 #[t0, t1] w' fun e w'' => e = .returned (.tuple #[.int .i64 r0, .int .i64 r1]) ∧ Below w'.heap.size w' w'') := fun w' B0 B1 t0 t1 o0 o1 => SA w' t0 t1 (Lists.reads_row o0) (Lists.reads_row o1)
  have IU : Hid (∀ (w' : World) (B0 B1 : Nat) (t0 t1 : Value), w'.ownsRow B0 2 1 t0 L0.length (ints L0) → w'.ownsRow B1 2 1 t1 L1.length (ints L1) → Calls Try.prog 6 #[t0, t1] w' fun e w'' => e = .returned (.tuple #[.int .i64 r0, .int .i64 r1]) ∧ Below w'.heap.size w' w'') := fun w' B0 B1 t0 t1 o0 o1 => IA w' t0 t1 (Lists.reads_row o0) (Lists.reads_row o1)
  have hbb : ∀ b : Bool, (b != b) = false := fun b => by cases b <;> rfl
  have hii : ∀ b : Int, (b != b) = false := fun b => by simp
  have HL0 : Hid (L0.length ≤ 1048576) := (by show _ ≤ _; omega)
  have HL1 : Hid (L1.length ≤ 1048576) := (by show _ ≤ _; omega)
  clear SA IA  h0 h1 g0 g1 f0 f1
  have BBwa : Hid (Below w.heap.size w w) := Below.refl _ _
  have ZZwa : Hid (w.heap.size ≤ w.heap.size) := Nat.le_refl w.heap.size
  go_enter Try.func3, Try.ntmps3
  go_wp2_with fail
  refine (TO0.out w BBwa.out).mono ?_
  rintro e w1 ⟨rfl, r, b⟩
  have ZZw1 : Hid (w.heap.size ≤ w1.heap.size) := b.size
  have BBw1 : Hid (Below w.heap.size w w1) := BBwa.out.trans (b.mono BBwa.out.size)
  have Rp0_w1 : Hid (w1.ownsRow w.heap.size 2 1 (.slice (some ⟨w.heap.size, 0, none⟩) L0.length L0.length) L0.length (ints L0)) := r
  have LTp0 : Hid (∀ k, (Value.slice (some ⟨w.heap.size, 0, none⟩) L0.length L0.length).ownBlock = some k → w.heap.size ≤ k ∧ k < w1.heap.size) := fun k hk => Rp0_w1.out.lt k hk
  clear r b
  go_wp2_with fail
  refine (TO1.out w1 BBw1.out).mono ?_
  rintro e w2 ⟨rfl, r, b⟩
  have ZZw2 : Hid (w1.heap.size ≤ w2.heap.size) := b.size
  have BBw2 : Hid (Below w.heap.size w w2) := BBw1.out.trans (b.mono BBw1.out.size)
  have Rp0_w2 : Hid (w2.ownsRow w.heap.size 2 1 (.slice (some ⟨w.heap.size, 0, none⟩) L0.length L0.length) L0.length (ints L0)) := row_on Rp0_w1.out b
  have Rp1_w2 : Hid (w2.ownsRow w1.heap.size 2 1 (.slice (some ⟨w1.heap.size, 0, none⟩) L1.length L1.length) L1.length (ints L1)) := r
  have LTp1 : Hid (∀ k, (Value.slice (some ⟨w1.heap.size, 0, none⟩) L1.length L1.length).ownBlock = some k → w1.heap.size ≤ k ∧ k < w2.heap.size) := fun k hk => Rp1_w2.out.lt k hk
  clear r b
  clear Rp0_w1
  go_wp2_with fail
  refine (SU.out w2 _ _ _ _ Rp0_w2.out Rp1_w2.out).mono ?_
  rintro e w3 ⟨rfl, b⟩
  have ZZw3 : Hid (w2.heap.size ≤ w3.heap.size) := b.size
  have BBw3 : Hid (Below w.heap.size w w3) := BBw2.out.trans (b.mono BBw2.out.size)
  have Rp0_w3 : Hid (w3.ownsRow w.heap.size 2 1 (.slice (some ⟨w.heap.size, 0, none⟩) L0.length L0.length) L0.length (ints L0)) := row_on Rp0_w2.out b
  have Rp1_w3 : Hid (w3.ownsRow w1.heap.size 2 1 (.slice (some ⟨w1.heap.size, 0, none⟩) L1.length L1.length) L1.length (ints L1)) := row_on Rp1_w2.out b
  clear b
  clear Rp0_w2 Rp1_w2
  clear Rp0_w3
  clear Rp1_w3
  go_wp2_with fail
  refine (TO0.out w3 BBw3.out).mono ?_
  rintro e w4 ⟨rfl, r, b⟩
  have ZZw4 : Hid (w3.heap.size ≤ w4.heap.size) := b.size
  have BBw4 : Hid (Below w.heap.size w w4) := BBw3.out.trans (b.mono BBw3.out.size)
  have Rx0_w4 : Hid (w4.ownsRow w3.heap.size 2 1 (.slice (some ⟨w3.heap.size, 0, none⟩) L0.length L0.length) L0.length (ints L0)) := r
  have LTx0 : Hid (∀ k, (Value.slice (some ⟨w3.heap.size, 0, none⟩) L0.length L0.length).ownBlock = some k → w3.heap.size ≤ k ∧ k < w4.heap.size) := fun k hk => Rx0_w4.out.lt k hk
  clear r b
  go_wp2_with fail
  refine (TO1.out w4 BBw4.out).mono ?_
  rintro e w5 ⟨rfl, r, b⟩
  have ZZw5 : Hid (w4.heap.size ≤ w5.heap.size) := b.size
  have BBw5 : Hid (Below w.heap.size w w5) := BBw4.out.trans (b.mono BBw4.out.size)
  have Rx0_w5 : Hid (w5.ownsRow w3.heap.size 2 1 (.slice (some ⟨w3.heap.size, 0, none⟩) L0.length L0.length) L0.length (ints L0)) := row_on Rx0_w4.out b
  have Rx1_w5 : Hid (w5.ownsRow w4.heap.size 2 1 (.slice (some ⟨w4.heap.size, 0, none⟩) L1.length L1.length) L1.length (ints L1)) := r
  have LTx1 : Hid (∀ k, (Value.slice (some ⟨w4.heap.size, 0, none⟩) L1.length L1.length).ownBlock = some k → w4.heap.size ≤ k ∧ k < w5.heap.size) := fun k hk => Rx1_w5.out.lt k hk
  clear r b
  clear Rx0_w4
  go_wp2_with fail
  refine (IU.out w5 _ _ _ _ Rx0_w5.out Rx1_w5.out).mono ?_
  rintro e w6 ⟨rfl, b⟩
  have ZZw6 : Hid (w5.heap.size ≤ w6.heap.size) := b.size
  have BBw6 : Hid (Below w.heap.size w w6) := BBw5.out.trans (b.mono BBw5.out.size)
  have Rx0_w6 : Hid (w6.ownsRow w3.heap.size 2 1 (.slice (some ⟨w3.heap.size, 0, none⟩) L0.length L0.length) L0.length (ints L0)) := row_on Rx0_w5.out b
  have Rx1_w6 : Hid (w6.ownsRow w4.heap.size 2 1 (.slice (some ⟨w4.heap.size, 0, none⟩) L1.length L1.length) L1.length (ints L1)) := row_on Rx1_w5.out b
  clear b
  clear Rx0_w5 Rx1_w5
  go_wp2_with fail
  refine (TO0.out w6 BBw6.out).mono ?_
  rintro e w7 ⟨rfl, r, b⟩
  have ZZw7 : Hid (w6.heap.size ≤ w7.heap.size) := b.size
  have BBw7 : Hid (Below w.heap.size w w7) := BBw6.out.trans (b.mono BBw6.out.size)
  have Rx0_w7 : Hid (w7.ownsRow w3.heap.size 2 1 (.slice (some ⟨w3.heap.size, 0, none⟩) L0.length L0.length) L0.length (ints L0)) := row_on Rx0_w6.out b
  have Rx1_w7 : Hid (w7.ownsRow w4.heap.size 2 1 (.slice (some ⟨w4.heap.size, 0, none⟩) L1.length L1.length) L1.length (ints L1)) := row_on Rx1_w6.out b
  have Ry0_w7 : Hid (w7.ownsRow w6.heap.size 2 1 (.slice (some ⟨w6.heap.size, 0, none⟩) L0.length L0.length) L0.length (ints L0)) := r
  have LTy0 : Hid (∀ k, (Value.slice (some ⟨w6.heap.size, 0, none⟩) L0.length L0.length).ownBlock = some k → w6.heap.size ≤ k ∧ k < w7.heap.size) := fun k hk => Ry0_w7.out.lt k hk
  clear r b
  clear Rx0_w6 Rx1_w6
  go_wp2_with fail
  refine (eq_same _ _ _ _ _ L0 Rx0_w7.out Ry0_w7.out).mono ?_
  rintro e w8 ⟨rfl, mw8, hw⟩
  have ZZw8 : Hid (w8.heap.size = w7.heap.size) := (by show _ = _; rw [hw]; rfl)
  have BBw8 : Hid (Below w.heap.size w w8) := (by show Below _ _ _; rw [hw]; exact below_drewN BBw7.out _)
  have Rx0_w8 : Hid (w8.ownsRow w3.heap.size 2 1 (.slice (some ⟨w3.heap.size, 0, none⟩) L0.length L0.length) L0.length (ints L0)) := (by show World.ownsRow _ _ _ _ _ _ _; rw [hw]; exact Rx0_w7.out)
  have Rx1_w8 : Hid (w8.ownsRow w4.heap.size 2 1 (.slice (some ⟨w4.heap.size, 0, none⟩) L1.length L1.length) L1.length (ints L1)) := (by show World.ownsRow _ _ _ _ _ _ _; rw [hw]; exact Rx1_w7.out)
  have Ry0_w8 : Hid (w8.ownsRow w6.heap.size 2 1 (.slice (some ⟨w6.heap.size, 0, none⟩) L0.length L0.length) L0.length (ints L0)) := (by show World.ownsRow _ _ _ _ _ _ _; rw [hw]; exact Ry0_w7.out)
  clear hw
  clear Rx0_w7 Rx1_w7 Ry0_w7
  clear Ry0_w8
  go_wp2_with fail
  refine (TO1.out w8 BBw8.out).mono ?_
  rintro e w9 ⟨rfl, r, b⟩
  have ZZw9 : Hid (w8.heap.size ≤ w9.heap.size) := b.size
  have BBw9 : Hid (Below w.heap.size w w9) := BBw8.out.trans (b.mono BBw8.out.size)
  have Rx0_w9 : Hid (w9.ownsRow w3.heap.size 2 1 (.slice (some ⟨w3.heap.size, 0, none⟩) L0.length L0.length) L0.length (ints L0)) := row_on Rx0_w8.out b
  have Rx1_w9 : Hid (w9.ownsRow w4.heap.size 2 1 (.slice (some ⟨w4.heap.size, 0, none⟩) L1.length L1.length) L1.length (ints L1)) := row_on Rx1_w8.out b
  have Ry1_w9 : Hid (w9.ownsRow w8.heap.size 2 1 (.slice (some ⟨w8.heap.size, 0, none⟩) L1.length L1.length) L1.length (ints L1)) := r
  have LTy1 : Hid (∀ k, (Value.slice (some ⟨w8.heap.size, 0, none⟩) L1.length L1.length).ownBlock = some k → w8.heap.size ≤ k ∧ k < w9.heap.size) := fun k hk => Ry1_w9.out.lt k hk
  clear r b
  clear Rx0_w8 Rx1_w8
  go_wp2_with fail
  refine (eq_same _ _ _ _ _ L1 Rx1_w9.out Ry1_w9.out).mono ?_
  rintro e w10 ⟨rfl, mw10, hw⟩
  have ZZw10 : Hid (w10.heap.size = w9.heap.size) := (by show _ = _; rw [hw]; rfl)
  have BBw10 : Hid (Below w.heap.size w w10) := (by show Below _ _ _; rw [hw]; exact below_drewN BBw9.out _)
  have Rx0_w10 : Hid (w10.ownsRow w3.heap.size 2 1 (.slice (some ⟨w3.heap.size, 0, none⟩) L0.length L0.length) L0.length (ints L0)) := (by show World.ownsRow _ _ _ _ _ _ _; rw [hw]; exact Rx0_w9.out)
  have Rx1_w10 : Hid (w10.ownsRow w4.heap.size 2 1 (.slice (some ⟨w4.heap.size, 0, none⟩) L1.length L1.length) L1.length (ints L1)) := (by show World.ownsRow _ _ _ _ _ _ _; rw [hw]; exact Rx1_w9.out)
  have Ry1_w10 : Hid (w10.ownsRow w8.heap.size 2 1 (.slice (some ⟨w8.heap.size, 0, none⟩) L1.length L1.length) L1.length (ints L1)) := (by show World.ownsRow _ _ _ _ _ _ _; rw [hw]; exact Ry1_w9.out)
  clear hw
  clear Rx0_w9 Rx1_w9 Ry1_w9
  clear Ry1_w10
  go_wp2_with fail
  go_ret
  exact ⟨rfl, BBw10.out⟩
end Go.Proofs.Ytbklobohbbkmmaa.LawPmL
