/- The law walked; what model and program answer comes in as hypotheses. -/
import Derived.Test.YthmghcgljegjoaaXoA
import Derived.Test.YthmghcgljegjoaaAlA
namespace Go.Proofs.Ythmghcgljegjoaa.LawOsL
open Go.ChangeShapes Go.WideShapes Go.ChangeAt Go.RowKit
open Go.Proofs.Ythmghcgljegjoaa.Lists

theorem below_drewN {B : Nat} {a w : World} (h : Below B a w) (n : Nat) : Below B a (w.drewN n) := h.trans ⟨rfl, rfl, rfl, Nat.le_refl _, fun _ _ => rfl⟩
theorem row_on {w w' : World} {base n : Nat} {v : Value} {xs : List Value} (h : w.ownsRow base 2 1 v n xs) (hb : Below w.heap.size w w') : w'.ownsRow base 2 1 v n xs := by
  refine h.kept (row := none) ⟨hb.os, hb.tape, hb.output, hb.size, fun k hk _ => hb.block k hk⟩ ?_
  by_cases e : v.ownBlock = none
  · exact Or.inl e
  · exact Or.inr e
theorem row_off {w w' : World} {base n : Nat} {row : Option Nat} {v : Value} {xs : List Value} (h : w.ownsRow base 2 1 v n xs) (hg : w.grownBy w' row) (hne : ∀ k j, v.ownBlock = some k → row = some j → k ≠ j) : w'.ownsRow base 2 1 v n xs := by
  refine h.kept hg ?_
  cases e : v.ownBlock with
  | none => exact Or.inl rfl
  | some k => exact Or.inr fun x => hne k k e x.symm rfl

set_option maxRecDepth 20000 in
set_option maxHeartbeats 2000000 in
theorem osLaw (w : World) (v0 : Value) (L0 : List Int) (h0 : Lists.Reads w v0 L0) (f0 : L0.length < 9223372036854775808) (n1 : Int) (r0 : Int) (b1 : Bool)
    (SA : ∀ (w : World) (t0 : Value), Lists.Reads w t0 L0 → Calls Try.prog 5 #[t0, .int .i64 n1] w fun e w' => e = .returned (.tuple #[.int .i64 r0, .bool b1]) ∧ Below w.heap.size w w')
    (IA : ∀ (w : World) (t0 : Value), Lists.Reads w t0 L0 → Calls Try.prog 7 #[t0, .int .i64 n1] w fun e w' => e = .returned (.tuple #[.int .i64 r0, .bool b1]) ∧ Below w.heap.size w w') :
    Calls Try.prog 3 #[v0, .int .i64 n1] w fun e w' => e = .returned (.bool true) ∧ Below w.heap.size w w' := by
  obtain ⟨s0, c0, rfl⟩ := h0.form
  by_cases g0 : 1048576 < L0.length
  · have i1 : (1048576 : Int) < (L0.length : Int) := by omega
    go_enter Try.func3, Try.ntmps3
    go_wp2_with fail
    go_ret
    exact ⟨rfl, Below.refl _ _⟩
  have j0 : ¬ (1048576 : Int) < (L0.length : Int) := by omega
  have TO0 : Hid (∀ w', Below w.heap.size w w' → Calls Try.prog 6 #[.slice s0 L0.length c0] w' fun e w'' => e = .returned (.slice (some ⟨w'.heap.size, 0, none⟩) L0.length L0.length) ∧ w''.ownsRow w'.heap.size 2 1 (.slice (some ⟨w'.heap.size, 0, none⟩) L0.length L0.length) L0.length (ints L0) ∧ Below w'.heap.size w' w'') := fun w' hb => to_any w' _ L0 (h0.on hb) (by omega)
  have SU : Hid (∀ (w' : World) (B0 : Nat) (t0 : Value), w'.ownsRow B0 2 1 t0 L0.length (ints L0) → Calls Try.prog 5 #[t0, .int .i64 n1] w' fun e w'' => e = .returned (.tuple #[.int .i64 r0, .bool b1]) ∧ Below w'.heap.size w' w'') := fun w' B0 t0 o0 => SA w' t0 (Lists.reads_row o0)
  have IU : Hid (∀ (w' : World) (B0 : Nat) (t0 : Value), w'.ownsRow B0 2 1 t0 L0.length (ints L0) → Calls Try.prog 7 #[t0, .int .i64 n1] w' fun e w'' => e = .returned (.tuple #[.int .i64 r0, .bool b1]) ∧ Below w'.heap.size w' w'') := fun w' B0 t0 o0 => IA w' t0 (Lists.reads_row o0)
  have hbb : ∀ b : Bool, (b != b) = false := fun b => by cases b <;> rfl
  have hii : ∀ b : Int, (b != b) = false := fun b => by simp
  have HL0 : Hid (L0.length ≤ 1048576) := (by show _ ≤ _; omega)
  clear SA IA  h0 g0 f0
  have BBwa : Hid (Below w.heap.size w w) := Below.refl _ _
  have ZZwa : Hid (w.heap.size ≤ w.heap.size) := Nat.le_refl w.heap.size
  go_enter Try.func3, Try.ntmps3
  go_wp2_with fail
  refine (TO0.out w BBwa.out).mono ?_
  rintro e w1 ⟨rfl, r, b⟩
  have ZZw1 : Hid (w.heap.size ≤ w1.heap.size) := b.size
  have BBw1 : Hid (Below w.heap.size w w1) := BBwa.out.trans (b.mono BBwa.out.size)
  have Rp0_w1 : Hid (w1.ownsRow w.heap.size 2 1 (.slice (some ⟨w.heap.size, 0, none⟩) L0.length L0.length) L0.length (ints L0)) := r
  have LTp0 : Hid (∀ k, (Value.slice (some ⟨w.heap.size, 0, none⟩) L0.length L0.length).ownBlock = some k → w.heap.size ≤ k ∧ k < w1.heap.size) := fun k hk => Rp0_w1.out.lt k hk
  clear r b
  go_wp2_with fail
  refine (SU.out w1 _ _ Rp0_w1.out).mono ?_
  rintro e w2 ⟨rfl, b⟩
  have ZZw2 : Hid (w1.heap.size ≤ w2.heap.size) := b.size
  have BBw2 : Hid (Below w.heap.size w w2) := BBw1.out.trans (b.mono BBw1.out.size)
  have Rp0_w2 : Hid (w2.ownsRow w.heap.size 2 1 (.slice (some ⟨w.heap.size, 0, none⟩) L0.length L0.length) L0.length (ints L0)) := row_on Rp0_w1.out b
  clear b
  clear Rp0_w1
  clear Rp0_w2
  go_wp2_with fail
  refine (TO0.out w2 BBw2.out).mono ?_
  rintro e w3 ⟨rfl, r, b⟩
  have ZZw3 : Hid (w2.heap.size ≤ w3.heap.size) := b.size
  have BBw3 : Hid (Below w.heap.size w w3) := BBw2.out.trans (b.mono BBw2.out.size)
  have Rx0_w3 : Hid (w3.ownsRow w2.heap.size 2 1 (.slice (some ⟨w2.heap.size, 0, none⟩) L0.length L0.length) L0.length (ints L0)) := r
  have LTx0 : Hid (∀ k, (Value.slice (some ⟨w2.heap.size, 0, none⟩) L0.length L0.length).ownBlock = some k → w2.heap.size ≤ k ∧ k < w3.heap.size) := fun k hk => Rx0_w3.out.lt k hk
  clear r b
  go_wp2_with fail
  refine (IU.out w3 _ _ Rx0_w3.out).mono ?_
  rintro e w4 ⟨rfl, b⟩
  have ZZw4 : Hid (w3.heap.size ≤ w4.heap.size) := b.size
  have BBw4 : Hid (Below w.heap.size w w4) := BBw3.out.trans (b.mono BBw3.out.size)
  have Rx0_w4 : Hid (w4.ownsRow w2.heap.size 2 1 (.slice (some ⟨w2.heap.size, 0, none⟩) L0.length L0.length) L0.length (ints L0)) := row_on Rx0_w3.out b
  clear b
  clear Rx0_w3
  go_wp2_with fail
  refine (TO0.out w4 BBw4.out).mono ?_
  rintro e w5 ⟨rfl, r, b⟩
  have ZZw5 : Hid (w4.heap.size ≤ w5.heap.size) := b.size
  have BBw5 : Hid (Below w.heap.size w w5) := BBw4.out.trans (b.mono BBw4.out.size)
  have Rx0_w5 : Hid (w5.ownsRow w2.heap.size 2 1 (.slice (some ⟨w2.heap.size, 0, none⟩) L0.length L0.length) L0.length (ints L0)) := row_on Rx0_w4.out b
  have Ry0_w5 : Hid (w5.ownsRow w4.heap.size 2 1 (.slice (some ⟨w4.heap.size, 0, none⟩) L0.length L0.length) L0.length (ints L0)) := r
  have LTy0 : Hid (∀ k, (Value.slice (some ⟨w4.heap.size, 0, none⟩) L0.length L0.length).ownBlock = some k → w4.heap.size ≤ k ∧ k < w5.heap.size) := fun k hk => Ry0_w5.out.lt k hk
  clear r b
  clear Rx0_w4
  go_wp2_with fail
  refine (eq_same _ _ _ _ _ L0 Rx0_w5.out Ry0_w5.out).mono ?_
  rintro e w6 ⟨rfl, mw6, hw⟩
  have ZZw6 : Hid (w6.heap.size = w5.heap.size) := (by show _ = _; rw [hw]; rfl)
  have BBw6 : Hid (Below w.heap.size w w6) := (by show Below _ _ _; rw [hw]; exact below_drewN BBw5.out _)
  have Rx0_w6 : Hid (w6.ownsRow w2.heap.size 2 1 (.slice (some ⟨w2.heap.size, 0, none⟩) L0.length L0.length) L0.length (ints L0)) := (by show World.ownsRow _ _ _ _ _ _ _; rw [hw]; exact Rx0_w5.out)
  have Ry0_w6 : Hid (w6.ownsRow w4.heap.size 2 1 (.slice (some ⟨w4.heap.size, 0, none⟩) L0.length L0.length) L0.length (ints L0)) := (by show World.ownsRow _ _ _ _ _ _ _; rw [hw]; exact Ry0_w5.out)
  clear hw
  clear Rx0_w5 Ry0_w5
  clear Ry0_w6
  go_wp2_with fail
  go_ret
  exact ⟨rfl, BBw6.out⟩
end Go.Proofs.Ythmghcgljegjoaa.LawOsL
