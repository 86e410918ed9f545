/- The law walked; what model and program answer comes in as hypotheses. -/
import Derived.Test.YtbpkmgcgiegfeaaPb
namespace Go.Proofs.Ytbpkmgcgiegfeaa.LawBrL
open Go.ChangeShapes Go.WideShapes Go.ChangeAt Go.RowKit

theorem below_drewN {B : Nat} {a w : World} (h : Below B a w) (n : Nat) : Below B a (w.drewN n) := h.trans ⟨rfl, rfl, rfl, Nat.le_refl _, fun _ _ => rfl⟩
theorem row_on {w w' : World} {base n : Nat} {v : Value} {xs : List Value} (h : w.ownsRow base 2 1 v n xs) (hb : Below w.heap.size w w') : w'.ownsRow base 2 1 v n xs := by
  refine h.kept (row := none) ⟨hb.os, hb.tape, hb.output, hb.size, fun k hk _ => hb.block k hk⟩ ?_
  by_cases e : v.ownBlock = none
  · exact Or.inl e
  · exact Or.inr e
theorem row_off {w w' : World} {base n : Nat} {row : Option Nat} {v : Value} {xs : List Value} (h : w.ownsRow base 2 1 v n xs) (hg : w.grownBy w' row) (hne : ∀ k j, v.ownBlock = some k → row = some j → k ≠ j) : w'.ownsRow base 2 1 v n xs := by
  refine h.kept hg ?_
  cases e : v.ownBlock with
  | none => exact Or.inl rfl
  | some k => exact Or.inr fun x => hne k k e x.symm rfl

set_option maxRecDepth 20000 in
set_option maxHeartbeats 2000000 in
theorem brierLaw (w : World) (v0 : Value) (L0 : Pb.Ls) (h0 : Pb.Reads w v0 L0) (r0 : Int)
    (SA : ∀ (w : World) (t0 : Value), Pb.Reads w t0 L0 → Calls Try.prog 7 #[t0] w fun e w' => e = .returned (.int .i64 r0) ∧ Below w.heap.size w w')
    (IA : ∀ (w : World) (t0 : Value), Pb.Reads w t0 L0 → Calls Try.prog 9 #[t0] w fun e w' => e = .returned (.int .i64 r0) ∧ Below w.heap.size w w') :
    Calls Try.prog 3 #[v0] w fun e w' => e = .returned (.bool true) ∧ Below w.heap.size w w' := by
  obtain ⟨s0, c0, rfl⟩ := h0.form
  have FI0 := h0.fits
  have SZ0 : Hid (∀ (w' : World) (l : Int), Below w.heap.size w w' → 0 ≤ l → l ≤ 1048576 → Calls Try.prog 6 #[(.slice s0 L0.length c0), .int .i64 l] w' fun e w'' => (∃ r : Int, e = .returned (.int .i64 r) ∧ (0 ≤ r → List.length L0 ≤ 1048576) ∧ r ≤ 1048576) ∧ Below w'.heap.size w' w'') := fun w' l _ z0 z1 => by
    by_cases hz : (L0.length : Int) ≤ l
    · refine (Pb.sz_near s0 L0.length c0 l w' z1 hz).mono ?_
      rintro e w'' ⟨rfl, rfl⟩
      exact ⟨⟨_, rfl, fun _ => by omega, by omega⟩, Below.refl _ _⟩
    · refine (Pb.sz_far s0 L0.length c0 l w' z0 z1 (by omega) FI0).mono ?_
      rintro e w'' ⟨rfl, rfl⟩
      exact ⟨⟨_, rfl, fun h => by omega, by omega⟩, Below.refl _ _⟩
  have TO0 : Hid ((List.length L0 ≤ 1048576) → ∀ w', Below w.heap.size w w' → Calls Try.prog 8 #[(.slice s0 L0.length c0)] w' fun e w'' => ∃ u, e = .returned u ∧ Pb.Row w'' w'.heap.size u L0 ∧ Below w'.heap.size w' w'') := fun hl w' hb => Pb.to_own w' _ L0 (h0.on hb) hl
  have SU : Hid (∀ (w' : World) (B0 : Nat) (t0 : Value), Pb.Row w' B0 t0 L0 → Calls Try.prog 7 #[t0] w' fun e w'' => e = .returned (.int .i64 r0) ∧ Below w'.heap.size w' w'') := fun w' B0 t0 o0 => SA w' t0 o0.reads
  have IU : Hid (∀ (w' : World) (B0 : Nat) (t0 : Value), Pb.Row w' B0 t0 L0 → Calls Try.prog 9 #[t0] w' fun e w'' => e = .returned (.int .i64 r0) ∧ Below w'.heap.size w' w'') := fun w' B0 t0 o0 => IA w' t0 o0.reads
  have hbb : ∀ b : Bool, (b != b) = false := fun b => by cases b <;> rfl
  have hii : ∀ b : Int, (b != b) = false := fun b => by simp
  clear SA IA  h0  
  have BBwa : Hid (Below w.heap.size w w) := Below.refl _ _
  have ZZwa : Hid (w.heap.size ≤ w.heap.size) := Nat.le_refl w.heap.size
  go_enter Try.func3, Try.ntmps3
  go_wp2_with fail
  refine (SZ0.out w 1048576 BBwa.out (by omega) (by omega)).mono ?_
  rintro e w1 ⟨⟨z0, rfl, y0, l0⟩, b⟩
  have ZZw1 : Hid (w.heap.size ≤ w1.heap.size) := b.size
  have BBw1 : Hid (Below w.heap.size w w1) := BBwa.out.trans (b.mono BBwa.out.size)
  clear b
  by_cases hneg0 : z0 < 0
  · go_wp2_with fail
    go_ret
    exact ⟨rfl, BBw1.out⟩
  have HL0 : Hid (List.length L0 ≤ 1048576) := y0 (by omega)
  go_wp2_with fail
  refine (TO0.out HL0.out w1 BBw1.out).mono ?_
  rintro e w2 ⟨up0, rfl, r, b⟩
  have ZZw2 : Hid (w1.heap.size ≤ w2.heap.size) := b.size
  have BBw2 : Hid (Below w.heap.size w w2) := BBw1.out.trans (b.mono BBw1.out.size)
  have Rp0_w2 : Hid (Pb.Row w2 w1.heap.size up0 L0) := r
  clear r b
  go_wp2_with fail
  refine (SU.out w2 _ _ Rp0_w2.out).mono ?_
  rintro e w3 ⟨rfl, b⟩
  have ZZw3 : Hid (w2.heap.size ≤ w3.heap.size) := b.size
  have BBw3 : Hid (Below w.heap.size w w3) := BBw2.out.trans (b.mono BBw2.out.size)
  have Rp0_w3 : Hid (Pb.Row w3 w1.heap.size up0 L0) := Rp0_w2.out.on b
  clear b
  clear Rp0_w2
  clear Rp0_w3
  go_wp2_with fail
  refine (TO0.out HL0.out w3 BBw3.out).mono ?_
  rintro e w4 ⟨ux0, rfl, r, b⟩
  have ZZw4 : Hid (w3.heap.size ≤ w4.heap.size) := b.size
  have BBw4 : Hid (Below w.heap.size w w4) := BBw3.out.trans (b.mono BBw3.out.size)
  have Rx0_w4 : Hid (Pb.Row w4 w3.heap.size ux0 L0) := r
  clear r b
  go_wp2_with fail
  refine (IU.out w4 _ _ Rx0_w4.out).mono ?_
  rintro e w5 ⟨rfl, b⟩
  have ZZw5 : Hid (w4.heap.size ≤ w5.heap.size) := b.size
  have BBw5 : Hid (Below w.heap.size w w5) := BBw4.out.trans (b.mono BBw4.out.size)
  have Rx0_w5 : Hid (Pb.Row w5 w3.heap.size ux0 L0) := Rx0_w4.out.on b
  clear b
  clear Rx0_w4
  go_wp2_with fail
  refine (TO0.out HL0.out w5 BBw5.out).mono ?_
  rintro e w6 ⟨uy0, rfl, r, b⟩
  have ZZw6 : Hid (w5.heap.size ≤ w6.heap.size) := b.size
  have BBw6 : Hid (Below w.heap.size w w6) := BBw5.out.trans (b.mono BBw5.out.size)
  have Rx0_w6 : Hid (Pb.Row w6 w3.heap.size ux0 L0) := Rx0_w5.out.on b
  have Ry0_w6 : Hid (Pb.Row w6 w5.heap.size uy0 L0) := r
  clear r b
  clear Rx0_w5
  go_wp2_with fail
  refine (Pb.eq_same w6 _ _ L0 Rx0_w6.out.reads Ry0_w6.out.reads).mono ?_
  rintro e w7 ⟨rfl, b⟩
  have ZZw7 : Hid (w6.heap.size ≤ w7.heap.size) := b.size
  have BBw7 : Hid (Below w.heap.size w w7) := BBw6.out.trans (b.mono BBw6.out.size)
  have Rx0_w7 : Hid (Pb.Row w7 w3.heap.size ux0 L0) := Rx0_w6.out.on b
  have Ry0_w7 : Hid (Pb.Row w7 w5.heap.size uy0 L0) := Ry0_w6.out.on b
  clear b
  clear Rx0_w6 Ry0_w6
  clear Ry0_w7
  go_wp2_with fail
  go_ret
  exact ⟨rfl, BBw7.out⟩
end Go.Proofs.Ytbpkmgcgiegfeaa.LawBrL
