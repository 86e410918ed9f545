/- The law walked; what model and program answer comes in as hypotheses. -/
import Derived.Test.YtniejbefkijenaaEnZ
import Derived.Test.YtniejbefkijenaaEnM
import Derived.Test.YtniejbefkijenaaXoA
import Derived.Test.YtniejbefkijenaaRmH
namespace Go.Proofs.Ytniejbefkijenaa.LawDlL
open Go.ChangeShapes Go.WideShapes Go.ChangeAt Go.RowKit
open Go.Proofs.Ytniejbefkijenaa.Lists (ints sq sq_len)
theorem below_drewN {B : Nat} {a w : World} (h : Below B a w) (n : Nat) : Below B a (w.drewN n) := h.trans ⟨rfl, rfl, rfl, Nat.le_refl _, fun _ _ => rfl⟩
theorem row_on {w w' : World} {base n : Nat} {v : Value} {xs : List Value} (h : w.ownsRow base 2 1 v n xs) (hb : Below w.heap.size w w') : w'.ownsRow base 2 1 v n xs := by
  refine h.kept (row := none) ⟨hb.os, hb.tape, hb.output, hb.size, fun k hk _ => hb.block k hk⟩ ?_
  by_cases e : v.ownBlock = none
  · exact Or.inl e
  · exact Or.inr e
theorem row_off {w w' : World} {base n : Nat} {row : Option Nat} {v : Value} {xs : List Value} (h : w.ownsRow base 2 1 v n xs) (hg : w.grownBy w' row) (hne : ∀ k, v.ownBlock = some k → row ≠ some k) : w'.ownsRow base 2 1 v n xs := by
  refine h.kept hg ?_
  cases e : v.ownBlock with
  | none => exact Or.inl rfl
  | some k => exact Or.inr fun x => hne k e x.symm

set_option maxRecDepth 20000 in
set_option maxHeartbeats 4000000 in
theorem dealLaw (w : World) (v0 : Value) (L0 : En.Ls) (h0 : En.Reads w v0 L0) (f0 : En.Fit L0) (n1 : Int) (n2 : Int) (X0 : List Int) (hX0 : X0.length ≤ 1000) (r1 : Bool)
    (SA : En.Fine L0 → ∀ (w : World) (t0 : Value), En.Reads w t0 L0 → Calls Try.prog 15 #[t0, .int .i64 n1, .int .i64 n2] w fun e w' => ∃ u0, e = .returned (.tuple #[u0, .bool r1]) ∧ w'.ownsRow w.heap.size 2 1 u0 (List.length X0) (ints X0) ∧ Below w.heap.size w w')
    (IA : En.Fine L0 → ∀ (w : World) (t0 : Value), En.Reads w t0 L0 → Calls Try.prog 16 #[t0, .int .i64 n1, .int .i64 n2] w fun e w' => ∃ u0, e = .returned (.tuple #[u0, .bool r1]) ∧ w'.ownsRow w.heap.size 2 1 u0 (List.length X0) (ints X0) ∧ Below w.heap.size w w') :
    Calls Try.prog 4 #[v0, .int .i64 n1, .int .i64 n2] w fun e w' => e = .returned (.bool true) ∧ Below w.heap.size w w' := by
  obtain ⟨s0, c0, e0⟩ := h0.form
  subst e0
  obtain ⟨wa, hwa⟩ : ∃ wa, wa = w := ⟨_, rfl⟩
  subst hwa
  have HR0 : Hid (∀ w', Below wa.heap.size wa w' → En.Reads w' (.slice s0 (List.length L0) c0) L0) := fun w' hb => h0.on hb
  have SZ0 : Hid (∀ (w' : World) (l : Int), Below wa.heap.size wa w' → 0 ≤ l → l ≤ 1048576 → Calls Try.prog 6 #[(.slice s0 (List.length L0) c0), .int .i64 l] w' fun e w'' => (∃ r : Int, e = .returned (.int .i64 r) ∧ (0 ≤ r → En.Fine L0) ∧ r ≤ 1048576) ∧ Below w'.heap.size w' w'') := fun w' l hb q0 q1 => En.sz_any _ L0 l w' q0 q1 (HR0.out w' hb) f0
  have TO0 : Hid (En.Fine L0 → ∀ w', Below wa.heap.size wa w' → Calls Try.prog 9 #[(.slice s0 (List.length L0) c0)] w' fun e w'' => ∃ u, e = .returned u ∧ En.Row w'' w'.heap.size u L0 ∧ Below w'.heap.size w' w'') := fun hl w' hb => En.to_own w' _ L0 (HR0.out w' hb) hl.1
  have SU : Hid (En.Fine L0 → ∀ (w' : World) (B0 : Nat) (t0 : Value), En.Row w' B0 t0 L0 → Calls Try.prog 15 #[t0, .int .i64 n1, .int .i64 n2] w' fun e w'' => ∃ u0, e = .returned (.tuple #[u0, .bool r1]) ∧ w''.ownsRow w'.heap.size 2 1 u0 (List.length X0) (ints X0) ∧ Below w'.heap.size w' w'') := fun g0 w' B0 t0 o0 => SA g0 w' t0 o0.reads
  have IU : Hid (En.Fine L0 → ∀ (w' : World) (B0 : Nat) (t0 : Value), En.Row w' B0 t0 L0 → Calls Try.prog 16 #[t0, .int .i64 n1, .int .i64 n2] w' fun e w'' => ∃ u0, e = .returned (.tuple #[u0, .bool r1]) ∧ w''.ownsRow w'.heap.size 2 1 u0 (List.length X0) (ints X0) ∧ Below w'.heap.size w' w'') := fun g0 w' B0 t0 o0 => IA g0 w' t0 o0.reads
  have hbb : ∀ b : Bool, (b != b) = false := fun b => by cases b <;> rfl
  have hii : ∀ b : Int, (b != b) = false := fun b => by simp
  have EQ0 : Hid (∀ (w' : World) (y z : Value) (B C : Nat), En.Row w' B y L0 → En.Row w' C z L0 → Calls Try.prog 12 #[y, z] w' fun e w'' => e = .returned (.bool true) ∧ Below w'.heap.size w' w'') := fun w' y z B C h h' => En.eq_same w' y z L0 h.reads h'.reads
  have EX0 : Hid (∀ (w' : World) (y z : Value) (B C : Nat), w'.ownsRow B 2 1 y (List.length X0) (ints X0) → w'.ownsRow C 2 1 z (List.length X0) (ints X0) → Calls Try.prog 17 #[y, z] w' fun e w'' => e = .returned (.bool true) ∧ Below w'.heap.size w' w'') := fun w' y z B C h h' => (Lists.eq_same w' B C y z X0 h h').mono fun _ _ ⟨h1, m, h2⟩ => ⟨h1, h2 ▸ below_drewN (Below.refl _ _) m⟩
  have HX0 : Hid (List.length X0 ≤ 1000) := hX0
  clear SA IA hX0 h0 f0
  have BBwa : Hid (Below wa.heap.size wa wa) := Below.refl _ _
  go_enter Try.func4, Try.ntmps4
  go_wp2_with fail
  refine (SZ0.out wa 1048576 BBwa.out (by omega) (by omega)).mono ?_
  rintro e w1 ⟨⟨z0, e', y0, l0⟩, b⟩
  subst e'
  have ZZw1 : Hid (wa.heap.size ≤ w1.heap.size) := b.size
  have BBw1 : Hid (Below wa.heap.size wa w1) := BBwa.out.trans (b.mono BBwa.out.size)
  clear b
  by_cases hneg0 : z0 < 0
  · go_wp2_with fail
    go_ret
    exact ⟨rfl, (BBw1.out)⟩
  have HL0 : Hid (En.Fine L0) := y0 (by omega)
  go_wp2_with fail
  refine (TO0.out HL0.out w1 BBw1.out).mono ?_
  rintro e w2 ⟨up0, e', r, b⟩
  subst e'
  have ZZw2 : Hid (w1.heap.size ≤ w2.heap.size) := b.size
  have BBw2 : Hid (Below wa.heap.size wa w2) := BBw1.out.trans (b.mono BBw1.out.size)
  have Rp0_w2 : Hid (En.Row w2 w1.heap.size up0 L0) := r
  have LTp0 : Hid (∀ k, (up0).ownBlock = some k → w1.heap.size ≤ k ∧ k < w2.heap.size) := fun k hk => Rp0_w2.out.lt k hk
  clear r
  clear b
  go_wp2_with fail
  refine (SU.out HL0.out w2 _ _ Rp0_w2.out).mono ?_
  rintro e w3 ⟨us0, e', rr0, b⟩
  subst e'
  have ZZw3 : Hid (w2.heap.size ≤ w3.heap.size) := b.size
  have BBw3 : Hid (Below wa.heap.size wa w3) := BBw2.out.trans (b.mono BBw2.out.size)
  have Rp0_w3 : Hid (En.Row w3 w1.heap.size up0 L0) := Rp0_w2.out.on b
  have Rs0_w3 : Hid (w3.ownsRow w2.heap.size 2 1 us0 (List.length X0) (ints X0)) := rr0
  have LTs0 : Hid (∀ k, (us0).ownBlock = some k → w2.heap.size ≤ k ∧ k < w3.heap.size) := fun k hk => Rs0_w3.out.lt k hk
  clear rr0
  clear b
  clear Rp0_w2
  clear Rp0_w3
  go_wp2_with fail
  refine (TO0.out HL0.out w3 BBw3.out).mono ?_
  rintro e w4 ⟨ux0, e', r, b⟩
  subst e'
  have ZZw4 : Hid (w3.heap.size ≤ w4.heap.size) := b.size
  have BBw4 : Hid (Below wa.heap.size wa w4) := BBw3.out.trans (b.mono BBw3.out.size)
  have Rs0_w4 : Hid (w4.ownsRow w2.heap.size 2 1 us0 (List.length X0) (ints X0)) := row_on Rs0_w3.out b
  have Rx0_w4 : Hid (En.Row w4 w3.heap.size ux0 L0) := r
  have LTx0 : Hid (∀ k, (ux0).ownBlock = some k → w3.heap.size ≤ k ∧ k < w4.heap.size) := fun k hk => Rx0_w4.out.lt k hk
  clear r
  clear b
  clear Rs0_w3
  go_wp2_with fail
  refine (IU.out HL0.out w4 _ _ Rx0_w4.out).mono ?_
  rintro e w5 ⟨ug0, e', rr0, b⟩
  subst e'
  have ZZw5 : Hid (w4.heap.size ≤ w5.heap.size) := b.size
  have BBw5 : Hid (Below wa.heap.size wa w5) := BBw4.out.trans (b.mono BBw4.out.size)
  have Rs0_w5 : Hid (w5.ownsRow w2.heap.size 2 1 us0 (List.length X0) (ints X0)) := row_on Rs0_w4.out b
  have Rx0_w5 : Hid (En.Row w5 w3.heap.size ux0 L0) := Rx0_w4.out.on b
  have Rg0_w5 : Hid (w5.ownsRow w4.heap.size 2 1 ug0 (List.length X0) (ints X0)) := rr0
  have LTg0 : Hid (∀ k, (ug0).ownBlock = some k → w4.heap.size ≤ k ∧ k < w5.heap.size) := fun k hk => Rg0_w5.out.lt k hk
  clear rr0
  clear b
  clear Rs0_w4 Rx0_w4
  go_wp2_with fail
  refine (EX0.out w5 _ _ _ _ Rg0_w5.out Rs0_w5.out).mono ?_
  rintro e w6 ⟨e', b⟩
  subst e'
  have ZZw6 : Hid (w5.heap.size ≤ w6.heap.size) := b.size
  have BBw6 : Hid (Below wa.heap.size wa w6) := BBw5.out.trans (b.mono BBw5.out.size)
  have Rs0_w6 : Hid (w6.ownsRow w2.heap.size 2 1 us0 (List.length X0) (ints X0)) := row_on Rs0_w5.out b
  have Rx0_w6 : Hid (En.Row w6 w3.heap.size ux0 L0) := Rx0_w5.out.on b
  have Rg0_w6 : Hid (w6.ownsRow w4.heap.size 2 1 ug0 (List.length X0) (ints X0)) := row_on Rg0_w5.out b
  clear b
  clear Rs0_w5 Rx0_w5 Rg0_w5
  go_wp2_with fail
  refine (TO0.out HL0.out w6 BBw6.out).mono ?_
  rintro e w7 ⟨uy0, e', r, b⟩
  subst e'
  have ZZw7 : Hid (w6.heap.size ≤ w7.heap.size) := b.size
  have BBw7 : Hid (Below wa.heap.size wa w7) := BBw6.out.trans (b.mono BBw6.out.size)
  have Rs0_w7 : Hid (w7.ownsRow w2.heap.size 2 1 us0 (List.length X0) (ints X0)) := row_on Rs0_w6.out b
  have Rx0_w7 : Hid (En.Row w7 w3.heap.size ux0 L0) := Rx0_w6.out.on b
  have Rg0_w7 : Hid (w7.ownsRow w4.heap.size 2 1 ug0 (List.length X0) (ints X0)) := row_on Rg0_w6.out b
  have Ry0_w7 : Hid (En.Row w7 w6.heap.size uy0 L0) := r
  have LTy0 : Hid (∀ k, (uy0).ownBlock = some k → w6.heap.size ≤ k ∧ k < w7.heap.size) := fun k hk => Ry0_w7.out.lt k hk
  clear r
  clear b
  clear Rs0_w6 Rx0_w6 Rg0_w6
  go_wp2_with fail
  refine (EQ0.out w7 _ _ _ _ Rx0_w7.out Ry0_w7.out).mono ?_
  rintro e w8 ⟨e', b⟩
  subst e'
  have ZZw8 : Hid (w7.heap.size ≤ w8.heap.size) := b.size
  have BBw8 : Hid (Below wa.heap.size wa w8) := BBw7.out.trans (b.mono BBw7.out.size)
  have Rs0_w8 : Hid (w8.ownsRow w2.heap.size 2 1 us0 (List.length X0) (ints X0)) := row_on Rs0_w7.out b
  have Rx0_w8 : Hid (En.Row w8 w3.heap.size ux0 L0) := Rx0_w7.out.on b
  have Rg0_w8 : Hid (w8.ownsRow w4.heap.size 2 1 ug0 (List.length X0) (ints X0)) := row_on Rg0_w7.out b
  have Ry0_w8 : Hid (En.Row w8 w6.heap.size uy0 L0) := Ry0_w7.out.on b
  clear b
  clear Rs0_w7 Rx0_w7 Rg0_w7 Ry0_w7
  clear Ry0_w8
  go_wp2_with fail
  obtain ⟨xsx0, hox0, _⟩ := Rx0_w8.out
  refine (En.mark_any w8 _ _ _ xsx0 (HL0.out).1 hox0).mono ?_
  rintro e w9 ⟨e', r, g⟩
  subst e'
  clear hox0
  have ZZw9 : Hid (w8.heap.size ≤ w9.heap.size) := g.size
  have BBw9 : Hid (Below wa.heap.size wa w9) := BBw8.out.grown g BBw8.out.size (fun k hk => by have q0 := ZZw1.out; have q1 := ZZw2.out; have q2 := ZZw3.out; have q3 := ZZw4.out; have q4 := ZZw5.out; have q5 := ZZw6.out; have q6 := ZZw7.out; have q7 := ZZw8.out; have q8 := ZZw9.out; have := LTx0.out k hk; have := BBw8.out.size; omega)
  have Rs0_w9 : Hid (w9.ownsRow w2.heap.size 2 1 us0 (List.length X0) (ints X0)) := row_off Rs0_w8.out g (fun k hk hj => by have q0 := ZZw1.out; have q1 := ZZw2.out; have q2 := ZZw3.out; have q3 := ZZw4.out; have q4 := ZZw5.out; have q5 := ZZw6.out; have q6 := ZZw7.out; have q7 := ZZw8.out; have q8 := ZZw9.out; have := LTs0.out k hk; have := LTx0.out k hj; omega)
  have Rg0_w9 : Hid (w9.ownsRow w4.heap.size 2 1 ug0 (List.length X0) (ints X0)) := row_off Rg0_w8.out g (fun k hk hj => by have q0 := ZZw1.out; have q1 := ZZw2.out; have q2 := ZZw3.out; have q3 := ZZw4.out; have q4 := ZZw5.out; have q5 := ZZw6.out; have q6 := ZZw7.out; have q7 := ZZw8.out; have q8 := ZZw9.out; have := LTg0.out k hk; have := LTx0.out k hj; omega)
  have Rx0_w9 : Hid (En.Row w9 w3.heap.size ux0 (En.mks (List.length L0))) := r
  clear r g
  clear Rs0_w8 Rx0_w8 Rg0_w8
  have hk0 : ¬ (1 + (List.length L0 : Int) * 5) < 0 := by omega
  clear Rx0_w9
  go_wp2_with fail
  refine (EX0.out w9 _ _ _ _ Rg0_w9.out Rs0_w9.out).mono ?_
  rintro e w10 ⟨e', b⟩
  subst e'
  have ZZw10 : Hid (w9.heap.size ≤ w10.heap.size) := b.size
  have BBw10 : Hid (Below wa.heap.size wa w10) := BBw9.out.trans (b.mono BBw9.out.size)
  have Rs0_w10 : Hid (w10.ownsRow w2.heap.size 2 1 us0 (List.length X0) (ints X0)) := row_on Rs0_w9.out b
  have Rg0_w10 : Hid (w10.ownsRow w4.heap.size 2 1 ug0 (List.length X0) (ints X0)) := row_on Rg0_w9.out b
  clear b
  clear Rs0_w9 Rg0_w9
  go_wp2_with fail
  refine (Lists.mark_any w10 _ _ X0 (1) (by have q9 := HX0.out; omega) (by have q9 := HX0.out; omega) (by have q9 := HX0.out; omega) Rg0_w10.out).mono ?_
  rintro e w11 ⟨e', r, g⟩
  subst e'
  have ZZw11 : Hid (w10.heap.size ≤ w11.heap.size) := g.size
  have BBw11 : Hid (Below wa.heap.size wa w11) := BBw10.out.grown g BBw10.out.size (fun k hk => by have q0 := ZZw1.out; have q1 := ZZw2.out; have q2 := ZZw3.out; have q3 := ZZw4.out; have q4 := ZZw5.out; have q5 := ZZw6.out; have q6 := ZZw7.out; have q7 := ZZw8.out; have q8 := ZZw9.out; have q9 := ZZw10.out; have q10 := ZZw11.out; have := LTg0.out k hk; have := BBw10.out.size; omega)
  have Rs0_w11 : Hid (w11.ownsRow w2.heap.size 2 1 us0 (List.length X0) (ints X0)) := row_off Rs0_w10.out g (fun k hk hj => by have q0 := ZZw1.out; have q1 := ZZw2.out; have q2 := ZZw3.out; have q3 := ZZw4.out; have q4 := ZZw5.out; have q5 := ZZw6.out; have q6 := ZZw7.out; have q7 := ZZw8.out; have q8 := ZZw9.out; have q9 := ZZw10.out; have q10 := ZZw11.out; have := LTs0.out k hk; have := LTg0.out k hj; omega)
  have Rg0_w11 : Hid (w11.ownsRow w4.heap.size 2 1 ug0 (List.length (sq (1) (List.length X0))) (ints (sq (1) (List.length X0)))) := (by show World.ownsRow _ _ _ _ _ _ _; rw [sq_len]; exact r)
  clear r g
  clear Rs0_w10 Rg0_w10
  have hm0 : ¬ (1 + (List.length X0 : Int)) < 0 := by omega
  have hmm : ((1 + (List.length X0 : Int)) != (1 + (List.length X0 : Int))) = false := hii _
  go_wp2_with fail
  refine (Lists.held_any w11 _ (List.length X0) (1) (by have q9 := HX0.out; omega) (by have q9 := HX0.out; omega) (by have q9 := HX0.out; omega) (Lists.reads_row Rg0_w11.out)).mono ?_
  rintro e w12 ⟨e', mm, hw⟩
  subst e'
  have b : Below w11.heap.size w11 w12 := hw ▸ below_drewN (Below.refl _ _) mm
  clear hw
  have ZZw12 : Hid (w11.heap.size ≤ w12.heap.size) := b.size
  have BBw12 : Hid (Below wa.heap.size wa w12) := BBw11.out.trans (b.mono BBw11.out.size)
  have Rs0_w12 : Hid (w12.ownsRow w2.heap.size 2 1 us0 (List.length X0) (ints X0)) := row_on Rs0_w11.out b
  have Rg0_w12 : Hid (w12.ownsRow w4.heap.size 2 1 ug0 (List.length (sq (1) (List.length X0))) (ints (sq (1) (List.length X0)))) := row_on Rg0_w11.out b
  clear b
  clear Rs0_w11 Rg0_w11
  go_wp2_with fail
  refine (TO0.out HL0.out w12 BBw12.out).mono ?_
  rintro e w13 ⟨uq0, e', r, b⟩
  subst e'
  have ZZw13 : Hid (w12.heap.size ≤ w13.heap.size) := b.size
  have BBw13 : Hid (Below wa.heap.size wa w13) := BBw12.out.trans (b.mono BBw12.out.size)
  have Rs0_w13 : Hid (w13.ownsRow w2.heap.size 2 1 us0 (List.length X0) (ints X0)) := row_on Rs0_w12.out b
  have Rg0_w13 : Hid (w13.ownsRow w4.heap.size 2 1 ug0 (List.length (sq (1) (List.length X0))) (ints (sq (1) (List.length X0)))) := row_on Rg0_w12.out b
  have Rq0_w13 : Hid (En.Row w13 w12.heap.size uq0 L0) := r
  have LTq0 : Hid (∀ k, (uq0).ownBlock = some k → w12.heap.size ≤ k ∧ k < w13.heap.size) := fun k hk => Rq0_w13.out.lt k hk
  clear r
  clear b
  clear Rs0_w12 Rg0_w12
  go_wp2_with fail
  refine (IU.out HL0.out w13 _ _ Rq0_w13.out).mono ?_
  rintro e w14 ⟨uh0, e', rr0, b⟩
  subst e'
  have ZZw14 : Hid (w13.heap.size ≤ w14.heap.size) := b.size
  have BBw14 : Hid (Below wa.heap.size wa w14) := BBw13.out.trans (b.mono BBw13.out.size)
  have Rs0_w14 : Hid (w14.ownsRow w2.heap.size 2 1 us0 (List.length X0) (ints X0)) := row_on Rs0_w13.out b
  have Rg0_w14 : Hid (w14.ownsRow w4.heap.size 2 1 ug0 (List.length (sq (1) (List.length X0))) (ints (sq (1) (List.length X0)))) := row_on Rg0_w13.out b
  have Rq0_w14 : Hid (En.Row w14 w12.heap.size uq0 L0) := Rq0_w13.out.on b
  have Rh0_w14 : Hid (w14.ownsRow w13.heap.size 2 1 uh0 (List.length X0) (ints X0)) := rr0
  have LTh0 : Hid (∀ k, (uh0).ownBlock = some k → w13.heap.size ≤ k ∧ k < w14.heap.size) := fun k hk => Rh0_w14.out.lt k hk
  clear rr0
  clear b
  clear Rs0_w13 Rg0_w13 Rq0_w13
  clear Rq0_w14
  go_wp2_with fail
  refine (EX0.out w14 _ _ _ _ Rh0_w14.out Rs0_w14.out).mono ?_
  rintro e w15 ⟨e', b⟩
  subst e'
  have ZZw15 : Hid (w14.heap.size ≤ w15.heap.size) := b.size
  have BBw15 : Hid (Below wa.heap.size wa w15) := BBw14.out.trans (b.mono BBw14.out.size)
  have Rs0_w15 : Hid (w15.ownsRow w2.heap.size 2 1 us0 (List.length X0) (ints X0)) := row_on Rs0_w14.out b
  have Rg0_w15 : Hid (w15.ownsRow w4.heap.size 2 1 ug0 (List.length (sq (1) (List.length X0))) (ints (sq (1) (List.length X0)))) := row_on Rg0_w14.out b
  have Rh0_w15 : Hid (w15.ownsRow w13.heap.size 2 1 uh0 (List.length X0) (ints X0)) := row_on Rh0_w14.out b
  clear b
  clear Rs0_w14 Rg0_w14 Rh0_w14
  go_wp2_with fail
  refine (Lists.held_any w15 _ (List.length X0) (1) (by have q9 := HX0.out; omega) (by have q9 := HX0.out; omega) (by have q9 := HX0.out; omega) (Lists.reads_row Rg0_w15.out)).mono ?_
  rintro e w16 ⟨e', mm, hw⟩
  subst e'
  have b : Below w15.heap.size w15 w16 := hw ▸ below_drewN (Below.refl _ _) mm
  clear hw
  have ZZw16 : Hid (w15.heap.size ≤ w16.heap.size) := b.size
  have BBw16 : Hid (Below wa.heap.size wa w16) := BBw15.out.trans (b.mono BBw15.out.size)
  have Rs0_w16 : Hid (w16.ownsRow w2.heap.size 2 1 us0 (List.length X0) (ints X0)) := row_on Rs0_w15.out b
  have Rg0_w16 : Hid (w16.ownsRow w4.heap.size 2 1 ug0 (List.length (sq (1) (List.length X0))) (ints (sq (1) (List.length X0)))) := row_on Rg0_w15.out b
  have Rh0_w16 : Hid (w16.ownsRow w13.heap.size 2 1 uh0 (List.length X0) (ints X0)) := row_on Rh0_w15.out b
  clear b
  clear Rs0_w15 Rg0_w15 Rh0_w15
  go_wp2_with fail
  go_ret
  exact ⟨rfl, (BBw16.out)⟩
end Go.Proofs.Ytniejbefkijenaa.LawDlL
