/- The law walked; what model and program answer comes in as hypotheses. -/
import Derived.Test.YtniejbefkijenaaEnZ
import Derived.Test.YtniejbefkijenaaEnM
namespace Go.Proofs.Ytniejbefkijenaa.LawStL
open Go.ChangeShapes Go.WideShapes Go.ChangeAt Go.RowKit

theorem below_drewN {B : Nat} {a w : World} (h : Below B a w) (n : Nat) : Below B a (w.drewN n) := h.trans ⟨rfl, rfl, rfl, Nat.le_refl _, fun _ _ => rfl⟩
theorem row_on {w w' : World} {base n : Nat} {v : Value} {xs : List Value} (h : w.ownsRow base 2 1 v n xs) (hb : Below w.heap.size w w') : w'.ownsRow base 2 1 v n xs := by
  refine h.kept (row := none) ⟨hb.os, hb.tape, hb.output, hb.size, fun k hk _ => hb.block k hk⟩ ?_
  by_cases e : v.ownBlock = none
  · exact Or.inl e
  · exact Or.inr e
theorem row_off {w w' : World} {base n : Nat} {row : Option Nat} {v : Value} {xs : List Value} (h : w.ownsRow base 2 1 v n xs) (hg : w.grownBy w' row) (hne : ∀ k, v.ownBlock = some k → row ≠ some k) : w'.ownsRow base 2 1 v n xs := by
  refine h.kept hg ?_
  cases e : v.ownBlock with
  | none => exact Or.inl rfl
  | some k => exact Or.inr fun x => hne k e x.symm

set_option maxRecDepth 20000 in
set_option maxHeartbeats 4000000 in
theorem storeLaw (w : World) (v0 : Value) (L0 : En.Ls) (h0 : En.Reads w v0 L0) (f0 : En.Fit L0) (a1_0 : ByteArray) (a1_1 : Int) (a1_2 : Int) (a1_3 : Int) (a1_4 : Int) (hsa1_0 : (a1_0).size < 9223372036854775808) (X0 : En.Ls) (hX0 : List.length X0 ≤ 1048576) (r1 : Bool)
    (SA : En.Fine L0 → (a1_0).size ≤ 1048576 → ∀ (w : World) (t0 : Value), En.Reads w t0 L0 → Calls Try.prog 8 #[t0, .agg #[.string a1_0, .int .i64 a1_1, .int .i64 a1_2, .int .i64 a1_3, .int .i64 a1_4]] w fun e w' => ∃ u0, e = .returned (.tuple #[u0, .bool r1]) ∧ En.Row w' w.heap.size u0 X0 ∧ Below w.heap.size w w')
    (IA : En.Fine L0 → (a1_0).size ≤ 1048576 → ∀ (w : World) (t0 : Value), En.Reads w t0 L0 → Calls Try.prog 11 #[t0, .agg #[.string a1_0, .int .i64 a1_1, .int .i64 a1_2, .int .i64 a1_3, .int .i64 a1_4]] w fun e w' => ∃ u0, e = .returned (.tuple #[u0, .bool r1]) ∧ En.Row w' w.heap.size u0 X0 ∧ Below w.heap.size w w') :
    Calls Try.prog 3 #[v0, .agg #[.string a1_0, .int .i64 a1_1, .int .i64 a1_2, .int .i64 a1_3, .int .i64 a1_4]] w fun e w' => e = .returned (.bool true) ∧ Below w.heap.size w w' := by
  obtain ⟨s0, c0, e0⟩ := h0.form
  subst e0
  obtain ⟨wa, hwa⟩ : ∃ wa, wa = (w.alloc (Obj.cells #[.string a1_0, .int .i64 a1_1, .int .i64 a1_2, .int .i64 a1_3, .int .i64 a1_4] 24)) := ⟨_, rfl⟩
  have HWA : Hid (wa = (w.alloc (Obj.cells #[.string a1_0, .int .i64 a1_1, .int .i64 a1_2, .int .i64 a1_3, .int .i64 a1_4] 24))) := hwa
  have BW : Hid (Below w.heap.size w wa) := (by show Below _ _ _; rw [hwa]; exact (Below.refl w.heap.size w).alloc (by simp) _)
  have ZW : Hid (wa.heap.size = w.heap.size + 1) := (by show _ = _; rw [hwa]; simp)
  have KB1 : Hid (∀ w', Below wa.heap.size wa w' → w'.cell? ⟨w.heap.size, 0, none⟩ = some (.string a1_0) ∧ w'.cell? ⟨w.heap.size, 1, none⟩ = some (.int .i64 a1_1) ∧ w'.cell? ⟨w.heap.size, 2, none⟩ = some (.int .i64 a1_2) ∧ w'.cell? ⟨w.heap.size, 3, none⟩ = some (.int .i64 a1_3) ∧ w'.cell? ⟨w.heap.size, 4, none⟩ = some (.int .i64 a1_4)) := fun w' hb => (by
    have lt : w.heap.size < wa.heap.size := by have := ZW.out; omega
    refine ⟨(hb.cell (p := ⟨w.heap.size, 0, none⟩) lt).trans (by rw [hwa]; simp [go_sem]), (hb.cell (p := ⟨w.heap.size, 1, none⟩) lt).trans (by rw [hwa]; simp [go_sem]), (hb.cell (p := ⟨w.heap.size, 2, none⟩) lt).trans (by rw [hwa]; simp [go_sem]), (hb.cell (p := ⟨w.heap.size, 3, none⟩) lt).trans (by rw [hwa]; simp [go_sem]), (hb.cell (p := ⟨w.heap.size, 4, none⟩) lt).trans (by rw [hwa]; simp [go_sem])⟩)
  clear hwa
  have HR0 : Hid (∀ w', Below wa.heap.size wa w' → En.Reads w' (.slice s0 (List.length L0) c0) L0) := fun w' hb => h0.on (BW.out.trans (hb.mono BW.out.size))
  have SZ0 : Hid (∀ (w' : World) (l : Int), Below wa.heap.size wa w' → 0 ≤ l → l ≤ 1048576 → Calls Try.prog 6 #[(.slice s0 (List.length L0) c0), .int .i64 l] w' fun e w'' => (∃ r : Int, e = .returned (.int .i64 r) ∧ (0 ≤ r → En.Fine L0) ∧ r ≤ 1048576) ∧ Below w'.heap.size w' w'') := fun w' l hb q0 q1 => En.sz_any _ L0 l w' q0 q1 (HR0.out w' hb) f0
  have TO0 : Hid (En.Fine L0 → ∀ w', Below wa.heap.size wa w' → Calls Try.prog 9 #[(.slice s0 (List.length L0) c0)] w' fun e w'' => ∃ u, e = .returned u ∧ En.Row w'' w'.heap.size u L0 ∧ Below w'.heap.size w' w'') := fun hl w' hb => En.to_own w' _ L0 (HR0.out w' hb) hl.1
  have TO1 : Hid (∀ w', Calls Try.prog 10 #[.agg #[.string a1_0, .int .i64 a1_1, .int .i64 a1_2, .int .i64 a1_3, .int .i64 a1_4]] w' fun e w'' => e = .returned (.agg #[.string a1_0, .int .i64 a1_1, .int .i64 a1_2, .int .i64 a1_3, .int .i64 a1_4]) ∧ Below w'.heap.size w' w'') := fun w' => En.to1_any a1_0 a1_1 a1_2 a1_3 a1_4 w'
  have SZ1 : Hid (∀ (w' : World) (l : Int), 0 ≤ l → l ≤ 1048576 → Calls Try.prog 7 #[.agg #[.string a1_0, .int .i64 a1_1, .int .i64 a1_2, .int .i64 a1_3, .int .i64 a1_4], .int .i64 l] w' fun e w'' => (∃ r : Int, e = .returned (.int .i64 r) ∧ (0 ≤ r → (a1_0).size ≤ 1048576) ∧ r ≤ 1048576) ∧ Below w'.heap.size w' w'') := fun w' l q0 q1 => En.szone_any a1_0 a1_1 a1_2 a1_3 a1_4 l w' q0 q1 hsa1_0
  have SU : Hid (En.Fine L0 → (a1_0).size ≤ 1048576 → ∀ (w' : World) (B0 : Nat) (t0 : Value), En.Row w' B0 t0 L0 → Calls Try.prog 8 #[t0, .agg #[.string a1_0, .int .i64 a1_1, .int .i64 a1_2, .int .i64 a1_3, .int .i64 a1_4]] w' fun e w'' => ∃ u0, e = .returned (.tuple #[u0, .bool r1]) ∧ En.Row w'' w'.heap.size u0 X0 ∧ Below w'.heap.size w' w'') := fun g0 g1 w' B0 t0 o0 => SA g0 g1 w' t0 o0.reads
  have IU : Hid (En.Fine L0 → (a1_0).size ≤ 1048576 → ∀ (w' : World) (B0 : Nat) (t0 : Value), En.Row w' B0 t0 L0 → Calls Try.prog 11 #[t0, .agg #[.string a1_0, .int .i64 a1_1, .int .i64 a1_2, .int .i64 a1_3, .int .i64 a1_4]] w' fun e w'' => ∃ u0, e = .returned (.tuple #[u0, .bool r1]) ∧ En.Row w'' w'.heap.size u0 X0 ∧ Below w'.heap.size w' w'') := fun g0 g1 w' B0 t0 o0 => IA g0 g1 w' t0 o0.reads
  have hbb : ∀ b : Bool, (b != b) = false := fun b => by cases b <;> rfl
  have hii : ∀ b : Int, (b != b) = false := fun b => by simp
  have EQ0 : Hid (∀ (w' : World) (y z : Value) (B C : Nat), En.Row w' B y L0 → En.Row w' C z L0 → Calls Try.prog 12 #[y, z] w' fun e w'' => e = .returned (.bool true) ∧ Below w'.heap.size w' w'') := fun w' y z B C h h' => En.eq_same w' y z L0 h.reads h'.reads
  have EX0 : Hid (∀ (w' : World) (y z : Value) (B C : Nat), En.Row w' B y X0 → En.Row w' C z X0 → Calls Try.prog 12 #[y, z] w' fun e w'' => e = .returned (.bool true) ∧ Below w'.heap.size w' w'') := fun w' y z B C h h' => En.eq_same w' y z X0 h.reads h'.reads
  have HX0 : Hid (List.length X0 ≤ 1048576) := hX0
  clear SA IA hX0 h0 f0
  have BBwa : Hid (Below wa.heap.size wa wa) := Below.refl _ _
  go_enter Try.func3, Try.ntmps3
  go_wp2_with fail
  rw [← HWA.out]
  clear HWA
  refine (SZ0.out wa 1048576 BBwa.out (by omega) (by omega)).mono ?_
  rintro e w1 ⟨⟨z0, e', y0, l0⟩, b⟩
  subst e'
  have ZZw1 : Hid (wa.heap.size ≤ w1.heap.size) := b.size
  have BBw1 : Hid (Below wa.heap.size wa w1) := BBwa.out.trans (b.mono BBwa.out.size)
  clear b
  by_cases hneg0 : z0 < 0
  · go_wp2_with fail
    go_ret
    exact ⟨rfl, (BW.out.trans ((BBw1.out).mono BW.out.size))⟩
  have HL0 : Hid (En.Fine L0) := y0 (by omega)
  obtain ⟨k1_0, k1_1, k1_2, k1_3, k1_4⟩ := KB1.out w1 BBw1.out
  go_wp2_with fail
  refine (SZ1.out w1 z0 (by omega) l0).mono ?_
  rintro e w2 ⟨⟨z1, e', y1, l1⟩, b⟩
  subst e'
  clear k1_0 k1_1 k1_2 k1_3 k1_4
  have ZZw2 : Hid (w1.heap.size ≤ w2.heap.size) := b.size
  have BBw2 : Hid (Below wa.heap.size wa w2) := BBw1.out.trans (b.mono BBw1.out.size)
  clear b
  by_cases hneg1 : z1 < 0
  · go_wp2_with fail
    go_ret
    exact ⟨rfl, (BW.out.trans ((BBw2.out).mono BW.out.size))⟩
  have HL1 : Hid ((a1_0).size ≤ 1048576) := y1 (by omega)
  obtain ⟨k1_0, k1_1, k1_2, k1_3, k1_4⟩ := KB1.out w2 BBw2.out
  have BBw2d : Hid (Below wa.heap.size wa w2.drew) := BBw2.out.drew
  go_wp2_with fail
  go_region_held3 (fun w' => w'.cell? ⟨w.heap.size, 0, none⟩ = some (.string a1_0) ∧ w'.cell? ⟨w.heap.size, 1, none⟩ = some (.int .i64 a1_1) ∧ w'.cell? ⟨w.heap.size, 2, none⟩ = some (.int .i64 a1_2) ∧ w'.cell? ⟨w.heap.size, 3, none⟩ = some (.int .i64 a1_3) ∧ w'.cell? ⟨w.heap.size, 4, none⟩ = some (.int .i64 a1_4)) (go_keep)
    (first
    | (go_at_call 9; refine (TO0.out HL0.out _ BBw2d.out).mono ?_; rintro e w3 ⟨up0, e', r, b⟩; subst e'; have ZZw3 : Hid (w2.heap.size ≤ w3.heap.size) := b.size; have BBw3 : Hid (Below wa.heap.size wa w3) := BBw2d.out.trans (b.mono BBw2d.out.size); have Rp0_w3 : Hid (En.Row w3 w2.heap.size up0 L0) := r; have LTp0 : Hid (∀ k, (up0).ownBlock = some k → w2.heap.size ≤ k ∧ k < w3.heap.size) := fun k hk => Rp0_w3.out.lt k hk; clear r; clear b; obtain ⟨d1_w3_0, d1_w3_1, d1_w3_2, d1_w3_3, d1_w3_4⟩ := KB1.out w3 BBw3.out)
    | (go_at_call 10; refine (TO1.out _).mono ?_; rintro e w4 ⟨e', b⟩; subst e'; have ZZw4 : Hid (w3.heap.size ≤ w4.heap.size) := b.size; have BBw4 : Hid (Below wa.heap.size wa w4) := BBw3.out.trans (b.mono BBw3.out.size); have Rp0_w4 : Hid (En.Row w4 w2.heap.size up0 L0) := Rp0_w3.out.on b; clear b; clear Rp0_w3; obtain ⟨d1_w4_0, d1_w4_1, d1_w4_2, d1_w4_3, d1_w4_4⟩ := KB1.out w4 BBw4.out)
    | (go_at_call 8; refine (SU.out HL0.out HL1.out _ _ _ Rp0_w4.out).mono ?_; rintro e w5 ⟨us0, e', rr0, b⟩; subst e'; have ZZw5 : Hid (w4.heap.size ≤ w5.heap.size) := b.size; have BBw5 : Hid (Below wa.heap.size wa w5) := BBw4.out.trans (b.mono BBw4.out.size); have Rp0_w5 : Hid (En.Row w5 w2.heap.size up0 L0) := Rp0_w4.out.on b; have Rs0_w5 : Hid (En.Row w5 w4.heap.size us0 X0) := rr0; have LTs0 : Hid (∀ k, (us0).ownBlock = some k → w4.heap.size ≤ k ∧ k < w5.heap.size) := fun k hk => Rs0_w5.out.lt k hk; clear rr0; clear b; clear Rp0_w4; obtain ⟨d1_w5_0, d1_w5_1, d1_w5_2, d1_w5_3, d1_w5_4⟩ := KB1.out w5 BBw5.out))
  clear k1_0 k1_1 k1_2 k1_3 k1_4
  clear Rp0_w5
  go_wp2_with fail
  refine (TO0.out HL0.out w5 BBw5.out).mono ?_
  rintro e w6 ⟨ux0, e', r, b⟩
  subst e'
  have ZZw6 : Hid (w5.heap.size ≤ w6.heap.size) := b.size
  have BBw6 : Hid (Below wa.heap.size wa w6) := BBw5.out.trans (b.mono BBw5.out.size)
  have Rs0_w6 : Hid (En.Row w6 w4.heap.size us0 X0) := Rs0_w5.out.on b
  have Rx0_w6 : Hid (En.Row w6 w5.heap.size ux0 L0) := r
  have LTx0 : Hid (∀ k, (ux0).ownBlock = some k → w5.heap.size ≤ k ∧ k < w6.heap.size) := fun k hk => Rx0_w6.out.lt k hk
  clear r
  clear b
  clear Rs0_w5
  obtain ⟨k1_0, k1_1, k1_2, k1_3, k1_4⟩ := KB1.out w6 BBw6.out
  go_wp2_with fail
  refine (TO1.out w6).mono ?_
  rintro e w7 ⟨e', b⟩
  subst e'
  clear k1_0 k1_1 k1_2 k1_3 k1_4
  have ZZw7 : Hid (w6.heap.size ≤ w7.heap.size) := b.size
  have BBw7 : Hid (Below wa.heap.size wa w7) := BBw6.out.trans (b.mono BBw6.out.size)
  have Rs0_w7 : Hid (En.Row w7 w4.heap.size us0 X0) := Rs0_w6.out.on b
  have Rx0_w7 : Hid (En.Row w7 w5.heap.size ux0 L0) := Rx0_w6.out.on b
  clear b
  clear Rs0_w6 Rx0_w6
  go_wp2_with fail
  refine (IU.out HL0.out HL1.out w7 _ _ Rx0_w7.out).mono ?_
  rintro e w8 ⟨ug0, e', rr0, b⟩
  subst e'
  have ZZw8 : Hid (w7.heap.size ≤ w8.heap.size) := b.size
  have BBw8 : Hid (Below wa.heap.size wa w8) := BBw7.out.trans (b.mono BBw7.out.size)
  have Rs0_w8 : Hid (En.Row w8 w4.heap.size us0 X0) := Rs0_w7.out.on b
  have Rx0_w8 : Hid (En.Row w8 w5.heap.size ux0 L0) := Rx0_w7.out.on b
  have Rg0_w8 : Hid (En.Row w8 w7.heap.size ug0 X0) := rr0
  have LTg0 : Hid (∀ k, (ug0).ownBlock = some k → w7.heap.size ≤ k ∧ k < w8.heap.size) := fun k hk => Rg0_w8.out.lt k hk
  clear rr0
  clear b
  clear Rs0_w7 Rx0_w7
  go_wp2_with fail
  refine (EX0.out w8 _ _ _ _ Rg0_w8.out Rs0_w8.out).mono ?_
  rintro e w9 ⟨e', b⟩
  subst e'
  have ZZw9 : Hid (w8.heap.size ≤ w9.heap.size) := b.size
  have BBw9 : Hid (Below wa.heap.size wa w9) := BBw8.out.trans (b.mono BBw8.out.size)
  have Rs0_w9 : Hid (En.Row w9 w4.heap.size us0 X0) := Rs0_w8.out.on b
  have Rx0_w9 : Hid (En.Row w9 w5.heap.size ux0 L0) := Rx0_w8.out.on b
  have Rg0_w9 : Hid (En.Row w9 w7.heap.size ug0 X0) := Rg0_w8.out.on b
  clear b
  clear Rs0_w8 Rx0_w8 Rg0_w8
  go_wp2_with fail
  refine (TO0.out HL0.out w9 BBw9.out).mono ?_
  rintro e w10 ⟨uy0, e', r, b⟩
  subst e'
  have ZZw10 : Hid (w9.heap.size ≤ w10.heap.size) := b.size
  have BBw10 : Hid (Below wa.heap.size wa w10) := BBw9.out.trans (b.mono BBw9.out.size)
  have Rs0_w10 : Hid (En.Row w10 w4.heap.size us0 X0) := Rs0_w9.out.on b
  have Rx0_w10 : Hid (En.Row w10 w5.heap.size ux0 L0) := Rx0_w9.out.on b
  have Rg0_w10 : Hid (En.Row w10 w7.heap.size ug0 X0) := Rg0_w9.out.on b
  have Ry0_w10 : Hid (En.Row w10 w9.heap.size uy0 L0) := r
  have LTy0 : Hid (∀ k, (uy0).ownBlock = some k → w9.heap.size ≤ k ∧ k < w10.heap.size) := fun k hk => Ry0_w10.out.lt k hk
  clear r
  clear b
  clear Rs0_w9 Rx0_w9 Rg0_w9
  go_wp2_with fail
  refine (EQ0.out w10 _ _ _ _ Rx0_w10.out Ry0_w10.out).mono ?_
  rintro e w11 ⟨e', b⟩
  subst e'
  have ZZw11 : Hid (w10.heap.size ≤ w11.heap.size) := b.size
  have BBw11 : Hid (Below wa.heap.size wa w11) := BBw10.out.trans (b.mono BBw10.out.size)
  have Rs0_w11 : Hid (En.Row w11 w4.heap.size us0 X0) := Rs0_w10.out.on b
  have Rx0_w11 : Hid (En.Row w11 w5.heap.size ux0 L0) := Rx0_w10.out.on b
  have Rg0_w11 : Hid (En.Row w11 w7.heap.size ug0 X0) := Rg0_w10.out.on b
  have Ry0_w11 : Hid (En.Row w11 w9.heap.size uy0 L0) := Ry0_w10.out.on b
  clear b
  clear Rs0_w10 Rx0_w10 Rg0_w10 Ry0_w10
  clear Ry0_w11
  go_wp2_with fail
  obtain ⟨xsx0, hox0, _⟩ := Rx0_w11.out
  refine (En.mark_any w11 _ _ _ xsx0 (HL0.out).1 hox0).mono ?_
  rintro e w12 ⟨e', r, g⟩
  subst e'
  clear hox0
  have ZZw12 : Hid (w11.heap.size ≤ w12.heap.size) := g.size
  have BBw12 : Hid (Below wa.heap.size wa w12) := BBw11.out.grown g BBw11.out.size (fun k hk => by have q0 := ZZw1.out; have q1 := ZZw2.out; have q2 := ZZw3.out; have q3 := ZZw4.out; have q4 := ZZw5.out; have q5 := ZZw6.out; have q6 := ZZw7.out; have q7 := ZZw8.out; have q8 := ZZw9.out; have q9 := ZZw10.out; have q10 := ZZw11.out; have q11 := ZZw12.out; have := LTx0.out k hk; have := BBw11.out.size; omega)
  have Rs0_w12 : Hid (En.Row w12 w4.heap.size us0 X0) := Rs0_w11.out.grown g (fun k hk hj => by have q0 := ZZw1.out; have q1 := ZZw2.out; have q2 := ZZw3.out; have q3 := ZZw4.out; have q4 := ZZw5.out; have q5 := ZZw6.out; have q6 := ZZw7.out; have q7 := ZZw8.out; have q8 := ZZw9.out; have q9 := ZZw10.out; have q10 := ZZw11.out; have q11 := ZZw12.out; have := LTs0.out k hk; have := LTx0.out k hj; omega)
  have Rg0_w12 : Hid (En.Row w12 w7.heap.size ug0 X0) := Rg0_w11.out.grown g (fun k hk hj => by have q0 := ZZw1.out; have q1 := ZZw2.out; have q2 := ZZw3.out; have q3 := ZZw4.out; have q4 := ZZw5.out; have q5 := ZZw6.out; have q6 := ZZw7.out; have q7 := ZZw8.out; have q8 := ZZw9.out; have q9 := ZZw10.out; have q10 := ZZw11.out; have q11 := ZZw12.out; have := LTg0.out k hk; have := LTx0.out k hj; omega)
  have Rx0_w12 : Hid (En.Row w12 w5.heap.size ux0 (En.mks (List.length L0))) := r
  clear r g
  clear Rs0_w11 Rx0_w11 Rg0_w11
  have hk0 : ¬ (1 + (List.length L0 : Int) * 5) < 0 := by omega
  clear Rx0_w12
  go_wp2_with fail
  refine (EX0.out w12 _ _ _ _ Rg0_w12.out Rs0_w12.out).mono ?_
  rintro e w13 ⟨e', b⟩
  subst e'
  have ZZw13 : Hid (w12.heap.size ≤ w13.heap.size) := b.size
  have BBw13 : Hid (Below wa.heap.size wa w13) := BBw12.out.trans (b.mono BBw12.out.size)
  have Rs0_w13 : Hid (En.Row w13 w4.heap.size us0 X0) := Rs0_w12.out.on b
  have Rg0_w13 : Hid (En.Row w13 w7.heap.size ug0 X0) := Rg0_w12.out.on b
  clear b
  clear Rs0_w12 Rg0_w12
  go_wp2_with fail
  obtain ⟨xsg0, hog0, _⟩ := Rg0_w13.out
  refine (En.mark_any w13 _ _ _ xsg0 HX0.out hog0).mono ?_
  rintro e w14 ⟨e', r, g⟩
  subst e'
  clear hog0
  have ZZw14 : Hid (w13.heap.size ≤ w14.heap.size) := g.size
  have BBw14 : Hid (Below wa.heap.size wa w14) := BBw13.out.grown g BBw13.out.size (fun k hk => by have q0 := ZZw1.out; have q1 := ZZw2.out; have q2 := ZZw3.out; have q3 := ZZw4.out; have q4 := ZZw5.out; have q5 := ZZw6.out; have q6 := ZZw7.out; have q7 := ZZw8.out; have q8 := ZZw9.out; have q9 := ZZw10.out; have q10 := ZZw11.out; have q11 := ZZw12.out; have q12 := ZZw13.out; have q13 := ZZw14.out; have := LTg0.out k hk; have := BBw13.out.size; omega)
  have Rs0_w14 : Hid (En.Row w14 w4.heap.size us0 X0) := Rs0_w13.out.grown g (fun k hk hj => by have q0 := ZZw1.out; have q1 := ZZw2.out; have q2 := ZZw3.out; have q3 := ZZw4.out; have q4 := ZZw5.out; have q5 := ZZw6.out; have q6 := ZZw7.out; have q7 := ZZw8.out; have q8 := ZZw9.out; have q9 := ZZw10.out; have q10 := ZZw11.out; have q11 := ZZw12.out; have q12 := ZZw13.out; have q13 := ZZw14.out; have := LTs0.out k hk; have := LTg0.out k hj; omega)
  have Rg0_w14 : Hid (En.Row w14 w7.heap.size ug0 (En.mks (List.length X0))) := r
  clear r g
  clear Rs0_w13 Rg0_w13
  have hm0 : ¬ (1 + (List.length X0 : Int) * 5) < 0 := by omega
  have hmm : ((1 + (List.length X0 : Int) * 5) != (1 + (List.length X0 : Int) * 5)) = false := hii _
  go_wp2_with fail
  refine (En.held_any w14 _ (List.length X0) HX0.out Rg0_w14.out.reads).mono ?_
  rintro e w15 ⟨e', b⟩
  subst e'
  have ZZw15 : Hid (w14.heap.size ≤ w15.heap.size) := b.size
  have BBw15 : Hid (Below wa.heap.size wa w15) := BBw14.out.trans (b.mono BBw14.out.size)
  have Rs0_w15 : Hid (En.Row w15 w4.heap.size us0 X0) := Rs0_w14.out.on b
  have Rg0_w15 : Hid (En.Row w15 w7.heap.size ug0 (En.mks (List.length X0))) := Rg0_w14.out.on b
  clear b
  clear Rs0_w14 Rg0_w14
  obtain ⟨k1_0, k1_1, k1_2, k1_3, k1_4⟩ := KB1.out w15 BBw15.out
  have BBw15d : Hid (Below wa.heap.size wa w15.drew) := BBw15.out.drew
  have Rs0_w15d : Hid (En.Row w15.drew w4.heap.size us0 X0) := Rs0_w15.out
  have Rg0_w15d : Hid (En.Row w15.drew w7.heap.size ug0 (En.mks (List.length X0))) := Rg0_w15.out
  go_wp2_with fail
  go_region_held3 (fun w' => w'.cell? ⟨w.heap.size, 0, none⟩ = some (.string a1_0) ∧ w'.cell? ⟨w.heap.size, 1, none⟩ = some (.int .i64 a1_1) ∧ w'.cell? ⟨w.heap.size, 2, none⟩ = some (.int .i64 a1_2) ∧ w'.cell? ⟨w.heap.size, 3, none⟩ = some (.int .i64 a1_3) ∧ w'.cell? ⟨w.heap.size, 4, none⟩ = some (.int .i64 a1_4)) (go_keep)
    (first
    | (go_at_call 9; refine (TO0.out HL0.out _ BBw15d.out).mono ?_; rintro e w16 ⟨uq0, e', r, b⟩; subst e'; have ZZw16 : Hid (w15.heap.size ≤ w16.heap.size) := b.size; have BBw16 : Hid (Below wa.heap.size wa w16) := BBw15d.out.trans (b.mono BBw15d.out.size); have Rs0_w16 : Hid (En.Row w16 w4.heap.size us0 X0) := Rs0_w15d.out.on b; have Rg0_w16 : Hid (En.Row w16 w7.heap.size ug0 (En.mks (List.length X0))) := Rg0_w15d.out.on b; have Rq0_w16 : Hid (En.Row w16 w15.heap.size uq0 L0) := r; have LTq0 : Hid (∀ k, (uq0).ownBlock = some k → w15.heap.size ≤ k ∧ k < w16.heap.size) := fun k hk => Rq0_w16.out.lt k hk; clear r; clear b; clear Rs0_w15d Rg0_w15d; obtain ⟨d1_w16_0, d1_w16_1, d1_w16_2, d1_w16_3, d1_w16_4⟩ := KB1.out w16 BBw16.out)
    | (go_at_call 10; refine (TO1.out _).mono ?_; rintro e w17 ⟨e', b⟩; subst e'; have ZZw17 : Hid (w16.heap.size ≤ w17.heap.size) := b.size; have BBw17 : Hid (Below wa.heap.size wa w17) := BBw16.out.trans (b.mono BBw16.out.size); have Rs0_w17 : Hid (En.Row w17 w4.heap.size us0 X0) := Rs0_w16.out.on b; have Rg0_w17 : Hid (En.Row w17 w7.heap.size ug0 (En.mks (List.length X0))) := Rg0_w16.out.on b; have Rq0_w17 : Hid (En.Row w17 w15.heap.size uq0 L0) := Rq0_w16.out.on b; clear b; clear Rs0_w16 Rg0_w16 Rq0_w16; obtain ⟨d1_w17_0, d1_w17_1, d1_w17_2, d1_w17_3, d1_w17_4⟩ := KB1.out w17 BBw17.out)
    | (go_at_call 11; refine (IU.out HL0.out HL1.out _ _ _ Rq0_w17.out).mono ?_; rintro e w18 ⟨uh0, e', rr0, b⟩; subst e'; have ZZw18 : Hid (w17.heap.size ≤ w18.heap.size) := b.size; have BBw18 : Hid (Below wa.heap.size wa w18) := BBw17.out.trans (b.mono BBw17.out.size); have Rs0_w18 : Hid (En.Row w18 w4.heap.size us0 X0) := Rs0_w17.out.on b; have Rg0_w18 : Hid (En.Row w18 w7.heap.size ug0 (En.mks (List.length X0))) := Rg0_w17.out.on b; have Rq0_w18 : Hid (En.Row w18 w15.heap.size uq0 L0) := Rq0_w17.out.on b; have Rh0_w18 : Hid (En.Row w18 w17.heap.size uh0 X0) := rr0; have LTh0 : Hid (∀ k, (uh0).ownBlock = some k → w17.heap.size ≤ k ∧ k < w18.heap.size) := fun k hk => Rh0_w18.out.lt k hk; clear rr0; clear b; clear Rs0_w17 Rg0_w17 Rq0_w17; obtain ⟨d1_w18_0, d1_w18_1, d1_w18_2, d1_w18_3, d1_w18_4⟩ := KB1.out w18 BBw18.out))
  clear k1_0 k1_1 k1_2 k1_3 k1_4
  clear Rq0_w18
  go_wp2_with fail
  refine (EX0.out w18 _ _ _ _ Rh0_w18.out Rs0_w18.out).mono ?_
  rintro e w19 ⟨e', b⟩
  subst e'
  have ZZw19 : Hid (w18.heap.size ≤ w19.heap.size) := b.size
  have BBw19 : Hid (Below wa.heap.size wa w19) := BBw18.out.trans (b.mono BBw18.out.size)
  have Rs0_w19 : Hid (En.Row w19 w4.heap.size us0 X0) := Rs0_w18.out.on b
  have Rg0_w19 : Hid (En.Row w19 w7.heap.size ug0 (En.mks (List.length X0))) := Rg0_w18.out.on b
  have Rh0_w19 : Hid (En.Row w19 w17.heap.size uh0 X0) := Rh0_w18.out.on b
  clear b
  clear Rs0_w18 Rg0_w18 Rh0_w18
  go_wp2_with fail
  refine (En.held_any w19 _ (List.length X0) HX0.out Rg0_w19.out.reads).mono ?_
  rintro e w20 ⟨e', b⟩
  subst e'
  have ZZw20 : Hid (w19.heap.size ≤ w20.heap.size) := b.size
  have BBw20 : Hid (Below wa.heap.size wa w20) := BBw19.out.trans (b.mono BBw19.out.size)
  have Rs0_w20 : Hid (En.Row w20 w4.heap.size us0 X0) := Rs0_w19.out.on b
  have Rg0_w20 : Hid (En.Row w20 w7.heap.size ug0 (En.mks (List.length X0))) := Rg0_w19.out.on b
  have Rh0_w20 : Hid (En.Row w20 w17.heap.size uh0 X0) := Rh0_w19.out.on b
  clear b
  clear Rs0_w19 Rg0_w19 Rh0_w19
  go_wp2_with fail
  go_ret
  exact ⟨rfl, (BW.out.trans ((BBw20.out).mono BW.out.size))⟩
end Go.Proofs.Ytniejbefkijenaa.LawStL
