/- The law walked; what model and program answer comes in as hypotheses. -/
import Derived.Test.YtbajableobaalaaFsN
import Derived.Test.YtbajableobaalaaBk
import Derived.Test.YtbajableobaalaaRmH
namespace Go.Proofs.Ytbajableobaalaa.LawFlL
open Go.ChangeShapes Go.WideShapes Go.ChangeAt Go.RowKit
open Go.Proofs.Ytbajableobaalaa.Lists

theorem below_drewN {B : Nat} {a w : World} (h : Below B a w) (n : Nat) : Below B a (w.drewN n) := h.trans ⟨rfl, rfl, rfl, Nat.le_refl _, fun _ _ => rfl⟩
theorem row_on {w w' : World} {base n : Nat} {v : Value} {xs : List Value} (h : w.ownsRow base 2 1 v n xs) (hb : Below w.heap.size w w') : w'.ownsRow base 2 1 v n xs := by
  refine h.kept (row := none) ⟨hb.os, hb.tape, hb.output, hb.size, fun k hk _ => hb.block k hk⟩ ?_
  by_cases e : v.ownBlock = none
  · exact Or.inl e
  · exact Or.inr e
theorem row_off {w w' : World} {base n : Nat} {row : Option Nat} {v : Value} {xs : List Value} (h : w.ownsRow base 2 1 v n xs) (hg : w.grownBy w' row) (hne : ∀ k j, v.ownBlock = some k → row = some j → k ≠ j) : w'.ownsRow base 2 1 v n xs := by
  refine h.kept hg ?_
  cases e : v.ownBlock with
  | none => exact Or.inl rfl
  | some k => exact Or.inr fun x => hne k k e x.symm rfl
structure ZB (x : World) (k : Nat) : Prop where
  bx : Bk.Box x k (.slice none 0 0) (.int .i64 0) (.int .i64 0)
  fz : ∀ j, x.frozen? ⟨k, j, none⟩ = false
  lt : k < x.heap.size
theorem ZB.on {x y : World} {k : Nat} (h : ZB x k) (b : Below x.heap.size x y) : ZB y k := ⟨h.bx.on b h.lt, fun j => (b.frozen (p := ⟨k, j, none⟩) h.lt).trans (h.fz j), Nat.lt_of_lt_of_le h.lt b.size⟩
theorem ZB.new {x y : World} (b : Below (x.alloc (Obj.cells #[.slice none 0 0, .int .i64 0, .int .i64 0] 26)).heap.size (x.alloc (Obj.cells #[.slice none 0 0, .int .i64 0, .int .i64 0] 26)) y) : ZB y x.heap.size :=
  ZB.on ⟨by unfold Bk.Box; simp [go_sem], fun j => by simp [go_sem], by simp⟩ b
theorem ZB.newd {x y : World} (b : Below (x.alloc (Obj.cells #[.slice none 0 0, .int .i64 0, .int .i64 0] 26)).drew.heap.size (x.alloc (Obj.cells #[.slice none 0 0, .int .i64 0, .int .i64 0] 26)).drew y) : ZB y x.heap.size :=
  ZB.new ((Below.refl _ _).drew.trans (b.mono (by simp)))
theorem cell_al {w : World} {g x : Nat} {u : Value} {ob : Obj} (h : w.cell? ⟨g, x, none⟩ = some u) : (w.alloc ob).cell? ⟨g, x, none⟩ = some u := by
  rw [World.cell?_alloc_some w _ ob (by rw [h]; rfl)]; exact h
theorem ZB.newd2 {x y : World} (b : Below (x.drew.alloc (Obj.cells #[.slice none 0 0, .int .i64 0, .int .i64 0] 26)).heap.size (x.drew.alloc (Obj.cells #[.slice none 0 0, .int .i64 0, .int .i64 0] 26)) y) : ZB y x.heap.size := ZB.on ⟨by unfold Bk.Box; simp [go_sem], fun j => by simp [go_sem], by simp⟩ b
theorem cell_put {w : World} {g x k j : Nat} {u v : Value} (h : w.cell? ⟨g, x, none⟩ = some u) (hne : ¬ g = k) : (w.setCell ⟨k, j, none⟩ v).cell? ⟨g, x, none⟩ = some u :=
  (grown_setCell (World.grownBy.refl w (some k)) j v).cell h (fun e => hne (by cases e; rfl))
structure AN (W wx : World) (k : Nat) (u : Value) (X : List Int) (o z : Int) : Prop where
  bl : Below W.heap.size W wx
  bx : Bk.Box wx k u (.int .i64 o) (.int .i64 z)
  row : wx.ownsRow W.heap.size 2 1 u X.length (ints X)
  ge : W.heap.size ≤ k
  lt : k < wx.heap.size
theorem AN.new {W y : World} {B : Nat} {u : Value} {X : List Int} (o z : Int) (P : Below W.heap.size W y) (t : y.ownsRow B 2 1 u X.length (ints X)) (hB : W.heap.size ≤ B) : AN W (y.alloc (Obj.cells #[u, .int .i64 o, .int .i64 z] 26)) y.heap.size u X o z :=
  ⟨P.alloc P.size _, by unfold Bk.Box; simp [go_sem], row_on (Bk.own_down t hB) ((Below.refl _ _).alloc (Nat.le_refl _) _), P.size, by simp⟩
theorem AN.all {W y : World} {B k : Nat} {u : Value} {X : List Int} (o z : Int) (P : Below W.heap.size W y) (t : y.ownsRow B 2 1 u X.length (ints X)) (h : ZB y k) (hk : W.heap.size ≤ k) (hB : k < B) : AN W (((y.setCell ⟨k, 0, none⟩ u).setCell ⟨k, 1, none⟩ (.int .i64 o)).setCell ⟨k, 2, none⟩ (.int .i64 z)) k u X o z := by
  obtain ⟨b0, b1, b2⟩ := h.bx
  refine ⟨((P.setCell (p := ⟨k, 0, none⟩) hk _).setCell (p := ⟨k, 1, none⟩) hk _).setCell (p := ⟨k, 2, none⟩) hk _, ⟨?_, ?_, ?_⟩, ?_, hk, by simpa using h.lt⟩
  · simp [go_sem, b0]
  · simp [go_sem, b1]
  · simp [go_sem, b2]
  · exact Bk.own_down (Bk.row_set (Bk.row_set (Bk.row_set t _ _ _ hB) _ _ _ hB) _ _ _ hB) (by omega)

set_option maxRecDepth 20000 in
set_option maxHeartbeats 8000000 in
theorem flowLaw (w : World) (v0 : Value) (L0 : List Int) (h0 : Lists.Reads w v0 L0) (f0 : L0.length < 9223372036854775808) (a1_1 a1_2 : Int) (v1 : Value) (L1 : List Int) (h1 : Lists.Reads w v1 L1) (f1 : L1.length < 9223372036854775808) (v2 : Value) (L2 : List Int) (h2 : Lists.Reads w v2 L2) (f2 : L2.length < 9223372036854775808) (r0_1 r0_2 : Int) (X0 : List Int) (hX0 : X0.length ≤ 1000) (b1 : Bool)
    (SA : ∀ (w : World) (t0 t1 t2 : Value), Lists.Reads w t0 L0 → Lists.Reads w t1 L1 → Lists.Reads w t2 L2 → Calls Try.prog 5 #[t0, Bk.sv a1_1 a1_2 t1, t2] w fun e w' => ∃ u0, e = .returned (.tuple #[Bk.sv r0_1 r0_2 u0, .bool b1]) ∧ w'.ownsRow w.heap.size 2 1 u0 X0.length (ints X0) ∧ Below w.heap.size w w')
    (IA : ∀ (w : World) (t0 t1 t2 : Value), Lists.Reads w t0 L0 → Lists.Reads w t1 L1 → Lists.Reads w t2 L2 → Calls Try.prog 8 #[t0, Bk.sv a1_1 a1_2 t1, t2] w fun e w' => ∃ u0, e = .returned (.tuple #[Bk.sv r0_1 r0_2 u0, .bool b1]) ∧ w'.ownsRow w.heap.size 2 1 u0 X0.length (ints X0) ∧ Below w.heap.size w w') :
    Calls Try.prog 3 #[v0, Bk.sv a1_1 a1_2 v1, v2] w fun e w' => e = .returned (.bool true) ∧ Below w.heap.size w w' := by
  obtain ⟨s0, c0, rfl⟩ := h0.form
  obtain ⟨s1, c1, rfl⟩ := h1.form
  obtain ⟨s2, c2, rfl⟩ := h2.form
  by_cases g0 : 1048576 < L0.length
  · have i1 : (1048576 : Int) < (L0.length : Int) := by omega
    have EB : Hid (Below w.heap.size w (w.alloc (Obj.cells #[.slice s1 L1.length c1, .int .i64 a1_1, .int .i64 a1_2] 24))) := ((Below.refl w.heap.size w).alloc (Nat.le_refl _) _)
    go_enter Try.func3, Try.ntmps3
    go_wp2_with fail
    go_ret
    exact ⟨rfl, EB.out⟩
  have j0 : ¬ (1048576 : Int) < (L0.length : Int) := by omega
  by_cases g2 : 1048576 < L2.length
  · have i1 : (1048576 : Int) < (L2.length : Int) := by omega
    have EB : Hid (Below w.heap.size w (w.alloc (Obj.cells #[.slice s1 L1.length c1, .int .i64 a1_1, .int .i64 a1_2] 24))) := ((Below.refl w.heap.size w).alloc (Nat.le_refl _) _)
    go_enter Try.func3, Try.ntmps3
    go_wp2_with fail
    go_ret
    exact ⟨rfl, EB.out⟩
  have j2 : ¬ (1048576 : Int) < (L2.length : Int) := by omega
  have TO0 : Hid (∀ w', Below w.heap.size w w' → Calls Try.prog 6 #[.slice s0 L0.length c0] w' fun e w'' => e = .returned (.slice (some ⟨w'.heap.size, 0, none⟩) L0.length L0.length) ∧ w''.ownsRow w'.heap.size 2 1 (.slice (some ⟨w'.heap.size, 0, none⟩) L0.length L0.length) L0.length (ints L0) ∧ Below w'.heap.size w' w'') := fun w' hb => to_any w' _ L0 (h0.on hb) (by omega)
  have SZ1 : Hid (∀ (w' : World) (l : Int), 0 ≤ l → l ≤ 1048576 → Calls Try.prog 4 #[Bk.sv a1_1 a1_2 (.slice s1 L1.length c1), .int .i64 l] w' fun e w'' => (∃ r : Int, e = .returned (.int .i64 r) ∧ (0 ≤ r → L1.length ≤ 1048576) ∧ r ≤ 1048576) ∧ Below w'.heap.size w' w'') := fun w' l q0 q1 => Bk.sz_any a1_1 a1_2 s1 L1.length c1 l w' q0 q1 f1
  have TO1 : Hid (L1.length ≤ 1048576 → ∀ w', Below w.heap.size w w' → Calls Try.prog 7 #[Bk.sv a1_1 a1_2 (.slice s1 L1.length c1)] w' fun e w'' => ∃ g, e = .returned (Bk.sv a1_1 a1_2 (.slice (some ⟨g, 0, none⟩) L1.length L1.length)) ∧ w''.ownsRow w'.heap.size 2 1 (.slice (some ⟨g, 0, none⟩) L1.length L1.length) L1.length (ints L1) ∧ Below w'.heap.size w' w'') := fun hl w' hb => Bk.to_st a1_1 a1_2 L1 _ w' (h1.on hb) hl
  have EQ1 : Hid (∀ w' A B t u, w'.ownsRow A 2 1 t L1.length (ints L1) → w'.ownsRow B 2 1 u L1.length (ints L1) → Calls Try.prog 9 #[Bk.sv a1_1 a1_2 t, Bk.sv a1_1 a1_2 u] w' fun e w'' => e = .returned (.bool true) ∧ Below w'.heap.size w' w'') := fun w' A B t u h h' => Bk.eq_st a1_1 a1_2 L1 t u A B w' h h'
  have TO2 : Hid (∀ w', Below w.heap.size w w' → Calls Try.prog 6 #[.slice s2 L2.length c2] w' fun e w'' => e = .returned (.slice (some ⟨w'.heap.size, 0, none⟩) L2.length L2.length) ∧ w''.ownsRow w'.heap.size 2 1 (.slice (some ⟨w'.heap.size, 0, none⟩) L2.length L2.length) L2.length (ints L2) ∧ Below w'.heap.size w' w'') := fun w' hb => to_any w' _ L2 (h2.on hb) (by omega)
  have SU : Hid (∀ (w' : World) (B0 B1 B2 : Nat) (t0 t1 t2 : Value), w'.ownsRow B0 2 1 t0 L0.length (ints L0) → w'.ownsRow B1 2 1 t1 L1.length (ints L1) → w'.ownsRow B2 2 1 t2 L2.length (ints L2) → Calls Try.prog 5 #[t0, Bk.sv a1_1 a1_2 t1, t2] w' fun e w'' => ∃ ua uc, e = .returned (.tuple #[Bk.sv r0_1 r0_2 (.slice ua X0.length uc), .bool b1]) ∧ w''.ownsRow w'.heap.size 2 1 (.slice ua X0.length uc) X0.length (ints X0) ∧ Below w'.heap.size w' w'') := fun w' B0 B1 B2 t0 t1 t2 o0 o1 o2 => (SA w' t0 t1 t2 (Lists.reads_row o0) (Lists.reads_row o1) (Lists.reads_row o2)).mono (by rintro e x ⟨u, rfl, r, b⟩; obtain ⟨ua, uc, rfl⟩ := Ct.row_form r; exact ⟨ua, uc, rfl, r, b⟩)
  have IU : Hid (∀ (w' : World) (B0 B1 B2 : Nat) (t0 t1 t2 : Value), w'.ownsRow B0 2 1 t0 L0.length (ints L0) → w'.ownsRow B1 2 1 t1 L1.length (ints L1) → w'.ownsRow B2 2 1 t2 L2.length (ints L2) → Calls Try.prog 8 #[t0, Bk.sv a1_1 a1_2 t1, t2] w' fun e w'' => ∃ ua uc, e = .returned (.tuple #[Bk.sv r0_1 r0_2 (.slice ua X0.length uc), .bool b1]) ∧ w''.ownsRow w'.heap.size 2 1 (.slice ua X0.length uc) X0.length (ints X0) ∧ Below w'.heap.size w' w'') := fun w' B0 B1 B2 t0 t1 t2 o0 o1 o2 => (IA w' t0 t1 t2 (Lists.reads_row o0) (Lists.reads_row o1) (Lists.reads_row o2)).mono (by rintro e x ⟨u, rfl, r, b⟩; obtain ⟨ua, uc, rfl⟩ := Ct.row_form r; exact ⟨ua, uc, rfl, r, b⟩)
  have hbb : ∀ b : Bool, (b != b) = false := fun b => by cases b <;> rfl
  have hii : ∀ b : Int, (b != b) = false := fun b => by simp
  have hqq : ((1 : Int) + (X0.length : Int) != 1 + (X0.length : Int)) = false := by simp
  have hq0 : ¬ (1 : Int) + (X0.length : Int) < 0 := by omega
  have hq1 : ¬ (1 : Int) + (L0.length : Int) + (L1.length : Int) + (L2.length : Int) < 0 := by omega
  have HL0 : Hid (L0.length ≤ 1048576) := (by show _ ≤ _; omega)
  have HL2 : Hid (L2.length ≤ 1048576) := (by show _ ≤ _; omega)
  have HX0 : Hid (X0.length ≤ 1000) := hX0
  clear SA IA hX0 h0 h1 h2 g0 g2 f0 f1 f2
  obtain ⟨wa, hwa⟩ : ∃ wa, wa = (w.alloc (Obj.cells #[.slice s1 L1.length c1, .int .i64 a1_1, .int .i64 a1_2] 24)) := ⟨_, rfl⟩
  have HWA : Hid (wa = (w.alloc (Obj.cells #[.slice s1 L1.length c1, .int .i64 a1_1, .int .i64 a1_2] 24))) := hwa
  have BBwa : Hid (Below w.heap.size w wa) := (by show Below _ _ _; rw [hwa]; exact ((Below.refl w.heap.size w).alloc (Nat.le_refl _) _))
  have ZZwa : Hid (wa.heap.size = w.heap.size + 1) := (by show _ = _; rw [hwa]; simp)
  have Ka1_wa : Hid (Bk.Box wa w.heap.size (.slice s1 L1.length c1) (.int .i64 a1_1) (.int .i64 a1_2)) := (by show Bk.Box _ _ _ _ _; rw [hwa]; unfold Bk.Box; simp [go_sem])
  clear hwa
  go_enter Try.func3, Try.ntmps3
  obtain ⟨ca1_0, ca1_1, ca1_2⟩ := Ka1_wa.out
  go_wp2_with fail
  rw [← HWA.out]
  clear HWA
  refine (SZ1.out wa 1048576 (by omega) (by omega)).mono ?_
  rintro e w1 ⟨⟨z1, rfl, y1, l1⟩, b⟩
  clear ca1_0 ca1_1 ca1_2
  have ZZw1 : Hid (wa.heap.size ≤ w1.heap.size) := b.size
  have BBw1 : Hid (Below w.heap.size w w1) := BBwa.out.trans (b.mono BBwa.out.size)
  have Ka1_w1 : Hid (Bk.Box w1 w.heap.size (.slice s1 L1.length c1) (.int .i64 a1_1) (.int .i64 a1_2)) := Ka1_wa.out.on b (by have q0 := ZZwa.out; have q1 := HL0.out; have q2 := HL2.out; have q3 := HX0.out; omega)
  clear b
  clear Ka1_wa
  by_cases hneg1 : z1 < 0
  · go_wp2_with fail
    go_ret
    exact ⟨rfl, BBw1.out⟩
  have HL1 : Hid (L1.length ≤ 1048576) := y1 (by omega)
  obtain ⟨ca1_0, ca1_1, ca1_2⟩ := Ka1_w1.out
  go_upto_region 9 with fail
  go_cut [8, 9] (fun q r wx => r = .bool b1 ∧ ∃ k ua uc, q = .pointer (some ⟨k, 0, none⟩) ∧ Hid (AN w1 wx k (.slice ua X0.length uc) X0 r0_1 r0_2))
  case first =>
    have BQ := BBw1.out
    have lta1 : w.heap.size < w1.heap.size := by have q0 := ZZwa.out; have q1 := ZZw1.out; have q2 := HL0.out; have q3 := HL1.out; have q4 := HL2.out; have q5 := HX0.out; omega
    clear IU EQ1 SZ1 ZZwa ZZw1 HX0 hqq hq0 hq1 hbb hii
    refine wp_region_held_drew (S := fun w' => w'.cell? ⟨w.heap.size, 0, none⟩ = some (.slice s1 L1.length c1) ∧ w'.cell? ⟨w.heap.size, 1, none⟩ = some (.int .i64 a1_1) ∧ w'.cell? ⟨w.heap.size, 2, none⟩ = some (.int .i64 a1_2)) (by kernel_rfl) ⟨ca1_0, ca1_1, ca1_2⟩ (fun hHeld => ?_)
    refine wpAnyH_take (i := 0) (oi := { dst := some 32, op := Go.Op.move (Go.Operand.tmp 0), type := 22, pos := "exact.go:6370", after := #[], guard := none }) (v := ?_) rfl (by kernel_rfl) (by kernel_rfl) (by kernel_rfl) (fun _ _ _ h => h) (Or.inl ⟨by rfl, ?_⟩) (by assumption) ?_
    rotate_left 1
    · (intro w hSw; (try dsimp only at hSw); go_simp); all_goals (with_reducible rfl)
    try simp only [Act.put, List.setIfInBounds_toArray, List.set_cons_zero, List.set_cons_succ]
    refine wpAnyH_take (i := 2) (oi := { dst := some 34, op := Go.Op.load 24 (Go.Operand.tmp 4), type := 24, pos := "exact.go:6370", after := #[], guard := none }) (v := ?_) rfl (by kernel_rfl) (by kernel_rfl) (by kernel_rfl) (fun _ _ _ h => h) (Or.inl ⟨by rfl, ?_⟩) (by assumption) ?_
    rotate_left 1
    · (intro w hSw; (try dsimp only at hSw); go_simp); all_goals (with_reducible rfl)
    try simp only [Act.put, List.setIfInBounds_toArray, List.set_cons_zero, List.set_cons_succ]
    refine wpAnyH_take (i := 4) (oi := { dst := some 36, op := Go.Op.move (Go.Operand.tmp 2), type := 22, pos := "exact.go:6370", after := #[], guard := none }) (v := ?_) rfl (by kernel_rfl) (by kernel_rfl) (by kernel_rfl) (fun _ _ _ h => h) (Or.inl ⟨by rfl, ?_⟩) (by assumption) ?_
    rotate_left 1
    · (intro w hSw; (try dsimp only at hSw); go_simp); all_goals (with_reducible rfl)
    try simp only [Act.put, List.setIfInBounds_toArray, List.set_cons_zero, List.set_cons_succ]
    refine wpAnyH_ready (rs := [1, 10]) (by kernel_rfl) (by simp) ?_
    refine AllReadyH.cons (o := { dst := some 33, op := Go.Op.call { callee := Go.Callee.value (Go.Operand.func 6), args := #[Go.Operand.tmp 32], argTypes := #[22] }, type := 22, pos := "exact.go:6370", after := #[{ on := 0, ground := Go.Ground.data }], guard := none }) rfl (fun K hK => ?_) (AllReadyH.cons (o := { dst := some 8, op := Go.Op.alloc 26, type := 0, pos := "exact.go:6370", after := #[], guard := none }) rfl (fun K hK => ?_) AllReadyH.nil)
    · skip
      go_simp
      refine (TO0.out w1.drew BQ.drew).mono ?_
      rintro e y0 ⟨rfl, t0, d0⟩
      have P0 : Below w1.heap.size w1 y0 := (Below.refl _ _).drew.trans (d0.mono (by simp))
      have H0 : Below w.heap.size w y0 := BQ.trans (P0.mono BQ.size)
      have q0_0 := t0
      obtain ⟨e0a1_0, e0a1_1, e0a1_2⟩ := Ka1_w1.out.on P0 lta1
      go_wp2_with fail
      refine hK.out _ _ (⟨e0a1_0, e0a1_1, e0a1_2⟩) (fun hHeld2 => ?_)
      clear hK K hHeld
      have hHeld := hHeld2
      clear hHeld2
      try simp only [Act.put, List.setIfInBounds_toArray, List.set_cons_zero, List.set_cons_succ]
      refine wpAnyH_ready (rs := [3, 10]) (by kernel_rfl) (by simp) ?_
      refine AllReadyH.cons (o := { dst := some 35, op := Go.Op.call { callee := Go.Callee.value (Go.Operand.func 7), args := #[Go.Operand.tmp 34], argTypes := #[24] }, type := 26, pos := "exact.go:6370", after := #[{ on := 2, ground := Go.Ground.data }, { on := 1, ground := Go.Ground.chain }], guard := none }) rfl (fun K hK => ?_) (AllReadyH.cons (o := { dst := some 8, op := Go.Op.alloc 26, type := 0, pos := "exact.go:6370", after := #[], guard := none }) rfl (fun K hK => ?_) AllReadyH.nil)
      · skip
        go_simp
        refine (TO1.out HL1.out y0 H0).mono ?_
        rintro e y1 ⟨gy1, rfl, t1, d1⟩
        have D1 : Below y0.heap.size y0 y1 := d1
        have P1 : Below w1.heap.size w1 y1 := P0.trans (D1.mono P0.size)
        have H1 : Below w.heap.size w y1 := BQ.trans (P1.mono BQ.size)
        have q0_1 := row_on q0_0 D1
        have q1_1 := t1
        obtain ⟨e1a1_0, e1a1_1, e1a1_2⟩ := Ka1_w1.out.on P1 lta1
        go_wp2_with fail
        refine hK.out _ _ (⟨e1a1_0, e1a1_1, e1a1_2⟩) (fun hHeld2 => ?_)
        clear hK K hHeld
        have hHeld := hHeld2
        clear hHeld2
        try simp only [Act.put, List.setIfInBounds_toArray, List.set_cons_zero, List.set_cons_succ]
        refine wpAnyH_ready (rs := [5, 10]) (by kernel_rfl) (by simp) ?_
        refine AllReadyH.cons (o := { dst := some 37, op := Go.Op.call { callee := Go.Callee.value (Go.Operand.func 6), args := #[Go.Operand.tmp 36], argTypes := #[22] }, type := 22, pos := "exact.go:6370", after := #[{ on := 4, ground := Go.Ground.data }, { on := 3, ground := Go.Ground.chain }], guard := none }) rfl (fun K hK => ?_) (AllReadyH.cons (o := { dst := some 8, op := Go.Op.alloc 26, type := 0, pos := "exact.go:6370", after := #[], guard := none }) rfl (fun K hK => ?_) AllReadyH.nil)
        · skip
          go_simp
          refine (TO2.out y1 H1).mono ?_
          rintro e y2 ⟨rfl, t2, d2⟩
          have D2 : Below y1.heap.size y1 y2 := d2
          have P2 : Below w1.heap.size w1 y2 := P1.trans (D2.mono P1.size)
          have H2 : Below w.heap.size w y2 := BQ.trans (P2.mono BQ.size)
          have q0_2 := row_on q0_1 D2
          have q1_2 := row_on q1_1 D2
          have q2_2 := t2
          obtain ⟨e2a1_0, e2a1_1, e2a1_2⟩ := Ka1_w1.out.on P2 lta1
          go_wp2_with fail
          refine hK.out _ _ (⟨e2a1_0, e2a1_1, e2a1_2⟩) (fun hHeld2 => ?_)
          clear hK K hHeld
          have hHeld := hHeld2
          clear hHeld2
          try simp only [Act.put, List.setIfInBounds_toArray, List.set_cons_zero, List.set_cons_succ]
          refine wpAnyH_ready (rs := [6, 10]) (by kernel_rfl) (by simp) ?_
          refine AllReadyH.cons (o := { dst := some 38, op := Go.Op.call { callee := Go.Callee.value (Go.Operand.func 5), args := #[Go.Operand.tmp 33, Go.Operand.tmp 35, Go.Operand.tmp 37], argTypes := #[22, 26, 22] }, type := 27, pos := "exact.go:6370", after := #[{ on := 1, ground := Go.Ground.data }, { on := 3, ground := Go.Ground.data }, { on := 5, ground := Go.Ground.data }, { on := 5, ground := Go.Ground.chain }], guard := none }) rfl (fun K hK => ?_) (AllReadyH.cons (o := { dst := some 8, op := Go.Op.alloc 26, type := 0, pos := "exact.go:6370", after := #[], guard := none }) rfl (fun K hK => ?_) AllReadyH.nil)
          · skip
            go_simp
            refine (SU.out y2 _ _ _ _ _ _ q0_2 q1_2 q2_2).mono ?_
            rintro e y3 ⟨ua, uc, rfl, t3, d3⟩
            have D3 : Below y2.heap.size y2 y3 := d3
            have P3 : Below w1.heap.size w1 y3 := P2.trans (D3.mono P2.size)
            have H3 : Below w.heap.size w y3 := BQ.trans (P3.mono BQ.size)
            obtain ⟨e3a1_0, e3a1_1, e3a1_2⟩ := Ka1_w1.out.on P3 lta1
            go_wp2_with fail
            refine hK.out _ _ (⟨e3a1_0, e3a1_1, e3a1_2⟩) (fun hHeld2 => ?_)
            clear hK K hHeld
            have hHeld := hHeld2
            clear hHeld2
            try simp only [Act.put, List.setIfInBounds_toArray, List.set_cons_zero, List.set_cons_succ]
            refine wpAnyH_take (i := 7) (oi := { dst := some 31, op := Go.Op.move (Go.Operand.tmp 38), type := 27, pos := "exact.go:6370", after := #[{ on := 6, ground := Go.Ground.data }], guard := none }) (v := ?_) rfl (by kernel_rfl) (by kernel_rfl) (by kernel_rfl) (fun _ _ _ h => h) (Or.inl ⟨by rfl, ?_⟩) (by assumption) ?_
            rotate_left 1
            · (intro w hSw; (try dsimp only at hSw); go_simp); all_goals (with_reducible rfl)
            try simp only [Act.put, List.setIfInBounds_toArray, List.set_cons_zero, List.set_cons_succ]
            refine wpAnyH_take (i := 8) (oi := { dst := some 39, op := Go.Op.extract (Go.Operand.tmp 31) 0, type := 26, pos := "exact.go:6370", after := #[{ on := 7, ground := Go.Ground.data }], guard := none }) (v := ?_) rfl (by kernel_rfl) (by kernel_rfl) (by kernel_rfl) (fun _ _ _ h => h) (Or.inl ⟨by rfl, ?_⟩) (by assumption) ?_
            rotate_left 1
            · (intro w hSw; (try dsimp only at hSw); go_simp); all_goals (with_reducible rfl)
            try simp only [Act.put, List.setIfInBounds_toArray, List.set_cons_zero, List.set_cons_succ]
            refine wpAnyH_take (i := 9) (oi := { dst := some 40, op := Go.Op.extract (Go.Operand.tmp 31) 1, type := 4, pos := "exact.go:6370", after := #[{ on := 7, ground := Go.Ground.data }, { on := 11, ground := Go.Ground.gcOnly Go.Departure.lateStores }], guard := none }) (v := ?_) rfl (by kernel_rfl) (by kernel_rfl) (by kernel_rfl) (fun _ _ _ h => h) (Or.inl ⟨by rfl, ?_⟩) (by assumption) ?_
            rotate_left 1
            · (intro w hSw; (try dsimp only at hSw); go_simp); all_goals (with_reducible rfl)
            try simp only [Act.put, List.setIfInBounds_toArray, List.set_cons_zero, List.set_cons_succ]
            refine wpAnyH_ready (rs := [10]) (by kernel_rfl) (by simp) ?_
            refine AllReadyH.cons (o := { dst := some 8, op := Go.Op.alloc 26, type := 0, pos := "exact.go:6370", after := #[], guard := none }) rfl (fun K hK => ?_) AllReadyH.nil
            go_simp
            refine hK.out _ _ (⟨cell_al e3a1_0, cell_al e3a1_1, cell_al e3a1_2⟩) (fun hHeld2 => ?_)
            clear hK K hHeld
            have hHeld := hHeld2
            clear hHeld2
            try simp only [Act.put, List.setIfInBounds_toArray, List.set_cons_zero, List.set_cons_succ]
            refine wpAnyH_ready (rs := [11]) (by kernel_rfl) (by simp) ?_
            refine AllReadyH.cons (o := { dst := none, op := Go.Op.store 26 (Go.Operand.tmp 8) (Go.Operand.tmp 39), type := 0, pos := "exact.go:6370", after := #[{ on := 10, ground := Go.Ground.data }, { on := 8, ground := Go.Ground.data }, { on := 6, ground := Go.Ground.chain }, { on := 0, ground := Go.Ground.phase }, { on := 1, ground := Go.Ground.phase }, { on := 2, ground := Go.Ground.phase }, { on := 3, ground := Go.Ground.phase }, { on := 4, ground := Go.Ground.phase }, { on := 5, ground := Go.Ground.phase }, { on := 6, ground := Go.Ground.phase }, { on := 7, ground := Go.Ground.phase }, { on := 8, ground := Go.Ground.phase }, { on := 9, ground := Go.Ground.textOnly Go.Departure.lateStores }, { on := 10, ground := Go.Ground.phase }], guard := none }) rfl (fun K hK => ?_) AllReadyH.nil
            go_simp
            refine hK.out _ _ (⟨cell_al e3a1_0, cell_al e3a1_1, cell_al e3a1_2⟩) (fun hHeld2 => ?_)
            clear hK K hHeld
            have hHeld := hHeld2
            clear hHeld2
            try simp only [Act.put, List.setIfInBounds_toArray, List.set_cons_zero, List.set_cons_succ]
            refine wpAnyH_take (i := 12) (oi := { dst := some 9, op := Go.Op.assign (Go.Operand.tmp 40), type := 4, pos := "exact.go:6370", after := #[{ on := 9, ground := Go.Ground.data }, { on := 11, ground := Go.Ground.chain }, { on := 0, ground := Go.Ground.phase }, { on := 1, ground := Go.Ground.phase }, { on := 2, ground := Go.Ground.phase }, { on := 3, ground := Go.Ground.phase }, { on := 4, ground := Go.Ground.phase }, { on := 5, ground := Go.Ground.phase }, { on := 6, ground := Go.Ground.phase }, { on := 7, ground := Go.Ground.phase }, { on := 8, ground := Go.Ground.phase }, { on := 9, ground := Go.Ground.phase }, { on := 10, ground := Go.Ground.phase }, { on := 11, ground := Go.Ground.phase }], guard := none }) (v := ?_) rfl (by kernel_rfl) (by kernel_rfl) (by kernel_rfl) (fun _ _ _ h => h) (Or.inl ⟨by rfl, ?_⟩) (by assumption) ?_
            rotate_left 1
            · (intro w hSw; (try dsimp only at hSw); go_simp); all_goals (with_reducible rfl)
            try simp only [Act.put, List.setIfInBounds_toArray, List.set_cons_zero, List.set_cons_succ]
            refine wpAnyH_done (by kernel_rfl) ?_ _
            go_wp2_with fail
            go_meet
            exact ⟨rfl, _, _, _, rfl, AN.new _ _ P3 t3 P2.size⟩
          · skip
            go_simp
            refine hK.out _ _ (⟨cell_al e2a1_0, cell_al e2a1_1, cell_al e2a1_2⟩) (fun hHeld2 => ?_)
            clear hK K hHeld
            have hHeld := hHeld2
            clear hHeld2
            try simp only [Act.put, List.setIfInBounds_toArray, List.set_cons_zero, List.set_cons_succ]
            refine wpAnyH_ready (rs := [6]) (by kernel_rfl) (by simp) ?_
            refine AllReadyH.cons (o := { dst := some 38, op := Go.Op.call { callee := Go.Callee.value (Go.Operand.func 5), args := #[Go.Operand.tmp 33, Go.Operand.tmp 35, Go.Operand.tmp 37], argTypes := #[22, 26, 22] }, type := 27, pos := "exact.go:6370", after := #[{ on := 1, ground := Go.Ground.data }, { on := 3, ground := Go.Ground.data }, { on := 5, ground := Go.Ground.data }, { on := 5, ground := Go.Ground.chain }], guard := none }) rfl (fun K hK => ?_) AllReadyH.nil
            go_simp
            refine (SU.out (y2.alloc (Obj.cells #[.slice none 0 0, .int .i64 0, .int .i64 0] 26)) _ _ _ _ _ _ (row_on q0_2 ((Below.refl _ _).alloc (Nat.le_refl _) _)) (row_on q1_2 ((Below.refl _ _).alloc (Nat.le_refl _) _)) (row_on q2_2 ((Below.refl _ _).alloc (Nat.le_refl _) _))).mono ?_
            rintro e y3 ⟨ua, uc, rfl, t3, d3⟩
            have D3 : Below y2.heap.size y2 y3 := ((Below.refl _ _).alloc (Nat.le_refl _) _).trans (d3.mono (by simp))
            have P3 : Below w1.heap.size w1 y3 := P2.trans (D3.mono P2.size)
            have H3 : Below w.heap.size w y3 := BQ.trans (P3.mono BQ.size)
            have z3 : ZB y3 y2.heap.size := ZB.new d3
            obtain ⟨e3a1_0, e3a1_1, e3a1_2⟩ := Ka1_w1.out.on P3 lta1
            go_wp2_with fail
            refine hK.out _ _ (⟨e3a1_0, e3a1_1, e3a1_2⟩) (fun hHeld2 => ?_)
            clear hK K hHeld
            have hHeld := hHeld2
            clear hHeld2
            try simp only [Act.put, List.setIfInBounds_toArray, List.set_cons_zero, List.set_cons_succ]
            refine wpAnyH_take (i := 7) (oi := { dst := some 31, op := Go.Op.move (Go.Operand.tmp 38), type := 27, pos := "exact.go:6370", after := #[{ on := 6, ground := Go.Ground.data }], guard := none }) (v := ?_) rfl (by kernel_rfl) (by kernel_rfl) (by kernel_rfl) (fun _ _ _ h => h) (Or.inl ⟨by rfl, ?_⟩) (by assumption) ?_
            rotate_left 1
            · (intro w hSw; (try dsimp only at hSw); go_simp); all_goals (with_reducible rfl)
            try simp only [Act.put, List.setIfInBounds_toArray, List.set_cons_zero, List.set_cons_succ]
            refine wpAnyH_take (i := 8) (oi := { dst := some 39, op := Go.Op.extract (Go.Operand.tmp 31) 0, type := 26, pos := "exact.go:6370", after := #[{ on := 7, ground := Go.Ground.data }], guard := none }) (v := ?_) rfl (by kernel_rfl) (by kernel_rfl) (by kernel_rfl) (fun _ _ _ h => h) (Or.inl ⟨by rfl, ?_⟩) (by assumption) ?_
            rotate_left 1
            · (intro w hSw; (try dsimp only at hSw); go_simp); all_goals (with_reducible rfl)
            try simp only [Act.put, List.setIfInBounds_toArray, List.set_cons_zero, List.set_cons_succ]
            refine wpAnyH_take (i := 9) (oi := { dst := some 40, op := Go.Op.extract (Go.Operand.tmp 31) 1, type := 4, pos := "exact.go:6370", after := #[{ on := 7, ground := Go.Ground.data }, { on := 11, ground := Go.Ground.gcOnly Go.Departure.lateStores }], guard := none }) (v := ?_) rfl (by kernel_rfl) (by kernel_rfl) (by kernel_rfl) (fun _ _ _ h => h) (Or.inl ⟨by rfl, ?_⟩) (by assumption) ?_
            rotate_left 1
            · (intro w hSw; (try dsimp only at hSw); go_simp); all_goals (with_reducible rfl)
            try simp only [Act.put, List.setIfInBounds_toArray, List.set_cons_zero, List.set_cons_succ]
            obtain ⟨zc0, zc1, zc2⟩ := z3.bx
            have zf0 := z3.fz 0
            have zf1 := z3.fz 1
            have zf2 := z3.fz 2
            have zna1 : ¬ w.heap.size = y2.heap.size := Nat.ne_of_lt (Nat.lt_of_lt_of_le lta1 (P2.size))
            have zma1 : ¬ y2.heap.size = w.heap.size := fun h => zna1 h.symm
            refine wpAnyH_ready (rs := [11]) (by kernel_rfl) (by simp) ?_
            refine AllReadyH.cons (o := { dst := none, op := Go.Op.store 26 (Go.Operand.tmp 8) (Go.Operand.tmp 39), type := 0, pos := "exact.go:6370", after := #[{ on := 10, ground := Go.Ground.data }, { on := 8, ground := Go.Ground.data }, { on := 6, ground := Go.Ground.chain }, { on := 0, ground := Go.Ground.phase }, { on := 1, ground := Go.Ground.phase }, { on := 2, ground := Go.Ground.phase }, { on := 3, ground := Go.Ground.phase }, { on := 4, ground := Go.Ground.phase }, { on := 5, ground := Go.Ground.phase }, { on := 6, ground := Go.Ground.phase }, { on := 7, ground := Go.Ground.phase }, { on := 8, ground := Go.Ground.phase }, { on := 9, ground := Go.Ground.textOnly Go.Departure.lateStores }, { on := 10, ground := Go.Ground.phase }], guard := none }) rfl (fun K hK => ?_) AllReadyH.nil
            go_simp
            refine hK.out _ _ (⟨cell_put (cell_put (cell_put e3a1_0 zna1) zna1) zna1, cell_put (cell_put (cell_put e3a1_1 zna1) zna1) zna1, cell_put (cell_put (cell_put e3a1_2 zna1) zna1) zna1⟩) (fun hHeld2 => ?_)
            clear hK K hHeld
            have hHeld := hHeld2
            clear hHeld2
            try simp only [Act.put, List.setIfInBounds_toArray, List.set_cons_zero, List.set_cons_succ]
            refine wpAnyH_take (i := 12) (oi := { dst := some 9, op := Go.Op.assign (Go.Operand.tmp 40), type := 4, pos := "exact.go:6370", after := #[{ on := 9, ground := Go.Ground.data }, { on := 11, ground := Go.Ground.chain }, { on := 0, ground := Go.Ground.phase }, { on := 1, ground := Go.Ground.phase }, { on := 2, ground := Go.Ground.phase }, { on := 3, ground := Go.Ground.phase }, { on := 4, ground := Go.Ground.phase }, { on := 5, ground := Go.Ground.phase }, { on := 6, ground := Go.Ground.phase }, { on := 7, ground := Go.Ground.phase }, { on := 8, ground := Go.Ground.phase }, { on := 9, ground := Go.Ground.phase }, { on := 10, ground := Go.Ground.phase }, { on := 11, ground := Go.Ground.phase }], guard := none }) (v := ?_) rfl (by kernel_rfl) (by kernel_rfl) (by kernel_rfl) (fun _ _ _ h => h) (Or.inl ⟨by rfl, ?_⟩) (by assumption) ?_
            rotate_left 1
            · (intro w hSw; (try dsimp only at hSw); go_simp); all_goals (with_reducible rfl)
            try simp only [Act.put, List.setIfInBounds_toArray, List.set_cons_zero, List.set_cons_succ]
            refine wpAnyH_done (by kernel_rfl) ?_ _
            go_wp2_with fail
            go_meet
            exact ⟨rfl, _, _, _, rfl, AN.all _ _ P3 t3 z3 P2.size (by simp)⟩
        · skip
          go_simp
          refine hK.out _ _ (⟨cell_al e1a1_0, cell_al e1a1_1, cell_al e1a1_2⟩) (fun hHeld2 => ?_)
          clear hK K hHeld
          have hHeld := hHeld2
          clear hHeld2
          try simp only [Act.put, List.setIfInBounds_toArray, List.set_cons_zero, List.set_cons_succ]
          refine wpAnyH_ready (rs := [5]) (by kernel_rfl) (by simp) ?_
          refine AllReadyH.cons (o := { dst := some 37, op := Go.Op.call { callee := Go.Callee.value (Go.Operand.func 6), args := #[Go.Operand.tmp 36], argTypes := #[22] }, type := 22, pos := "exact.go:6370", after := #[{ on := 4, ground := Go.Ground.data }, { on := 3, ground := Go.Ground.chain }], guard := none }) rfl (fun K hK => ?_) AllReadyH.nil
          go_simp
          refine (TO2.out (y1.alloc (Obj.cells #[.slice none 0 0, .int .i64 0, .int .i64 0] 26)) (H1.alloc H1.size _)).mono ?_
          rintro e y2 ⟨rfl, t2, d2⟩
          have hs2 : (y1.alloc (Obj.cells #[.slice none 0 0, .int .i64 0, .int .i64 0] 26)).heap.size = y1.heap.size + 1 := by simp
          rw [hs2] at t2
          clear hs2
          have D2 : Below y1.heap.size y1 y2 := ((Below.refl _ _).alloc (Nat.le_refl _) _).trans (d2.mono (by simp))
          have P2 : Below w1.heap.size w1 y2 := P1.trans (D2.mono P1.size)
          have H2 : Below w.heap.size w y2 := BQ.trans (P2.mono BQ.size)
          have q0_2 := row_on q0_1 D2
          have q1_2 := row_on q1_1 D2
          have q2_2 := t2
          have z2 : ZB y2 y1.heap.size := ZB.new d2
          obtain ⟨e2a1_0, e2a1_1, e2a1_2⟩ := Ka1_w1.out.on P2 lta1
          go_wp2_with fail
          refine hK.out _ _ (⟨e2a1_0, e2a1_1, e2a1_2⟩) (fun hHeld2 => ?_)
          clear hK K hHeld
          have hHeld := hHeld2
          clear hHeld2
          try simp only [Act.put, List.setIfInBounds_toArray, List.set_cons_zero, List.set_cons_succ]
          refine wpAnyH_ready (rs := [6]) (by kernel_rfl) (by simp) ?_
          refine AllReadyH.cons (o := { dst := some 38, op := Go.Op.call { callee := Go.Callee.value (Go.Operand.func 5), args := #[Go.Operand.tmp 33, Go.Operand.tmp 35, Go.Operand.tmp 37], argTypes := #[22, 26, 22] }, type := 27, pos := "exact.go:6370", after := #[{ on := 1, ground := Go.Ground.data }, { on := 3, ground := Go.Ground.data }, { on := 5, ground := Go.Ground.data }, { on := 5, ground := Go.Ground.chain }], guard := none }) rfl (fun K hK => ?_) AllReadyH.nil
          go_simp
          refine (SU.out y2 _ _ _ _ _ _ q0_2 q1_2 q2_2).mono ?_
          rintro e y3 ⟨ua, uc, rfl, t3, d3⟩
          have D3 : Below y2.heap.size y2 y3 := d3
          have P3 : Below w1.heap.size w1 y3 := P2.trans (D3.mono P2.size)
          have H3 : Below w.heap.size w y3 := BQ.trans (P3.mono BQ.size)
          have z3 : ZB y3 y1.heap.size := z2.on D3
          obtain ⟨e3a1_0, e3a1_1, e3a1_2⟩ := Ka1_w1.out.on P3 lta1
          go_wp2_with fail
          refine hK.out _ _ (⟨e3a1_0, e3a1_1, e3a1_2⟩) (fun hHeld2 => ?_)
          clear hK K hHeld
          have hHeld := hHeld2
          clear hHeld2
          try simp only [Act.put, List.setIfInBounds_toArray, List.set_cons_zero, List.set_cons_succ]
          refine wpAnyH_take (i := 7) (oi := { dst := some 31, op := Go.Op.move (Go.Operand.tmp 38), type := 27, pos := "exact.go:6370", after := #[{ on := 6, ground := Go.Ground.data }], guard := none }) (v := ?_) rfl (by kernel_rfl) (by kernel_rfl) (by kernel_rfl) (fun _ _ _ h => h) (Or.inl ⟨by rfl, ?_⟩) (by assumption) ?_
          rotate_left 1
          · (intro w hSw; (try dsimp only at hSw); go_simp); all_goals (with_reducible rfl)
          try simp only [Act.put, List.setIfInBounds_toArray, List.set_cons_zero, List.set_cons_succ]
          refine wpAnyH_take (i := 8) (oi := { dst := some 39, op := Go.Op.extract (Go.Operand.tmp 31) 0, type := 26, pos := "exact.go:6370", after := #[{ on := 7, ground := Go.Ground.data }], guard := none }) (v := ?_) rfl (by kernel_rfl) (by kernel_rfl) (by kernel_rfl) (fun _ _ _ h => h) (Or.inl ⟨by rfl, ?_⟩) (by assumption) ?_
          rotate_left 1
          · (intro w hSw; (try dsimp only at hSw); go_simp); all_goals (with_reducible rfl)
          try simp only [Act.put, List.setIfInBounds_toArray, List.set_cons_zero, List.set_cons_succ]
          refine wpAnyH_take (i := 9) (oi := { dst := some 40, op := Go.Op.extract (Go.Operand.tmp 31) 1, type := 4, pos := "exact.go:6370", after := #[{ on := 7, ground := Go.Ground.data }, { on := 11, ground := Go.Ground.gcOnly Go.Departure.lateStores }], guard := none }) (v := ?_) rfl (by kernel_rfl) (by kernel_rfl) (by kernel_rfl) (fun _ _ _ h => h) (Or.inl ⟨by rfl, ?_⟩) (by assumption) ?_
          rotate_left 1
          · (intro w hSw; (try dsimp only at hSw); go_simp); all_goals (with_reducible rfl)
          try simp only [Act.put, List.setIfInBounds_toArray, List.set_cons_zero, List.set_cons_succ]
          obtain ⟨zc0, zc1, zc2⟩ := z3.bx
          have zf0 := z3.fz 0
          have zf1 := z3.fz 1
          have zf2 := z3.fz 2
          have zna1 : ¬ w.heap.size = y1.heap.size := Nat.ne_of_lt (Nat.lt_of_lt_of_le lta1 (P1.size))
          have zma1 : ¬ y1.heap.size = w.heap.size := fun h => zna1 h.symm
          refine wpAnyH_ready (rs := [11]) (by kernel_rfl) (by simp) ?_
          refine AllReadyH.cons (o := { dst := none, op := Go.Op.store 26 (Go.Operand.tmp 8) (Go.Operand.tmp 39), type := 0, pos := "exact.go:6370", after := #[{ on := 10, ground := Go.Ground.data }, { on := 8, ground := Go.Ground.data }, { on := 6, ground := Go.Ground.chain }, { on := 0, ground := Go.Ground.phase }, { on := 1, ground := Go.Ground.phase }, { on := 2, ground := Go.Ground.phase }, { on := 3, ground := Go.Ground.phase }, { on := 4, ground := Go.Ground.phase }, { on := 5, ground := Go.Ground.phase }, { on := 6, ground := Go.Ground.phase }, { on := 7, ground := Go.Ground.phase }, { on := 8, ground := Go.Ground.phase }, { on := 9, ground := Go.Ground.textOnly Go.Departure.lateStores }, { on := 10, ground := Go.Ground.phase }], guard := none }) rfl (fun K hK => ?_) AllReadyH.nil
          go_simp
          refine hK.out _ _ (⟨cell_put (cell_put (cell_put e3a1_0 zna1) zna1) zna1, cell_put (cell_put (cell_put e3a1_1 zna1) zna1) zna1, cell_put (cell_put (cell_put e3a1_2 zna1) zna1) zna1⟩) (fun hHeld2 => ?_)
          clear hK K hHeld
          have hHeld := hHeld2
          clear hHeld2
          try simp only [Act.put, List.setIfInBounds_toArray, List.set_cons_zero, List.set_cons_succ]
          refine wpAnyH_take (i := 12) (oi := { dst := some 9, op := Go.Op.assign (Go.Operand.tmp 40), type := 4, pos := "exact.go:6370", after := #[{ on := 9, ground := Go.Ground.data }, { on := 11, ground := Go.Ground.chain }, { on := 0, ground := Go.Ground.phase }, { on := 1, ground := Go.Ground.phase }, { on := 2, ground := Go.Ground.phase }, { on := 3, ground := Go.Ground.phase }, { on := 4, ground := Go.Ground.phase }, { on := 5, ground := Go.Ground.phase }, { on := 6, ground := Go.Ground.phase }, { on := 7, ground := Go.Ground.phase }, { on := 8, ground := Go.Ground.phase }, { on := 9, ground := Go.Ground.phase }, { on := 10, ground := Go.Ground.phase }, { on := 11, ground := Go.Ground.phase }], guard := none }) (v := ?_) rfl (by kernel_rfl) (by kernel_rfl) (by kernel_rfl) (fun _ _ _ h => h) (Or.inl ⟨by rfl, ?_⟩) (by assumption) ?_
          rotate_left 1
          · (intro w hSw; (try dsimp only at hSw); go_simp); all_goals (with_reducible rfl)
          try simp only [Act.put, List.setIfInBounds_toArray, List.set_cons_zero, List.set_cons_succ]
          refine wpAnyH_done (by kernel_rfl) ?_ _
          go_wp2_with fail
          go_meet
          exact ⟨rfl, _, _, _, rfl, AN.all _ _ P3 t3 z3 P1.size z2.lt⟩
      · skip
        go_simp
        refine hK.out _ _ (⟨cell_al e0a1_0, cell_al e0a1_1, cell_al e0a1_2⟩) (fun hHeld2 => ?_)
        clear hK K hHeld
        have hHeld := hHeld2
        clear hHeld2
        try simp only [Act.put, List.setIfInBounds_toArray, List.set_cons_zero, List.set_cons_succ]
        refine wpAnyH_ready (rs := [3]) (by kernel_rfl) (by simp) ?_
        refine AllReadyH.cons (o := { dst := some 35, op := Go.Op.call { callee := Go.Callee.value (Go.Operand.func 7), args := #[Go.Operand.tmp 34], argTypes := #[24] }, type := 26, pos := "exact.go:6370", after := #[{ on := 2, ground := Go.Ground.data }, { on := 1, ground := Go.Ground.chain }], guard := none }) rfl (fun K hK => ?_) AllReadyH.nil
        go_simp
        refine (TO1.out HL1.out (y0.alloc (Obj.cells #[.slice none 0 0, .int .i64 0, .int .i64 0] 26)) (H0.alloc H0.size _)).mono ?_
        rintro e y1 ⟨gy1, rfl, t1, d1⟩
        have D1 : Below y0.heap.size y0 y1 := ((Below.refl _ _).alloc (Nat.le_refl _) _).trans (d1.mono (by simp))
        have P1 : Below w1.heap.size w1 y1 := P0.trans (D1.mono P0.size)
        have H1 : Below w.heap.size w y1 := BQ.trans (P1.mono BQ.size)
        have q0_1 := row_on q0_0 D1
        have q1_1 := t1
        have z1 : ZB y1 y0.heap.size := ZB.new d1
        obtain ⟨e1a1_0, e1a1_1, e1a1_2⟩ := Ka1_w1.out.on P1 lta1
        go_wp2_with fail
        refine hK.out _ _ (⟨e1a1_0, e1a1_1, e1a1_2⟩) (fun hHeld2 => ?_)
        clear hK K hHeld
        have hHeld := hHeld2
        clear hHeld2
        try simp only [Act.put, List.setIfInBounds_toArray, List.set_cons_zero, List.set_cons_succ]
        refine wpAnyH_ready (rs := [5]) (by kernel_rfl) (by simp) ?_
        refine AllReadyH.cons (o := { dst := some 37, op := Go.Op.call { callee := Go.Callee.value (Go.Operand.func 6), args := #[Go.Operand.tmp 36], argTypes := #[22] }, type := 22, pos := "exact.go:6370", after := #[{ on := 4, ground := Go.Ground.data }, { on := 3, ground := Go.Ground.chain }], guard := none }) rfl (fun K hK => ?_) AllReadyH.nil
        go_simp
        refine (TO2.out y1 H1).mono ?_
        rintro e y2 ⟨rfl, t2, d2⟩
        have D2 : Below y1.heap.size y1 y2 := d2
        have P2 : Below w1.heap.size w1 y2 := P1.trans (D2.mono P1.size)
        have H2 : Below w.heap.size w y2 := BQ.trans (P2.mono BQ.size)
        have q0_2 := row_on q0_1 D2
        have q1_2 := row_on q1_1 D2
        have q2_2 := t2
        have z2 : ZB y2 y0.heap.size := z1.on D2
        obtain ⟨e2a1_0, e2a1_1, e2a1_2⟩ := Ka1_w1.out.on P2 lta1
        go_wp2_with fail
        refine hK.out _ _ (⟨e2a1_0, e2a1_1, e2a1_2⟩) (fun hHeld2 => ?_)
        clear hK K hHeld
        have hHeld := hHeld2
        clear hHeld2
        try simp only [Act.put, List.setIfInBounds_toArray, List.set_cons_zero, List.set_cons_succ]
        refine wpAnyH_ready (rs := [6]) (by kernel_rfl) (by simp) ?_
        refine AllReadyH.cons (o := { dst := some 38, op := Go.Op.call { callee := Go.Callee.value (Go.Operand.func 5), args := #[Go.Operand.tmp 33, Go.Operand.tmp 35, Go.Operand.tmp 37], argTypes := #[22, 26, 22] }, type := 27, pos := "exact.go:6370", after := #[{ on := 1, ground := Go.Ground.data }, { on := 3, ground := Go.Ground.data }, { on := 5, ground := Go.Ground.data }, { on := 5, ground := Go.Ground.chain }], guard := none }) rfl (fun K hK => ?_) AllReadyH.nil
        go_simp
        refine (SU.out y2 _ _ _ _ _ _ q0_2 q1_2 q2_2).mono ?_
        rintro e y3 ⟨ua, uc, rfl, t3, d3⟩
        have D3 : Below y2.heap.size y2 y3 := d3
        have P3 : Below w1.heap.size w1 y3 := P2.trans (D3.mono P2.size)
        have H3 : Below w.heap.size w y3 := BQ.trans (P3.mono BQ.size)
        have z3 : ZB y3 y0.heap.size := z2.on D3
        obtain ⟨e3a1_0, e3a1_1, e3a1_2⟩ := Ka1_w1.out.on P3 lta1
        go_wp2_with fail
        refine hK.out _ _ (⟨e3a1_0, e3a1_1, e3a1_2⟩) (fun hHeld2 => ?_)
        clear hK K hHeld
        have hHeld := hHeld2
        clear hHeld2
        try simp only [Act.put, List.setIfInBounds_toArray, List.set_cons_zero, List.set_cons_succ]
        refine wpAnyH_take (i := 7) (oi := { dst := some 31, op := Go.Op.move (Go.Operand.tmp 38), type := 27, pos := "exact.go:6370", after := #[{ on := 6, ground := Go.Ground.data }], guard := none }) (v := ?_) rfl (by kernel_rfl) (by kernel_rfl) (by kernel_rfl) (fun _ _ _ h => h) (Or.inl ⟨by rfl, ?_⟩) (by assumption) ?_
        rotate_left 1
        · (intro w hSw; (try dsimp only at hSw); go_simp); all_goals (with_reducible rfl)
        try simp only [Act.put, List.setIfInBounds_toArray, List.set_cons_zero, List.set_cons_succ]
        refine wpAnyH_take (i := 8) (oi := { dst := some 39, op := Go.Op.extract (Go.Operand.tmp 31) 0, type := 26, pos := "exact.go:6370", after := #[{ on := 7, ground := Go.Ground.data }], guard := none }) (v := ?_) rfl (by kernel_rfl) (by kernel_rfl) (by kernel_rfl) (fun _ _ _ h => h) (Or.inl ⟨by rfl, ?_⟩) (by assumption) ?_
        rotate_left 1
        · (intro w hSw; (try dsimp only at hSw); go_simp); all_goals (with_reducible rfl)
        try simp only [Act.put, List.setIfInBounds_toArray, List.set_cons_zero, List.set_cons_succ]
        refine wpAnyH_take (i := 9) (oi := { dst := some 40, op := Go.Op.extract (Go.Operand.tmp 31) 1, type := 4, pos := "exact.go:6370", after := #[{ on := 7, ground := Go.Ground.data }, { on := 11, ground := Go.Ground.gcOnly Go.Departure.lateStores }], guard := none }) (v := ?_) rfl (by kernel_rfl) (by kernel_rfl) (by kernel_rfl) (fun _ _ _ h => h) (Or.inl ⟨by rfl, ?_⟩) (by assumption) ?_
        rotate_left 1
        · (intro w hSw; (try dsimp only at hSw); go_simp); all_goals (with_reducible rfl)
        try simp only [Act.put, List.setIfInBounds_toArray, List.set_cons_zero, List.set_cons_succ]
        obtain ⟨zc0, zc1, zc2⟩ := z3.bx
        have zf0 := z3.fz 0
        have zf1 := z3.fz 1
        have zf2 := z3.fz 2
        have zna1 : ¬ w.heap.size = y0.heap.size := Nat.ne_of_lt (Nat.lt_of_lt_of_le lta1 (P0.size))
        have zma1 : ¬ y0.heap.size = w.heap.size := fun h => zna1 h.symm
        refine wpAnyH_ready (rs := [11]) (by kernel_rfl) (by simp) ?_
        refine AllReadyH.cons (o := { dst := none, op := Go.Op.store 26 (Go.Operand.tmp 8) (Go.Operand.tmp 39), type := 0, pos := "exact.go:6370", after := #[{ on := 10, ground := Go.Ground.data }, { on := 8, ground := Go.Ground.data }, { on := 6, ground := Go.Ground.chain }, { on := 0, ground := Go.Ground.phase }, { on := 1, ground := Go.Ground.phase }, { on := 2, ground := Go.Ground.phase }, { on := 3, ground := Go.Ground.phase }, { on := 4, ground := Go.Ground.phase }, { on := 5, ground := Go.Ground.phase }, { on := 6, ground := Go.Ground.phase }, { on := 7, ground := Go.Ground.phase }, { on := 8, ground := Go.Ground.phase }, { on := 9, ground := Go.Ground.textOnly Go.Departure.lateStores }, { on := 10, ground := Go.Ground.phase }], guard := none }) rfl (fun K hK => ?_) AllReadyH.nil
        go_simp
        refine hK.out _ _ (⟨cell_put (cell_put (cell_put e3a1_0 zna1) zna1) zna1, cell_put (cell_put (cell_put e3a1_1 zna1) zna1) zna1, cell_put (cell_put (cell_put e3a1_2 zna1) zna1) zna1⟩) (fun hHeld2 => ?_)
        clear hK K hHeld
        have hHeld := hHeld2
        clear hHeld2
        try simp only [Act.put, List.setIfInBounds_toArray, List.set_cons_zero, List.set_cons_succ]
        refine wpAnyH_take (i := 12) (oi := { dst := some 9, op := Go.Op.assign (Go.Operand.tmp 40), type := 4, pos := "exact.go:6370", after := #[{ on := 9, ground := Go.Ground.data }, { on := 11, ground := Go.Ground.chain }, { on := 0, ground := Go.Ground.phase }, { on := 1, ground := Go.Ground.phase }, { on := 2, ground := Go.Ground.phase }, { on := 3, ground := Go.Ground.phase }, { on := 4, ground := Go.Ground.phase }, { on := 5, ground := Go.Ground.phase }, { on := 6, ground := Go.Ground.phase }, { on := 7, ground := Go.Ground.phase }, { on := 8, ground := Go.Ground.phase }, { on := 9, ground := Go.Ground.phase }, { on := 10, ground := Go.Ground.phase }, { on := 11, ground := Go.Ground.phase }], guard := none }) (v := ?_) rfl (by kernel_rfl) (by kernel_rfl) (by kernel_rfl) (fun _ _ _ h => h) (Or.inl ⟨by rfl, ?_⟩) (by assumption) ?_
        rotate_left 1
        · (intro w hSw; (try dsimp only at hSw); go_simp); all_goals (with_reducible rfl)
        try simp only [Act.put, List.setIfInBounds_toArray, List.set_cons_zero, List.set_cons_succ]
        refine wpAnyH_done (by kernel_rfl) ?_ _
        go_wp2_with fail
        go_meet
        exact ⟨rfl, _, _, _, rfl, AN.all _ _ P3 t3 z3 P0.size z2.lt⟩
    · skip
      go_simp
      refine hK.out _ _ (⟨cell_al ca1_0, cell_al ca1_1, cell_al ca1_2⟩) (fun hHeld2 => ?_)
      clear hK K hHeld
      have hHeld := hHeld2
      clear hHeld2
      try simp only [Act.put, List.setIfInBounds_toArray, List.set_cons_zero, List.set_cons_succ]
      refine wpAnyH_ready (rs := [1]) (by kernel_rfl) (by simp) ?_
      refine AllReadyH.cons (o := { dst := some 33, op := Go.Op.call { callee := Go.Callee.value (Go.Operand.func 6), args := #[Go.Operand.tmp 32], argTypes := #[22] }, type := 22, pos := "exact.go:6370", after := #[{ on := 0, ground := Go.Ground.data }], guard := none }) rfl (fun K hK => ?_) AllReadyH.nil
      go_simp
      refine (TO0.out (w1.drew.alloc (Obj.cells #[.slice none 0 0, .int .i64 0, .int .i64 0] 26)) (BQ.drew.alloc BQ.size _)).mono ?_
      rintro e y0 ⟨rfl, t0, d0⟩
      have hs0 : (w1.drew.alloc (Obj.cells #[.slice none 0 0, .int .i64 0, .int .i64 0] 26)).heap.size = w1.heap.size + 1 := by simp
      rw [hs0] at t0
      clear hs0
      have P0 : Below w1.heap.size w1 y0 := ((Below.refl _ _).drew.alloc (by simp) _).trans (d0.mono (by simp))
      have H0 : Below w.heap.size w y0 := BQ.trans (P0.mono BQ.size)
      have q0_0 := t0
      have z0 : ZB y0 w1.heap.size := ZB.newd2 d0
      obtain ⟨e0a1_0, e0a1_1, e0a1_2⟩ := Ka1_w1.out.on P0 lta1
      go_wp2_with fail
      refine hK.out _ _ (⟨e0a1_0, e0a1_1, e0a1_2⟩) (fun hHeld2 => ?_)
      clear hK K hHeld
      have hHeld := hHeld2
      clear hHeld2
      try simp only [Act.put, List.setIfInBounds_toArray, List.set_cons_zero, List.set_cons_succ]
      refine wpAnyH_ready (rs := [3]) (by kernel_rfl) (by simp) ?_
      refine AllReadyH.cons (o := { dst := some 35, op := Go.Op.call { callee := Go.Callee.value (Go.Operand.func 7), args := #[Go.Operand.tmp 34], argTypes := #[24] }, type := 26, pos := "exact.go:6370", after := #[{ on := 2, ground := Go.Ground.data }, { on := 1, ground := Go.Ground.chain }], guard := none }) rfl (fun K hK => ?_) AllReadyH.nil
      go_simp
      refine (TO1.out HL1.out y0 H0).mono ?_
      rintro e y1 ⟨gy1, rfl, t1, d1⟩
      have D1 : Below y0.heap.size y0 y1 := d1
      have P1 : Below w1.heap.size w1 y1 := P0.trans (D1.mono P0.size)
      have H1 : Below w.heap.size w y1 := BQ.trans (P1.mono BQ.size)
      have q0_1 := row_on q0_0 D1
      have q1_1 := t1
      have z1 : ZB y1 w1.heap.size := z0.on D1
      obtain ⟨e1a1_0, e1a1_1, e1a1_2⟩ := Ka1_w1.out.on P1 lta1
      go_wp2_with fail
      refine hK.out _ _ (⟨e1a1_0, e1a1_1, e1a1_2⟩) (fun hHeld2 => ?_)
      clear hK K hHeld
      have hHeld := hHeld2
      clear hHeld2
      try simp only [Act.put, List.setIfInBounds_toArray, List.set_cons_zero, List.set_cons_succ]
      refine wpAnyH_ready (rs := [5]) (by kernel_rfl) (by simp) ?_
      refine AllReadyH.cons (o := { dst := some 37, op := Go.Op.call { callee := Go.Callee.value (Go.Operand.func 6), args := #[Go.Operand.tmp 36], argTypes := #[22] }, type := 22, pos := "exact.go:6370", after := #[{ on := 4, ground := Go.Ground.data }, { on := 3, ground := Go.Ground.chain }], guard := none }) rfl (fun K hK => ?_) AllReadyH.nil
      go_simp
      refine (TO2.out y1 H1).mono ?_
      rintro e y2 ⟨rfl, t2, d2⟩
      have D2 : Below y1.heap.size y1 y2 := d2
      have P2 : Below w1.heap.size w1 y2 := P1.trans (D2.mono P1.size)
      have H2 : Below w.heap.size w y2 := BQ.trans (P2.mono BQ.size)
      have q0_2 := row_on q0_1 D2
      have q1_2 := row_on q1_1 D2
      have q2_2 := t2
      have z2 : ZB y2 w1.heap.size := z1.on D2
      obtain ⟨e2a1_0, e2a1_1, e2a1_2⟩ := Ka1_w1.out.on P2 lta1
      go_wp2_with fail
      refine hK.out _ _ (⟨e2a1_0, e2a1_1, e2a1_2⟩) (fun hHeld2 => ?_)
      clear hK K hHeld
      have hHeld := hHeld2
      clear hHeld2
      try simp only [Act.put, List.setIfInBounds_toArray, List.set_cons_zero, List.set_cons_succ]
      refine wpAnyH_ready (rs := [6]) (by kernel_rfl) (by simp) ?_
      refine AllReadyH.cons (o := { dst := some 38, op := Go.Op.call { callee := Go.Callee.value (Go.Operand.func 5), args := #[Go.Operand.tmp 33, Go.Operand.tmp 35, Go.Operand.tmp 37], argTypes := #[22, 26, 22] }, type := 27, pos := "exact.go:6370", after := #[{ on := 1, ground := Go.Ground.data }, { on := 3, ground := Go.Ground.data }, { on := 5, ground := Go.Ground.data }, { on := 5, ground := Go.Ground.chain }], guard := none }) rfl (fun K hK => ?_) AllReadyH.nil
      go_simp
      refine (SU.out y2 _ _ _ _ _ _ q0_2 q1_2 q2_2).mono ?_
      rintro e y3 ⟨ua, uc, rfl, t3, d3⟩
      have D3 : Below y2.heap.size y2 y3 := d3
      have P3 : Below w1.heap.size w1 y3 := P2.trans (D3.mono P2.size)
      have H3 : Below w.heap.size w y3 := BQ.trans (P3.mono BQ.size)
      have z3 : ZB y3 w1.heap.size := z2.on D3
      obtain ⟨e3a1_0, e3a1_1, e3a1_2⟩ := Ka1_w1.out.on P3 lta1
      go_wp2_with fail
      refine hK.out _ _ (⟨e3a1_0, e3a1_1, e3a1_2⟩) (fun hHeld2 => ?_)
      clear hK K hHeld
      have hHeld := hHeld2
      clear hHeld2
      try simp only [Act.put, List.setIfInBounds_toArray, List.set_cons_zero, List.set_cons_succ]
      refine wpAnyH_take (i := 7) (oi := { dst := some 31, op := Go.Op.move (Go.Operand.tmp 38), type := 27, pos := "exact.go:6370", after := #[{ on := 6, ground := Go.Ground.data }], guard := none }) (v := ?_) rfl (by kernel_rfl) (by kernel_rfl) (by kernel_rfl) (fun _ _ _ h => h) (Or.inl ⟨by rfl, ?_⟩) (by assumption) ?_
      rotate_left 1
      · (intro w hSw; (try dsimp only at hSw); go_simp); all_goals (with_reducible rfl)
      try simp only [Act.put, List.setIfInBounds_toArray, List.set_cons_zero, List.set_cons_succ]
      refine wpAnyH_take (i := 8) (oi := { dst := some 39, op := Go.Op.extract (Go.Operand.tmp 31) 0, type := 26, pos := "exact.go:6370", after := #[{ on := 7, ground := Go.Ground.data }], guard := none }) (v := ?_) rfl (by kernel_rfl) (by kernel_rfl) (by kernel_rfl) (fun _ _ _ h => h) (Or.inl ⟨by rfl, ?_⟩) (by assumption) ?_
      rotate_left 1
      · (intro w hSw; (try dsimp only at hSw); go_simp); all_goals (with_reducible rfl)
      try simp only [Act.put, List.setIfInBounds_toArray, List.set_cons_zero, List.set_cons_succ]
      refine wpAnyH_take (i := 9) (oi := { dst := some 40, op := Go.Op.extract (Go.Operand.tmp 31) 1, type := 4, pos := "exact.go:6370", after := #[{ on := 7, ground := Go.Ground.data }, { on := 11, ground := Go.Ground.gcOnly Go.Departure.lateStores }], guard := none }) (v := ?_) rfl (by kernel_rfl) (by kernel_rfl) (by kernel_rfl) (fun _ _ _ h => h) (Or.inl ⟨by rfl, ?_⟩) (by assumption) ?_
      rotate_left 1
      · (intro w hSw; (try dsimp only at hSw); go_simp); all_goals (with_reducible rfl)
      try simp only [Act.put, List.setIfInBounds_toArray, List.set_cons_zero, List.set_cons_succ]
      obtain ⟨zc0, zc1, zc2⟩ := z3.bx
      have zf0 := z3.fz 0
      have zf1 := z3.fz 1
      have zf2 := z3.fz 2
      have zna1 : ¬ w.heap.size = w1.heap.size := Nat.ne_of_lt (Nat.lt_of_lt_of_le lta1 (Nat.le_refl _))
      have zma1 : ¬ w1.heap.size = w.heap.size := fun h => zna1 h.symm
      refine wpAnyH_ready (rs := [11]) (by kernel_rfl) (by simp) ?_
      refine AllReadyH.cons (o := { dst := none, op := Go.Op.store 26 (Go.Operand.tmp 8) (Go.Operand.tmp 39), type := 0, pos := "exact.go:6370", after := #[{ on := 10, ground := Go.Ground.data }, { on := 8, ground := Go.Ground.data }, { on := 6, ground := Go.Ground.chain }, { on := 0, ground := Go.Ground.phase }, { on := 1, ground := Go.Ground.phase }, { on := 2, ground := Go.Ground.phase }, { on := 3, ground := Go.Ground.phase }, { on := 4, ground := Go.Ground.phase }, { on := 5, ground := Go.Ground.phase }, { on := 6, ground := Go.Ground.phase }, { on := 7, ground := Go.Ground.phase }, { on := 8, ground := Go.Ground.phase }, { on := 9, ground := Go.Ground.textOnly Go.Departure.lateStores }, { on := 10, ground := Go.Ground.phase }], guard := none }) rfl (fun K hK => ?_) AllReadyH.nil
      go_simp
      refine hK.out _ _ (⟨cell_put (cell_put (cell_put e3a1_0 zna1) zna1) zna1, cell_put (cell_put (cell_put e3a1_1 zna1) zna1) zna1, cell_put (cell_put (cell_put e3a1_2 zna1) zna1) zna1⟩) (fun hHeld2 => ?_)
      clear hK K hHeld
      have hHeld := hHeld2
      clear hHeld2
      try simp only [Act.put, List.setIfInBounds_toArray, List.set_cons_zero, List.set_cons_succ]
      refine wpAnyH_take (i := 12) (oi := { dst := some 9, op := Go.Op.assign (Go.Operand.tmp 40), type := 4, pos := "exact.go:6370", after := #[{ on := 9, ground := Go.Ground.data }, { on := 11, ground := Go.Ground.chain }, { on := 0, ground := Go.Ground.phase }, { on := 1, ground := Go.Ground.phase }, { on := 2, ground := Go.Ground.phase }, { on := 3, ground := Go.Ground.phase }, { on := 4, ground := Go.Ground.phase }, { on := 5, ground := Go.Ground.phase }, { on := 6, ground := Go.Ground.phase }, { on := 7, ground := Go.Ground.phase }, { on := 8, ground := Go.Ground.phase }, { on := 9, ground := Go.Ground.phase }, { on := 10, ground := Go.Ground.phase }, { on := 11, ground := Go.Ground.phase }], guard := none }) (v := ?_) rfl (by kernel_rfl) (by kernel_rfl) (by kernel_rfl) (fun _ _ _ h => h) (Or.inl ⟨by rfl, ?_⟩) (by assumption) ?_
      rotate_left 1
      · (intro w hSw; (try dsimp only at hSw); go_simp); all_goals (with_reducible rfl)
      try simp only [Act.put, List.setIfInBounds_toArray, List.set_cons_zero, List.set_cons_succ]
      refine wpAnyH_done (by kernel_rfl) ?_ _
      go_wp2_with fail
      go_meet
      exact ⟨rfl, _, _, _, rfl, AN.all _ _ P3 t3 z3 (Nat.le_refl _) z2.lt⟩
  obtain ⟨w2, hhw2⟩ : ∃ x : World, x = wc := ⟨_, rfl⟩
  subst hhw2
  obtain ⟨rfl, ks, uas0, ucs0, rfl, ANs⟩ := hcut
  have b := ANs.out.bl
  clear ca1_0 ca1_1 ca1_2
  have ZZw2 : Hid (w1.heap.size ≤ w2.heap.size) := b.size
  have BBw2 : Hid (Below w.heap.size w w2) := BBw1.out.trans (b.mono BBw1.out.size)
  have Ka1_w2 : Hid (Bk.Box w2 w.heap.size (.slice s1 L1.length c1) (.int .i64 a1_1) (.int .i64 a1_2)) := Ka1_w1.out.on b (by have q0 := ZZwa.out; have q1 := ZZw1.out; have q2 := HL0.out; have q3 := HL1.out; have q4 := HL2.out; have q5 := HX0.out; omega)
  have Rs0_w2 : Hid (w2.ownsRow w1.heap.size 2 1 (.slice uas0 X0.length ucs0) X0.length (ints X0)) := ANs.out.row
  have LTs0 : Hid (∀ k, (Value.slice uas0 X0.length ucs0).ownBlock = some k → w1.heap.size ≤ k ∧ k < w2.heap.size) := fun k hk => Rs0_w2.out.lt k hk
  have Ks0_w2 : Hid (Bk.Box w2 ks (.slice uas0 X0.length ucs0) (.int .i64 r0_1) (.int .i64 r0_2)) := ANs.out.bx
  have ZKs : Hid (w1.heap.size ≤ ks ∧ ks < w2.heap.size) := ⟨ANs.out.ge, ANs.out.lt⟩
  clear b ANs
  clear Ka1_w1
  go_wp2_with fail
  refine (TO0.out w2 BBw2.out).mono ?_
  rintro e w3 ⟨rfl, r, b⟩
  have ZZw3 : Hid (w2.heap.size ≤ w3.heap.size) := b.size
  have BBw3 : Hid (Below w.heap.size w w3) := BBw2.out.trans (b.mono BBw2.out.size)
  have Rs0_w3 : Hid (w3.ownsRow w1.heap.size 2 1 (.slice uas0 X0.length ucs0) X0.length (ints X0)) := row_on Rs0_w2.out b
  have Ka1_w3 : Hid (Bk.Box w3 w.heap.size (.slice s1 L1.length c1) (.int .i64 a1_1) (.int .i64 a1_2)) := Ka1_w2.out.on b (by have q0 := ZZwa.out; have q1 := ZZw1.out; have q2 := ZZw2.out; have q3 := ZKs.out; have q4 := HL0.out; have q5 := HL1.out; have q6 := HL2.out; have q7 := HX0.out; omega)
  have Ks0_w3 : Hid (Bk.Box w3 ks (.slice uas0 X0.length ucs0) (.int .i64 r0_1) (.int .i64 r0_2)) := Ks0_w2.out.on b (by have q0 := ZZwa.out; have q1 := ZZw1.out; have q2 := ZZw2.out; have q3 := ZKs.out; have q4 := HL0.out; have q5 := HL1.out; have q6 := HL2.out; have q7 := HX0.out; omega)
  have Rx0_w3 : Hid (w3.ownsRow w2.heap.size 2 1 (.slice (some ⟨w2.heap.size, 0, none⟩) L0.length L0.length) L0.length (ints L0)) := r
  have LTx0 : Hid (∀ k, (Value.slice (some ⟨w2.heap.size, 0, none⟩) L0.length L0.length).ownBlock = some k → w2.heap.size ≤ k ∧ k < w3.heap.size) := fun k hk => Rx0_w3.out.lt k hk
  clear r b
  clear Rs0_w2 Ka1_w2 Ks0_w2
  obtain ⟨ca1_0, ca1_1, ca1_2⟩ := Ka1_w3.out
  go_wp2_with fail
  refine (TO1.out HL1.out w3 BBw3.out).mono ?_
  rintro e w4 ⟨gx1, rfl, r, b⟩
  clear ca1_0 ca1_1 ca1_2
  have ZZw4 : Hid (w3.heap.size ≤ w4.heap.size) := b.size
  have BBw4 : Hid (Below w.heap.size w w4) := BBw3.out.trans (b.mono BBw3.out.size)
  have Rs0_w4 : Hid (w4.ownsRow w1.heap.size 2 1 (.slice uas0 X0.length ucs0) X0.length (ints X0)) := row_on Rs0_w3.out b
  have Rx0_w4 : Hid (w4.ownsRow w2.heap.size 2 1 (.slice (some ⟨w2.heap.size, 0, none⟩) L0.length L0.length) L0.length (ints L0)) := row_on Rx0_w3.out b
  have Ka1_w4 : Hid (Bk.Box w4 w.heap.size (.slice s1 L1.length c1) (.int .i64 a1_1) (.int .i64 a1_2)) := Ka1_w3.out.on b (by have q0 := ZZwa.out; have q1 := ZZw1.out; have q2 := ZZw2.out; have q3 := ZKs.out; have q4 := ZZw3.out; have q5 := HL0.out; have q6 := HL1.out; have q7 := HL2.out; have q8 := HX0.out; omega)
  have Ks0_w4 : Hid (Bk.Box w4 ks (.slice uas0 X0.length ucs0) (.int .i64 r0_1) (.int .i64 r0_2)) := Ks0_w3.out.on b (by have q0 := ZZwa.out; have q1 := ZZw1.out; have q2 := ZZw2.out; have q3 := ZKs.out; have q4 := ZZw3.out; have q5 := HL0.out; have q6 := HL1.out; have q7 := HL2.out; have q8 := HX0.out; omega)
  have Rx1_w4 : Hid (w4.ownsRow w3.heap.size 2 1 (.slice (some ⟨gx1, 0, none⟩) L1.length L1.length) L1.length (ints L1)) := r
  have LTx1 : Hid (∀ k, (Value.slice (some ⟨gx1, 0, none⟩) L1.length L1.length).ownBlock = some k → w3.heap.size ≤ k ∧ k < w4.heap.size) := fun k hk => Rx1_w4.out.lt k hk
  clear r b
  clear Rs0_w3 Rx0_w3 Ka1_w3 Ks0_w3
  obtain ⟨w5, hw5⟩ : ∃ wz, wz = w4.alloc (Obj.cells #[.slice (some ⟨gx1, 0, none⟩) L1.length L1.length, .int .i64 a1_1, .int .i64 a1_2] 26) := ⟨_, rfl⟩
  have HWw5 : Hid (w5 = w4.alloc (Obj.cells #[.slice (some ⟨gx1, 0, none⟩) L1.length L1.length, .int .i64 a1_1, .int .i64 a1_2] 26)) := hw5
  have b : Below w4.heap.size w4 w5 := by rw [hw5]; exact (Below.refl _ _).alloc (Nat.le_refl _) _
  have ZZZw5 : Hid (w5.heap.size = w4.heap.size + 1) := (by show _ = _; rw [hw5]; simp)
  have ZZw5 : Hid (w4.heap.size ≤ w5.heap.size) := b.size
  have BBw5 : Hid (Below w.heap.size w w5) := BBw4.out.trans (b.mono BBw4.out.size)
  have Rs0_w5 : Hid (w5.ownsRow w1.heap.size 2 1 (.slice uas0 X0.length ucs0) X0.length (ints X0)) := row_on Rs0_w4.out b
  have Rx0_w5 : Hid (w5.ownsRow w2.heap.size 2 1 (.slice (some ⟨w2.heap.size, 0, none⟩) L0.length L0.length) L0.length (ints L0)) := row_on Rx0_w4.out b
  have Rx1_w5 : Hid (w5.ownsRow w3.heap.size 2 1 (.slice (some ⟨gx1, 0, none⟩) L1.length L1.length) L1.length (ints L1)) := row_on Rx1_w4.out b
  have Ka1_w5 : Hid (Bk.Box w5 w.heap.size (.slice s1 L1.length c1) (.int .i64 a1_1) (.int .i64 a1_2)) := Ka1_w4.out.on b (by have q0 := ZZwa.out; have q1 := ZZw1.out; have q2 := ZZw2.out; have q3 := ZKs.out; have q4 := ZZw3.out; have q5 := ZZw4.out; have q6 := ZZZw5.out; have q7 := HL0.out; have q8 := HL1.out; have q9 := HL2.out; have q10 := HX0.out; omega)
  have Ks0_w5 : Hid (Bk.Box w5 ks (.slice uas0 X0.length ucs0) (.int .i64 r0_1) (.int .i64 r0_2)) := Ks0_w4.out.on b (by have q0 := ZZwa.out; have q1 := ZZw1.out; have q2 := ZZw2.out; have q3 := ZKs.out; have q4 := ZZw3.out; have q5 := ZZw4.out; have q6 := ZZZw5.out; have q7 := HL0.out; have q8 := HL1.out; have q9 := HL2.out; have q10 := HX0.out; omega)
  have Kx1_w5 : Hid (Bk.Box w5 w4.heap.size (.slice (some ⟨gx1, 0, none⟩) L1.length L1.length) (.int .i64 a1_1) (.int .i64 a1_2)) := (by show Bk.Box _ _ _ _ _; rw [hw5]; unfold Bk.Box; simp [go_sem])
  clear b hw5
  clear Rs0_w4 Rx0_w4 Rx1_w4
  go_wp2_with fail
  rw [← HWw5.out]
  clear HWw5
  refine (TO2.out w5 BBw5.out).mono ?_
  rintro e w6 ⟨rfl, r, b⟩
  clear Ka1_w4 Ks0_w4
  have ZZw6 : Hid (w5.heap.size ≤ w6.heap.size) := b.size
  have BBw6 : Hid (Below w.heap.size w w6) := BBw5.out.trans (b.mono BBw5.out.size)
  have Rs0_w6 : Hid (w6.ownsRow w1.heap.size 2 1 (.slice uas0 X0.length ucs0) X0.length (ints X0)) := row_on Rs0_w5.out b
  have Rx0_w6 : Hid (w6.ownsRow w2.heap.size 2 1 (.slice (some ⟨w2.heap.size, 0, none⟩) L0.length L0.length) L0.length (ints L0)) := row_on Rx0_w5.out b
  have Rx1_w6 : Hid (w6.ownsRow w3.heap.size 2 1 (.slice (some ⟨gx1, 0, none⟩) L1.length L1.length) L1.length (ints L1)) := row_on Rx1_w5.out b
  have Ka1_w6 : Hid (Bk.Box w6 w.heap.size (.slice s1 L1.length c1) (.int .i64 a1_1) (.int .i64 a1_2)) := Ka1_w5.out.on b (by have q0 := ZZwa.out; have q1 := ZZw1.out; have q2 := ZZw2.out; have q3 := ZKs.out; have q4 := ZZw3.out; have q5 := ZZw4.out; have q6 := ZZZw5.out; have q7 := ZZw5.out; have q8 := HL0.out; have q9 := HL1.out; have q10 := HL2.out; have q11 := HX0.out; omega)
  have Ks0_w6 : Hid (Bk.Box w6 ks (.slice uas0 X0.length ucs0) (.int .i64 r0_1) (.int .i64 r0_2)) := Ks0_w5.out.on b (by have q0 := ZZwa.out; have q1 := ZZw1.out; have q2 := ZZw2.out; have q3 := ZKs.out; have q4 := ZZw3.out; have q5 := ZZw4.out; have q6 := ZZZw5.out; have q7 := ZZw5.out; have q8 := HL0.out; have q9 := HL1.out; have q10 := HL2.out; have q11 := HX0.out; omega)
  have Kx1_w6 : Hid (Bk.Box w6 w4.heap.size (.slice (some ⟨gx1, 0, none⟩) L1.length L1.length) (.int .i64 a1_1) (.int .i64 a1_2)) := Kx1_w5.out.on b (by have q0 := ZZwa.out; have q1 := ZZw1.out; have q2 := ZZw2.out; have q3 := ZKs.out; have q4 := ZZw3.out; have q5 := ZZw4.out; have q6 := ZZZw5.out; have q7 := ZZw5.out; have q8 := HL0.out; have q9 := HL1.out; have q10 := HL2.out; have q11 := HX0.out; omega)
  have Rx2_w6 : Hid (w6.ownsRow w5.heap.size 2 1 (.slice (some ⟨w5.heap.size, 0, none⟩) L2.length L2.length) L2.length (ints L2)) := r
  have LTx2 : Hid (∀ k, (Value.slice (some ⟨w5.heap.size, 0, none⟩) L2.length L2.length).ownBlock = some k → w5.heap.size ≤ k ∧ k < w6.heap.size) := fun k hk => Rx2_w6.out.lt k hk
  clear r b
  clear Rs0_w5 Rx0_w5 Rx1_w5 Ka1_w5 Ks0_w5 Kx1_w5
  obtain ⟨cx1_0, cx1_1, cx1_2⟩ := Kx1_w6.out
  go_wp2_with fail
  refine (IU.out w6 _ _ _ _ _ _ Rx0_w6.out Rx1_w6.out Rx2_w6.out).mono ?_
  rintro e w7 ⟨uag0, ucg0, rfl, rr0, b⟩
  clear cx1_0 cx1_1 cx1_2
  have ZZw7 : Hid (w6.heap.size ≤ w7.heap.size) := b.size
  have BBw7 : Hid (Below w.heap.size w w7) := BBw6.out.trans (b.mono BBw6.out.size)
  have Rs0_w7 : Hid (w7.ownsRow w1.heap.size 2 1 (.slice uas0 X0.length ucs0) X0.length (ints X0)) := row_on Rs0_w6.out b
  have Rx0_w7 : Hid (w7.ownsRow w2.heap.size 2 1 (.slice (some ⟨w2.heap.size, 0, none⟩) L0.length L0.length) L0.length (ints L0)) := row_on Rx0_w6.out b
  have Rx1_w7 : Hid (w7.ownsRow w3.heap.size 2 1 (.slice (some ⟨gx1, 0, none⟩) L1.length L1.length) L1.length (ints L1)) := row_on Rx1_w6.out b
  have Rx2_w7 : Hid (w7.ownsRow w5.heap.size 2 1 (.slice (some ⟨w5.heap.size, 0, none⟩) L2.length L2.length) L2.length (ints L2)) := row_on Rx2_w6.out b
  have Ka1_w7 : Hid (Bk.Box w7 w.heap.size (.slice s1 L1.length c1) (.int .i64 a1_1) (.int .i64 a1_2)) := Ka1_w6.out.on b (by have q0 := ZZwa.out; have q1 := ZZw1.out; have q2 := ZZw2.out; have q3 := ZKs.out; have q4 := ZZw3.out; have q5 := ZZw4.out; have q6 := ZZZw5.out; have q7 := ZZw5.out; have q8 := ZZw6.out; have q9 := HL0.out; have q10 := HL1.out; have q11 := HL2.out; have q12 := HX0.out; omega)
  have Ks0_w7 : Hid (Bk.Box w7 ks (.slice uas0 X0.length ucs0) (.int .i64 r0_1) (.int .i64 r0_2)) := Ks0_w6.out.on b (by have q0 := ZZwa.out; have q1 := ZZw1.out; have q2 := ZZw2.out; have q3 := ZKs.out; have q4 := ZZw3.out; have q5 := ZZw4.out; have q6 := ZZZw5.out; have q7 := ZZw5.out; have q8 := ZZw6.out; have q9 := HL0.out; have q10 := HL1.out; have q11 := HL2.out; have q12 := HX0.out; omega)
  have Kx1_w7 : Hid (Bk.Box w7 w4.heap.size (.slice (some ⟨gx1, 0, none⟩) L1.length L1.length) (.int .i64 a1_1) (.int .i64 a1_2)) := Kx1_w6.out.on b (by have q0 := ZZwa.out; have q1 := ZZw1.out; have q2 := ZZw2.out; have q3 := ZKs.out; have q4 := ZZw3.out; have q5 := ZZw4.out; have q6 := ZZZw5.out; have q7 := ZZw5.out; have q8 := ZZw6.out; have q9 := HL0.out; have q10 := HL1.out; have q11 := HL2.out; have q12 := HX0.out; omega)
  have Rg0_w7 : Hid (w7.ownsRow w6.heap.size 2 1 (.slice uag0 X0.length ucg0) X0.length (ints X0)) := rr0
  have LTg0 : Hid (∀ k, (Value.slice uag0 X0.length ucg0).ownBlock = some k → w6.heap.size ≤ k ∧ k < w7.heap.size) := fun k hk => Rg0_w7.out.lt k hk
  clear rr0
  clear b
  clear Rs0_w6 Rx0_w6 Rx1_w6 Rx2_w6 Ka1_w6 Ks0_w6 Kx1_w6
  obtain ⟨w8, hw8⟩ : ∃ wz, wz = w7.alloc (Obj.cells #[.slice uag0 X0.length ucg0, .int .i64 r0_1, .int .i64 r0_2] 26) := ⟨_, rfl⟩
  have HWw8 : Hid (w8 = w7.alloc (Obj.cells #[.slice uag0 X0.length ucg0, .int .i64 r0_1, .int .i64 r0_2] 26)) := hw8
  have b : Below w7.heap.size w7 w8 := by rw [hw8]; exact (Below.refl _ _).alloc (Nat.le_refl _) _
  have ZZZw8 : Hid (w8.heap.size = w7.heap.size + 1) := (by show _ = _; rw [hw8]; simp)
  have ZZw8 : Hid (w7.heap.size ≤ w8.heap.size) := b.size
  have BBw8 : Hid (Below w.heap.size w w8) := BBw7.out.trans (b.mono BBw7.out.size)
  have Rs0_w8 : Hid (w8.ownsRow w1.heap.size 2 1 (.slice uas0 X0.length ucs0) X0.length (ints X0)) := row_on Rs0_w7.out b
  have Rx0_w8 : Hid (w8.ownsRow w2.heap.size 2 1 (.slice (some ⟨w2.heap.size, 0, none⟩) L0.length L0.length) L0.length (ints L0)) := row_on Rx0_w7.out b
  have Rx1_w8 : Hid (w8.ownsRow w3.heap.size 2 1 (.slice (some ⟨gx1, 0, none⟩) L1.length L1.length) L1.length (ints L1)) := row_on Rx1_w7.out b
  have Rx2_w8 : Hid (w8.ownsRow w5.heap.size 2 1 (.slice (some ⟨w5.heap.size, 0, none⟩) L2.length L2.length) L2.length (ints L2)) := row_on Rx2_w7.out b
  have Rg0_w8 : Hid (w8.ownsRow w6.heap.size 2 1 (.slice uag0 X0.length ucg0) X0.length (ints X0)) := row_on Rg0_w7.out b
  have Ka1_w8 : Hid (Bk.Box w8 w.heap.size (.slice s1 L1.length c1) (.int .i64 a1_1) (.int .i64 a1_2)) := Ka1_w7.out.on b (by have q0 := ZZwa.out; have q1 := ZZw1.out; have q2 := ZZw2.out; have q3 := ZKs.out; have q4 := ZZw3.out; have q5 := ZZw4.out; have q6 := ZZZw5.out; have q7 := ZZw5.out; have q8 := ZZw6.out; have q9 := ZZw7.out; have q10 := ZZZw8.out; have q11 := HL0.out; have q12 := HL1.out; have q13 := HL2.out; have q14 := HX0.out; omega)
  have Ks0_w8 : Hid (Bk.Box w8 ks (.slice uas0 X0.length ucs0) (.int .i64 r0_1) (.int .i64 r0_2)) := Ks0_w7.out.on b (by have q0 := ZZwa.out; have q1 := ZZw1.out; have q2 := ZZw2.out; have q3 := ZKs.out; have q4 := ZZw3.out; have q5 := ZZw4.out; have q6 := ZZZw5.out; have q7 := ZZw5.out; have q8 := ZZw6.out; have q9 := ZZw7.out; have q10 := ZZZw8.out; have q11 := HL0.out; have q12 := HL1.out; have q13 := HL2.out; have q14 := HX0.out; omega)
  have Kx1_w8 : Hid (Bk.Box w8 w4.heap.size (.slice (some ⟨gx1, 0, none⟩) L1.length L1.length) (.int .i64 a1_1) (.int .i64 a1_2)) := Kx1_w7.out.on b (by have q0 := ZZwa.out; have q1 := ZZw1.out; have q2 := ZZw2.out; have q3 := ZKs.out; have q4 := ZZw3.out; have q5 := ZZw4.out; have q6 := ZZZw5.out; have q7 := ZZw5.out; have q8 := ZZw6.out; have q9 := ZZw7.out; have q10 := ZZZw8.out; have q11 := HL0.out; have q12 := HL1.out; have q13 := HL2.out; have q14 := HX0.out; omega)
  have Kg0_w8 : Hid (Bk.Box w8 w7.heap.size (.slice uag0 X0.length ucg0) (.int .i64 r0_1) (.int .i64 r0_2)) := (by show Bk.Box _ _ _ _ _; rw [hw8]; unfold Bk.Box; simp [go_sem])
  clear b hw8
  clear Rs0_w7 Rx0_w7 Rx1_w7 Rx2_w7 Rg0_w7
  obtain ⟨cg0_0, cg0_1, cg0_2⟩ := Kg0_w8.out
  obtain ⟨cs0_0, cs0_1, cs0_2⟩ := Ks0_w7.out
  have ys0 : ks < w7.heap.size := by have q0 := ZZwa.out; have q1 := ZZw1.out; have q2 := ZZw2.out; have q3 := ZKs.out; have q4 := ZZw3.out; have q5 := ZZw4.out; have q6 := ZZZw5.out; have q7 := ZZw5.out; have q8 := ZZw6.out; have q9 := ZZw7.out; have q10 := ZZZw8.out; have q11 := ZZw8.out; have q12 := HL0.out; have q13 := HL1.out; have q14 := HL2.out; have q15 := HX0.out; omega
  go_wp2_with fail
  rw [← HWw8.out]
  clear HWw8
  refine (Bk.eq_st r0_1 r0_2 X0 _ _ _ _ w8 Rg0_w8.out Rs0_w8.out).mono ?_
  rintro e w9 ⟨rfl, b⟩
  clear ys0 Ka1_w7 Ks0_w7 Kx1_w7
  clear cg0_0 cg0_1 cg0_2
  clear cs0_0 cs0_1 cs0_2
  have ZZw9 : Hid (w8.heap.size ≤ w9.heap.size) := b.size
  have BBw9 : Hid (Below w.heap.size w w9) := BBw8.out.trans (b.mono BBw8.out.size)
  have Rs0_w9 : Hid (w9.ownsRow w1.heap.size 2 1 (.slice uas0 X0.length ucs0) X0.length (ints X0)) := row_on Rs0_w8.out b
  have Rx0_w9 : Hid (w9.ownsRow w2.heap.size 2 1 (.slice (some ⟨w2.heap.size, 0, none⟩) L0.length L0.length) L0.length (ints L0)) := row_on Rx0_w8.out b
  have Rx1_w9 : Hid (w9.ownsRow w3.heap.size 2 1 (.slice (some ⟨gx1, 0, none⟩) L1.length L1.length) L1.length (ints L1)) := row_on Rx1_w8.out b
  have Rx2_w9 : Hid (w9.ownsRow w5.heap.size 2 1 (.slice (some ⟨w5.heap.size, 0, none⟩) L2.length L2.length) L2.length (ints L2)) := row_on Rx2_w8.out b
  have Rg0_w9 : Hid (w9.ownsRow w6.heap.size 2 1 (.slice uag0 X0.length ucg0) X0.length (ints X0)) := row_on Rg0_w8.out b
  have Ka1_w9 : Hid (Bk.Box w9 w.heap.size (.slice s1 L1.length c1) (.int .i64 a1_1) (.int .i64 a1_2)) := Ka1_w8.out.on b (by have q0 := ZZwa.out; have q1 := ZZw1.out; have q2 := ZZw2.out; have q3 := ZKs.out; have q4 := ZZw3.out; have q5 := ZZw4.out; have q6 := ZZZw5.out; have q7 := ZZw5.out; have q8 := ZZw6.out; have q9 := ZZw7.out; have q10 := ZZZw8.out; have q11 := ZZw8.out; have q12 := HL0.out; have q13 := HL1.out; have q14 := HL2.out; have q15 := HX0.out; omega)
  have Ks0_w9 : Hid (Bk.Box w9 ks (.slice uas0 X0.length ucs0) (.int .i64 r0_1) (.int .i64 r0_2)) := Ks0_w8.out.on b (by have q0 := ZZwa.out; have q1 := ZZw1.out; have q2 := ZZw2.out; have q3 := ZKs.out; have q4 := ZZw3.out; have q5 := ZZw4.out; have q6 := ZZZw5.out; have q7 := ZZw5.out; have q8 := ZZw6.out; have q9 := ZZw7.out; have q10 := ZZZw8.out; have q11 := ZZw8.out; have q12 := HL0.out; have q13 := HL1.out; have q14 := HL2.out; have q15 := HX0.out; omega)
  have Kx1_w9 : Hid (Bk.Box w9 w4.heap.size (.slice (some ⟨gx1, 0, none⟩) L1.length L1.length) (.int .i64 a1_1) (.int .i64 a1_2)) := Kx1_w8.out.on b (by have q0 := ZZwa.out; have q1 := ZZw1.out; have q2 := ZZw2.out; have q3 := ZKs.out; have q4 := ZZw3.out; have q5 := ZZw4.out; have q6 := ZZZw5.out; have q7 := ZZw5.out; have q8 := ZZw6.out; have q9 := ZZw7.out; have q10 := ZZZw8.out; have q11 := ZZw8.out; have q12 := HL0.out; have q13 := HL1.out; have q14 := HL2.out; have q15 := HX0.out; omega)
  have Kg0_w9 : Hid (Bk.Box w9 w7.heap.size (.slice uag0 X0.length ucg0) (.int .i64 r0_1) (.int .i64 r0_2)) := Kg0_w8.out.on b (by have q0 := ZZwa.out; have q1 := ZZw1.out; have q2 := ZZw2.out; have q3 := ZKs.out; have q4 := ZZw3.out; have q5 := ZZw4.out; have q6 := ZZZw5.out; have q7 := ZZw5.out; have q8 := ZZw6.out; have q9 := ZZw7.out; have q10 := ZZZw8.out; have q11 := ZZw8.out; have q12 := HL0.out; have q13 := HL1.out; have q14 := HL2.out; have q15 := HX0.out; omega)
  clear b
  clear Rs0_w8 Rx0_w8 Rx1_w8 Rx2_w8 Rg0_w8 Ka1_w8 Ks0_w8 Kx1_w8 Kg0_w8
  go_wp2_with fail
  refine (TO0.out w9 BBw9.out).mono ?_
  rintro e w10 ⟨rfl, r, b⟩
  have ZZw10 : Hid (w9.heap.size ≤ w10.heap.size) := b.size
  have BBw10 : Hid (Below w.heap.size w w10) := BBw9.out.trans (b.mono BBw9.out.size)
  have Rs0_w10 : Hid (w10.ownsRow w1.heap.size 2 1 (.slice uas0 X0.length ucs0) X0.length (ints X0)) := row_on Rs0_w9.out b
  have Rx0_w10 : Hid (w10.ownsRow w2.heap.size 2 1 (.slice (some ⟨w2.heap.size, 0, none⟩) L0.length L0.length) L0.length (ints L0)) := row_on Rx0_w9.out b
  have Rx1_w10 : Hid (w10.ownsRow w3.heap.size 2 1 (.slice (some ⟨gx1, 0, none⟩) L1.length L1.length) L1.length (ints L1)) := row_on Rx1_w9.out b
  have Rx2_w10 : Hid (w10.ownsRow w5.heap.size 2 1 (.slice (some ⟨w5.heap.size, 0, none⟩) L2.length L2.length) L2.length (ints L2)) := row_on Rx2_w9.out b
  have Rg0_w10 : Hid (w10.ownsRow w6.heap.size 2 1 (.slice uag0 X0.length ucg0) X0.length (ints X0)) := row_on Rg0_w9.out b
  have Ka1_w10 : Hid (Bk.Box w10 w.heap.size (.slice s1 L1.length c1) (.int .i64 a1_1) (.int .i64 a1_2)) := Ka1_w9.out.on b (by have q0 := ZZwa.out; have q1 := ZZw1.out; have q2 := ZZw2.out; have q3 := ZKs.out; have q4 := ZZw3.out; have q5 := ZZw4.out; have q6 := ZZZw5.out; have q7 := ZZw5.out; have q8 := ZZw6.out; have q9 := ZZw7.out; have q10 := ZZZw8.out; have q11 := ZZw8.out; have q12 := ZZw9.out; have q13 := HL0.out; have q14 := HL1.out; have q15 := HL2.out; have q16 := HX0.out; omega)
  have Ks0_w10 : Hid (Bk.Box w10 ks (.slice uas0 X0.length ucs0) (.int .i64 r0_1) (.int .i64 r0_2)) := Ks0_w9.out.on b (by have q0 := ZZwa.out; have q1 := ZZw1.out; have q2 := ZZw2.out; have q3 := ZKs.out; have q4 := ZZw3.out; have q5 := ZZw4.out; have q6 := ZZZw5.out; have q7 := ZZw5.out; have q8 := ZZw6.out; have q9 := ZZw7.out; have q10 := ZZZw8.out; have q11 := ZZw8.out; have q12 := ZZw9.out; have q13 := HL0.out; have q14 := HL1.out; have q15 := HL2.out; have q16 := HX0.out; omega)
  have Kx1_w10 : Hid (Bk.Box w10 w4.heap.size (.slice (some ⟨gx1, 0, none⟩) L1.length L1.length) (.int .i64 a1_1) (.int .i64 a1_2)) := Kx1_w9.out.on b (by have q0 := ZZwa.out; have q1 := ZZw1.out; have q2 := ZZw2.out; have q3 := ZKs.out; have q4 := ZZw3.out; have q5 := ZZw4.out; have q6 := ZZZw5.out; have q7 := ZZw5.out; have q8 := ZZw6.out; have q9 := ZZw7.out; have q10 := ZZZw8.out; have q11 := ZZw8.out; have q12 := ZZw9.out; have q13 := HL0.out; have q14 := HL1.out; have q15 := HL2.out; have q16 := HX0.out; omega)
  have Kg0_w10 : Hid (Bk.Box w10 w7.heap.size (.slice uag0 X0.length ucg0) (.int .i64 r0_1) (.int .i64 r0_2)) := Kg0_w9.out.on b (by have q0 := ZZwa.out; have q1 := ZZw1.out; have q2 := ZZw2.out; have q3 := ZKs.out; have q4 := ZZw3.out; have q5 := ZZw4.out; have q6 := ZZZw5.out; have q7 := ZZw5.out; have q8 := ZZw6.out; have q9 := ZZw7.out; have q10 := ZZZw8.out; have q11 := ZZw8.out; have q12 := ZZw9.out; have q13 := HL0.out; have q14 := HL1.out; have q15 := HL2.out; have q16 := HX0.out; omega)
  have Ry0_w10 : Hid (w10.ownsRow w9.heap.size 2 1 (.slice (some ⟨w9.heap.size, 0, none⟩) L0.length L0.length) L0.length (ints L0)) := r
  have LTy0 : Hid (∀ k, (Value.slice (some ⟨w9.heap.size, 0, none⟩) L0.length L0.length).ownBlock = some k → w9.heap.size ≤ k ∧ k < w10.heap.size) := fun k hk => Ry0_w10.out.lt k hk
  clear r b
  clear Rs0_w9 Rx0_w9 Rx1_w9 Rx2_w9 Rg0_w9 Ka1_w9 Ks0_w9 Kx1_w9 Kg0_w9
  go_wp2_with fail
  refine (eq_same _ _ _ _ _ L0 Rx0_w10.out Ry0_w10.out).mono ?_
  rintro e w11 ⟨rfl, mw11, hw⟩
  have ZZw11 : Hid (w11.heap.size = w10.heap.size) := (by show _ = _; rw [hw]; rfl)
  have BBw11 : Hid (Below w.heap.size w w11) := (by show Below _ _ _; rw [hw]; exact below_drewN BBw10.out _)
  have Rs0_w11 : Hid (w11.ownsRow w1.heap.size 2 1 (.slice uas0 X0.length ucs0) X0.length (ints X0)) := (by show World.ownsRow _ _ _ _ _ _ _; rw [hw]; exact Rs0_w10.out)
  have Rx0_w11 : Hid (w11.ownsRow w2.heap.size 2 1 (.slice (some ⟨w2.heap.size, 0, none⟩) L0.length L0.length) L0.length (ints L0)) := (by show World.ownsRow _ _ _ _ _ _ _; rw [hw]; exact Rx0_w10.out)
  have Rx1_w11 : Hid (w11.ownsRow w3.heap.size 2 1 (.slice (some ⟨gx1, 0, none⟩) L1.length L1.length) L1.length (ints L1)) := (by show World.ownsRow _ _ _ _ _ _ _; rw [hw]; exact Rx1_w10.out)
  have Rx2_w11 : Hid (w11.ownsRow w5.heap.size 2 1 (.slice (some ⟨w5.heap.size, 0, none⟩) L2.length L2.length) L2.length (ints L2)) := (by show World.ownsRow _ _ _ _ _ _ _; rw [hw]; exact Rx2_w10.out)
  have Rg0_w11 : Hid (w11.ownsRow w6.heap.size 2 1 (.slice uag0 X0.length ucg0) X0.length (ints X0)) := (by show World.ownsRow _ _ _ _ _ _ _; rw [hw]; exact Rg0_w10.out)
  have Ry0_w11 : Hid (w11.ownsRow w9.heap.size 2 1 (.slice (some ⟨w9.heap.size, 0, none⟩) L0.length L0.length) L0.length (ints L0)) := (by show World.ownsRow _ _ _ _ _ _ _; rw [hw]; exact Ry0_w10.out)
  have Ka1_w11 : Hid (Bk.Box w11 w.heap.size (.slice s1 L1.length c1) (.int .i64 a1_1) (.int .i64 a1_2)) := (by show Bk.Box _ _ _ _ _; rw [hw]; exact Ka1_w10.out)
  have Ks0_w11 : Hid (Bk.Box w11 ks (.slice uas0 X0.length ucs0) (.int .i64 r0_1) (.int .i64 r0_2)) := (by show Bk.Box _ _ _ _ _; rw [hw]; exact Ks0_w10.out)
  have Kx1_w11 : Hid (Bk.Box w11 w4.heap.size (.slice (some ⟨gx1, 0, none⟩) L1.length L1.length) (.int .i64 a1_1) (.int .i64 a1_2)) := (by show Bk.Box _ _ _ _ _; rw [hw]; exact Kx1_w10.out)
  have Kg0_w11 : Hid (Bk.Box w11 w7.heap.size (.slice uag0 X0.length ucg0) (.int .i64 r0_1) (.int .i64 r0_2)) := (by show Bk.Box _ _ _ _ _; rw [hw]; exact Kg0_w10.out)
  clear hw
  clear Rs0_w10 Rx0_w10 Rx1_w10 Rx2_w10 Rg0_w10 Ry0_w10 Ka1_w10 Ks0_w10 Kx1_w10 Kg0_w10
  clear Ry0_w11
  obtain ⟨ca1_0, ca1_1, ca1_2⟩ := Ka1_w11.out
  obtain ⟨cx1_0, cx1_1, cx1_2⟩ := Kx1_w11.out
  have BBw11d : Hid (Below w.heap.size w w11.drew) := below_drewN BBw11.out 1
  have Rs0_w11d : Hid (w11.drew.ownsRow w1.heap.size 2 1 (.slice uas0 X0.length ucs0) X0.length (ints X0)) := Rs0_w11.out
  have Rx0_w11d : Hid (w11.drew.ownsRow w2.heap.size 2 1 (.slice (some ⟨w2.heap.size, 0, none⟩) L0.length L0.length) L0.length (ints L0)) := Rx0_w11.out
  have Rx1_w11d : Hid (w11.drew.ownsRow w3.heap.size 2 1 (.slice (some ⟨gx1, 0, none⟩) L1.length L1.length) L1.length (ints L1)) := Rx1_w11.out
  have Rx2_w11d : Hid (w11.drew.ownsRow w5.heap.size 2 1 (.slice (some ⟨w5.heap.size, 0, none⟩) L2.length L2.length) L2.length (ints L2)) := Rx2_w11.out
  have Rg0_w11d : Hid (w11.drew.ownsRow w6.heap.size 2 1 (.slice uag0 X0.length ucg0) X0.length (ints X0)) := Rg0_w11.out
  have Ka1_w11d : Hid (Bk.Box w11.drew w.heap.size (.slice s1 L1.length c1) (.int .i64 a1_1) (.int .i64 a1_2)) := Ka1_w11.out
  have Ks0_w11d : Hid (Bk.Box w11.drew ks (.slice uas0 X0.length ucs0) (.int .i64 r0_1) (.int .i64 r0_2)) := Ks0_w11.out
  have Kx1_w11d : Hid (Bk.Box w11.drew w4.heap.size (.slice (some ⟨gx1, 0, none⟩) L1.length L1.length) (.int .i64 a1_1) (.int .i64 a1_2)) := Kx1_w11.out
  have Kg0_w11d : Hid (Bk.Box w11.drew w7.heap.size (.slice uag0 X0.length ucg0) (.int .i64 r0_1) (.int .i64 r0_2)) := Kg0_w11.out
  have ZZw11d : Hid (w11.drew.heap.size = w11.heap.size) := rfl
  go_wp2_with fail
  go_region_held3 (fun w' => w'.cell? ⟨w.heap.size, 0, none⟩ = some (.slice s1 L1.length c1) ∧ w'.cell? ⟨w.heap.size, 1, none⟩ = some (.int .i64 a1_1) ∧ w'.cell? ⟨w.heap.size, 2, none⟩ = some (.int .i64 a1_2) ∧ w'.cell? ⟨w4.heap.size, 0, none⟩ = some (.slice (some ⟨gx1, 0, none⟩) L1.length L1.length) ∧ w'.cell? ⟨w4.heap.size, 1, none⟩ = some (.int .i64 a1_1) ∧ w'.cell? ⟨w4.heap.size, 2, none⟩ = some (.int .i64 a1_2)) (go_keep)
    (first
    | (go_at_call 7; refine (TO1.out HL1.out _ BBw11d.out).mono ?_; rintro e w12 ⟨gy1, rfl, r, b⟩; clear ca1_0 ca1_1 ca1_2; clear cx1_0 cx1_1 cx1_2; have ZZw12 : Hid (w11.drew.heap.size ≤ w12.heap.size) := b.size; have BBw12 : Hid (Below w.heap.size w w12) := BBw11d.out.trans (b.mono BBw11d.out.size); have Rs0_w12 : Hid (w12.ownsRow w1.heap.size 2 1 (.slice uas0 X0.length ucs0) X0.length (ints X0)) := row_on Rs0_w11d.out b; have Rx0_w12 : Hid (w12.ownsRow w2.heap.size 2 1 (.slice (some ⟨w2.heap.size, 0, none⟩) L0.length L0.length) L0.length (ints L0)) := row_on Rx0_w11d.out b; have Rx1_w12 : Hid (w12.ownsRow w3.heap.size 2 1 (.slice (some ⟨gx1, 0, none⟩) L1.length L1.length) L1.length (ints L1)) := row_on Rx1_w11d.out b; have Rx2_w12 : Hid (w12.ownsRow w5.heap.size 2 1 (.slice (some ⟨w5.heap.size, 0, none⟩) L2.length L2.length) L2.length (ints L2)) := row_on Rx2_w11d.out b; have Rg0_w12 : Hid (w12.ownsRow w6.heap.size 2 1 (.slice uag0 X0.length ucg0) X0.length (ints X0)) := row_on Rg0_w11d.out b; have Ka1_w12 : Hid (Bk.Box w12 w.heap.size (.slice s1 L1.length c1) (.int .i64 a1_1) (.int .i64 a1_2)) := Ka1_w11d.out.on b (by have q0 := ZZwa.out; have q1 := ZZw1.out; have q2 := ZZw2.out; have q3 := ZKs.out; have q4 := ZZw3.out; have q5 := ZZw4.out; have q6 := ZZZw5.out; have q7 := ZZw5.out; have q8 := ZZw6.out; have q9 := ZZw7.out; have q10 := ZZZw8.out; have q11 := ZZw8.out; have q12 := ZZw9.out; have q13 := ZZw10.out; have q14 := ZZw11.out; have q15 := ZZw11d.out; have q16 := HL0.out; have q17 := HL1.out; have q18 := HL2.out; have q19 := HX0.out; omega); have Ks0_w12 : Hid (Bk.Box w12 ks (.slice uas0 X0.length ucs0) (.int .i64 r0_1) (.int .i64 r0_2)) := Ks0_w11d.out.on b (by have q0 := ZZwa.out; have q1 := ZZw1.out; have q2 := ZZw2.out; have q3 := ZKs.out; have q4 := ZZw3.out; have q5 := ZZw4.out; have q6 := ZZZw5.out; have q7 := ZZw5.out; have q8 := ZZw6.out; have q9 := ZZw7.out; have q10 := ZZZw8.out; have q11 := ZZw8.out; have q12 := ZZw9.out; have q13 := ZZw10.out; have q14 := ZZw11.out; have q15 := ZZw11d.out; have q16 := HL0.out; have q17 := HL1.out; have q18 := HL2.out; have q19 := HX0.out; omega); have Kx1_w12 : Hid (Bk.Box w12 w4.heap.size (.slice (some ⟨gx1, 0, none⟩) L1.length L1.length) (.int .i64 a1_1) (.int .i64 a1_2)) := Kx1_w11d.out.on b (by have q0 := ZZwa.out; have q1 := ZZw1.out; have q2 := ZZw2.out; have q3 := ZKs.out; have q4 := ZZw3.out; have q5 := ZZw4.out; have q6 := ZZZw5.out; have q7 := ZZw5.out; have q8 := ZZw6.out; have q9 := ZZw7.out; have q10 := ZZZw8.out; have q11 := ZZw8.out; have q12 := ZZw9.out; have q13 := ZZw10.out; have q14 := ZZw11.out; have q15 := ZZw11d.out; have q16 := HL0.out; have q17 := HL1.out; have q18 := HL2.out; have q19 := HX0.out; omega); have Kg0_w12 : Hid (Bk.Box w12 w7.heap.size (.slice uag0 X0.length ucg0) (.int .i64 r0_1) (.int .i64 r0_2)) := Kg0_w11d.out.on b (by have q0 := ZZwa.out; have q1 := ZZw1.out; have q2 := ZZw2.out; have q3 := ZKs.out; have q4 := ZZw3.out; have q5 := ZZw4.out; have q6 := ZZZw5.out; have q7 := ZZw5.out; have q8 := ZZw6.out; have q9 := ZZw7.out; have q10 := ZZZw8.out; have q11 := ZZw8.out; have q12 := ZZw9.out; have q13 := ZZw10.out; have q14 := ZZw11.out; have q15 := ZZw11d.out; have q16 := HL0.out; have q17 := HL1.out; have q18 := HL2.out; have q19 := HX0.out; omega); have Ry1_w12 : Hid (w12.ownsRow w11.drew.heap.size 2 1 (.slice (some ⟨gy1, 0, none⟩) L1.length L1.length) L1.length (ints L1)) := r; have LTy1 : Hid (∀ k, (Value.slice (some ⟨gy1, 0, none⟩) L1.length L1.length).ownBlock = some k → w11.drew.heap.size ≤ k ∧ k < w12.heap.size) := fun k hk => Ry1_w12.out.lt k hk; clear r b; clear Rs0_w11d Rx0_w11d Rx1_w11d Rx2_w11d Rg0_w11d Ka1_w11d Ks0_w11d Kx1_w11d Kg0_w11d; obtain ⟨da1_w12_0, da1_w12_1, da1_w12_2⟩ := Ka1_w12.out; obtain ⟨dx1_w12_0, dx1_w12_1, dx1_w12_2⟩ := Kx1_w12.out)
    | (go_at_call 9; refine (EQ1.out _ _ _ _ _ Rx1_w12.out Ry1_w12.out).mono ?_; rintro e w13 ⟨rfl, b⟩; have ZZw13 : Hid (w12.heap.size ≤ w13.heap.size) := b.size; have BBw13 : Hid (Below w.heap.size w w13) := BBw12.out.trans (b.mono BBw12.out.size); have Rs0_w13 : Hid (w13.ownsRow w1.heap.size 2 1 (.slice uas0 X0.length ucs0) X0.length (ints X0)) := row_on Rs0_w12.out b; have Rx0_w13 : Hid (w13.ownsRow w2.heap.size 2 1 (.slice (some ⟨w2.heap.size, 0, none⟩) L0.length L0.length) L0.length (ints L0)) := row_on Rx0_w12.out b; have Rx1_w13 : Hid (w13.ownsRow w3.heap.size 2 1 (.slice (some ⟨gx1, 0, none⟩) L1.length L1.length) L1.length (ints L1)) := row_on Rx1_w12.out b; have Rx2_w13 : Hid (w13.ownsRow w5.heap.size 2 1 (.slice (some ⟨w5.heap.size, 0, none⟩) L2.length L2.length) L2.length (ints L2)) := row_on Rx2_w12.out b; have Rg0_w13 : Hid (w13.ownsRow w6.heap.size 2 1 (.slice uag0 X0.length ucg0) X0.length (ints X0)) := row_on Rg0_w12.out b; have Ry1_w13 : Hid (w13.ownsRow w11.drew.heap.size 2 1 (.slice (some ⟨gy1, 0, none⟩) L1.length L1.length) L1.length (ints L1)) := row_on Ry1_w12.out b; have Ka1_w13 : Hid (Bk.Box w13 w.heap.size (.slice s1 L1.length c1) (.int .i64 a1_1) (.int .i64 a1_2)) := Ka1_w12.out.on b (by have q0 := ZZwa.out; have q1 := ZZw1.out; have q2 := ZZw2.out; have q3 := ZKs.out; have q4 := ZZw3.out; have q5 := ZZw4.out; have q6 := ZZZw5.out; have q7 := ZZw5.out; have q8 := ZZw6.out; have q9 := ZZw7.out; have q10 := ZZZw8.out; have q11 := ZZw8.out; have q12 := ZZw9.out; have q13 := ZZw10.out; have q14 := ZZw11.out; have q15 := ZZw11d.out; have q16 := ZZw12.out; have q17 := HL0.out; have q18 := HL1.out; have q19 := HL2.out; have q20 := HX0.out; omega); have Ks0_w13 : Hid (Bk.Box w13 ks (.slice uas0 X0.length ucs0) (.int .i64 r0_1) (.int .i64 r0_2)) := Ks0_w12.out.on b (by have q0 := ZZwa.out; have q1 := ZZw1.out; have q2 := ZZw2.out; have q3 := ZKs.out; have q4 := ZZw3.out; have q5 := ZZw4.out; have q6 := ZZZw5.out; have q7 := ZZw5.out; have q8 := ZZw6.out; have q9 := ZZw7.out; have q10 := ZZZw8.out; have q11 := ZZw8.out; have q12 := ZZw9.out; have q13 := ZZw10.out; have q14 := ZZw11.out; have q15 := ZZw11d.out; have q16 := ZZw12.out; have q17 := HL0.out; have q18 := HL1.out; have q19 := HL2.out; have q20 := HX0.out; omega); have Kx1_w13 : Hid (Bk.Box w13 w4.heap.size (.slice (some ⟨gx1, 0, none⟩) L1.length L1.length) (.int .i64 a1_1) (.int .i64 a1_2)) := Kx1_w12.out.on b (by have q0 := ZZwa.out; have q1 := ZZw1.out; have q2 := ZZw2.out; have q3 := ZKs.out; have q4 := ZZw3.out; have q5 := ZZw4.out; have q6 := ZZZw5.out; have q7 := ZZw5.out; have q8 := ZZw6.out; have q9 := ZZw7.out; have q10 := ZZZw8.out; have q11 := ZZw8.out; have q12 := ZZw9.out; have q13 := ZZw10.out; have q14 := ZZw11.out; have q15 := ZZw11d.out; have q16 := ZZw12.out; have q17 := HL0.out; have q18 := HL1.out; have q19 := HL2.out; have q20 := HX0.out; omega); have Kg0_w13 : Hid (Bk.Box w13 w7.heap.size (.slice uag0 X0.length ucg0) (.int .i64 r0_1) (.int .i64 r0_2)) := Kg0_w12.out.on b (by have q0 := ZZwa.out; have q1 := ZZw1.out; have q2 := ZZw2.out; have q3 := ZKs.out; have q4 := ZZw3.out; have q5 := ZZw4.out; have q6 := ZZZw5.out; have q7 := ZZw5.out; have q8 := ZZw6.out; have q9 := ZZw7.out; have q10 := ZZZw8.out; have q11 := ZZw8.out; have q12 := ZZw9.out; have q13 := ZZw10.out; have q14 := ZZw11.out; have q15 := ZZw11d.out; have q16 := ZZw12.out; have q17 := HL0.out; have q18 := HL1.out; have q19 := HL2.out; have q20 := HX0.out; omega); clear b; clear Rs0_w12 Rx0_w12 Rx1_w12 Rx2_w12 Rg0_w12 Ry1_w12 Ka1_w12 Ks0_w12 Kx1_w12 Kg0_w12; obtain ⟨da1_w13_0, da1_w13_1, da1_w13_2⟩ := Ka1_w13.out; obtain ⟨dx1_w13_0, dx1_w13_1, dx1_w13_2⟩ := Kx1_w13.out))
  clear Ry1_w13
  go_wp2_with fail
  refine (TO2.out w13 BBw13.out).mono ?_
  rintro e w14 ⟨rfl, r, b⟩
  have ZZw14 : Hid (w13.heap.size ≤ w14.heap.size) := b.size
  have BBw14 : Hid (Below w.heap.size w w14) := BBw13.out.trans (b.mono BBw13.out.size)
  have Rs0_w14 : Hid (w14.ownsRow w1.heap.size 2 1 (.slice uas0 X0.length ucs0) X0.length (ints X0)) := row_on Rs0_w13.out b
  have Rx0_w14 : Hid (w14.ownsRow w2.heap.size 2 1 (.slice (some ⟨w2.heap.size, 0, none⟩) L0.length L0.length) L0.length (ints L0)) := row_on Rx0_w13.out b
  have Rx1_w14 : Hid (w14.ownsRow w3.heap.size 2 1 (.slice (some ⟨gx1, 0, none⟩) L1.length L1.length) L1.length (ints L1)) := row_on Rx1_w13.out b
  have Rx2_w14 : Hid (w14.ownsRow w5.heap.size 2 1 (.slice (some ⟨w5.heap.size, 0, none⟩) L2.length L2.length) L2.length (ints L2)) := row_on Rx2_w13.out b
  have Rg0_w14 : Hid (w14.ownsRow w6.heap.size 2 1 (.slice uag0 X0.length ucg0) X0.length (ints X0)) := row_on Rg0_w13.out b
  have Ka1_w14 : Hid (Bk.Box w14 w.heap.size (.slice s1 L1.length c1) (.int .i64 a1_1) (.int .i64 a1_2)) := Ka1_w13.out.on b (by have q0 := ZZwa.out; have q1 := ZZw1.out; have q2 := ZZw2.out; have q3 := ZKs.out; have q4 := ZZw3.out; have q5 := ZZw4.out; have q6 := ZZZw5.out; have q7 := ZZw5.out; have q8 := ZZw6.out; have q9 := ZZw7.out; have q10 := ZZZw8.out; have q11 := ZZw8.out; have q12 := ZZw9.out; have q13 := ZZw10.out; have q14 := ZZw11.out; have q15 := ZZw11d.out; have q16 := ZZw12.out; have q17 := ZZw13.out; have q18 := HL0.out; have q19 := HL1.out; have q20 := HL2.out; have q21 := HX0.out; omega)
  have Ks0_w14 : Hid (Bk.Box w14 ks (.slice uas0 X0.length ucs0) (.int .i64 r0_1) (.int .i64 r0_2)) := Ks0_w13.out.on b (by have q0 := ZZwa.out; have q1 := ZZw1.out; have q2 := ZZw2.out; have q3 := ZKs.out; have q4 := ZZw3.out; have q5 := ZZw4.out; have q6 := ZZZw5.out; have q7 := ZZw5.out; have q8 := ZZw6.out; have q9 := ZZw7.out; have q10 := ZZZw8.out; have q11 := ZZw8.out; have q12 := ZZw9.out; have q13 := ZZw10.out; have q14 := ZZw11.out; have q15 := ZZw11d.out; have q16 := ZZw12.out; have q17 := ZZw13.out; have q18 := HL0.out; have q19 := HL1.out; have q20 := HL2.out; have q21 := HX0.out; omega)
  have Kx1_w14 : Hid (Bk.Box w14 w4.heap.size (.slice (some ⟨gx1, 0, none⟩) L1.length L1.length) (.int .i64 a1_1) (.int .i64 a1_2)) := Kx1_w13.out.on b (by have q0 := ZZwa.out; have q1 := ZZw1.out; have q2 := ZZw2.out; have q3 := ZKs.out; have q4 := ZZw3.out; have q5 := ZZw4.out; have q6 := ZZZw5.out; have q7 := ZZw5.out; have q8 := ZZw6.out; have q9 := ZZw7.out; have q10 := ZZZw8.out; have q11 := ZZw8.out; have q12 := ZZw9.out; have q13 := ZZw10.out; have q14 := ZZw11.out; have q15 := ZZw11d.out; have q16 := ZZw12.out; have q17 := ZZw13.out; have q18 := HL0.out; have q19 := HL1.out; have q20 := HL2.out; have q21 := HX0.out; omega)
  have Kg0_w14 : Hid (Bk.Box w14 w7.heap.size (.slice uag0 X0.length ucg0) (.int .i64 r0_1) (.int .i64 r0_2)) := Kg0_w13.out.on b (by have q0 := ZZwa.out; have q1 := ZZw1.out; have q2 := ZZw2.out; have q3 := ZKs.out; have q4 := ZZw3.out; have q5 := ZZw4.out; have q6 := ZZZw5.out; have q7 := ZZw5.out; have q8 := ZZw6.out; have q9 := ZZw7.out; have q10 := ZZZw8.out; have q11 := ZZw8.out; have q12 := ZZw9.out; have q13 := ZZw10.out; have q14 := ZZw11.out; have q15 := ZZw11d.out; have q16 := ZZw12.out; have q17 := ZZw13.out; have q18 := HL0.out; have q19 := HL1.out; have q20 := HL2.out; have q21 := HX0.out; omega)
  have Ry2_w14 : Hid (w14.ownsRow w13.heap.size 2 1 (.slice (some ⟨w13.heap.size, 0, none⟩) L2.length L2.length) L2.length (ints L2)) := r
  have LTy2 : Hid (∀ k, (Value.slice (some ⟨w13.heap.size, 0, none⟩) L2.length L2.length).ownBlock = some k → w13.heap.size ≤ k ∧ k < w14.heap.size) := fun k hk => Ry2_w14.out.lt k hk
  clear r b
  clear Rs0_w13 Rx0_w13 Rx1_w13 Rx2_w13 Rg0_w13 Ka1_w13 Ks0_w13 Kx1_w13 Kg0_w13
  go_wp2_with fail
  refine (eq_same _ _ _ _ _ L2 Rx2_w14.out Ry2_w14.out).mono ?_
  rintro e w15 ⟨rfl, mw15, hw⟩
  have ZZw15 : Hid (w15.heap.size = w14.heap.size) := (by show _ = _; rw [hw]; rfl)
  have BBw15 : Hid (Below w.heap.size w w15) := (by show Below _ _ _; rw [hw]; exact below_drewN BBw14.out _)
  have Rs0_w15 : Hid (w15.ownsRow w1.heap.size 2 1 (.slice uas0 X0.length ucs0) X0.length (ints X0)) := (by show World.ownsRow _ _ _ _ _ _ _; rw [hw]; exact Rs0_w14.out)
  have Rx0_w15 : Hid (w15.ownsRow w2.heap.size 2 1 (.slice (some ⟨w2.heap.size, 0, none⟩) L0.length L0.length) L0.length (ints L0)) := (by show World.ownsRow _ _ _ _ _ _ _; rw [hw]; exact Rx0_w14.out)
  have Rx1_w15 : Hid (w15.ownsRow w3.heap.size 2 1 (.slice (some ⟨gx1, 0, none⟩) L1.length L1.length) L1.length (ints L1)) := (by show World.ownsRow _ _ _ _ _ _ _; rw [hw]; exact Rx1_w14.out)
  have Rx2_w15 : Hid (w15.ownsRow w5.heap.size 2 1 (.slice (some ⟨w5.heap.size, 0, none⟩) L2.length L2.length) L2.length (ints L2)) := (by show World.ownsRow _ _ _ _ _ _ _; rw [hw]; exact Rx2_w14.out)
  have Rg0_w15 : Hid (w15.ownsRow w6.heap.size 2 1 (.slice uag0 X0.length ucg0) X0.length (ints X0)) := (by show World.ownsRow _ _ _ _ _ _ _; rw [hw]; exact Rg0_w14.out)
  have Ry2_w15 : Hid (w15.ownsRow w13.heap.size 2 1 (.slice (some ⟨w13.heap.size, 0, none⟩) L2.length L2.length) L2.length (ints L2)) := (by show World.ownsRow _ _ _ _ _ _ _; rw [hw]; exact Ry2_w14.out)
  have Ka1_w15 : Hid (Bk.Box w15 w.heap.size (.slice s1 L1.length c1) (.int .i64 a1_1) (.int .i64 a1_2)) := (by show Bk.Box _ _ _ _ _; rw [hw]; exact Ka1_w14.out)
  have Ks0_w15 : Hid (Bk.Box w15 ks (.slice uas0 X0.length ucs0) (.int .i64 r0_1) (.int .i64 r0_2)) := (by show Bk.Box _ _ _ _ _; rw [hw]; exact Ks0_w14.out)
  have Kx1_w15 : Hid (Bk.Box w15 w4.heap.size (.slice (some ⟨gx1, 0, none⟩) L1.length L1.length) (.int .i64 a1_1) (.int .i64 a1_2)) := (by show Bk.Box _ _ _ _ _; rw [hw]; exact Kx1_w14.out)
  have Kg0_w15 : Hid (Bk.Box w15 w7.heap.size (.slice uag0 X0.length ucg0) (.int .i64 r0_1) (.int .i64 r0_2)) := (by show Bk.Box _ _ _ _ _; rw [hw]; exact Kg0_w14.out)
  clear hw
  clear Rs0_w14 Rx0_w14 Rx1_w14 Rx2_w14 Rg0_w14 Ry2_w14 Ka1_w14 Ks0_w14 Kx1_w14 Kg0_w14
  clear Ry2_w15
  go_wp2_with fail
  refine (mark_any w15 _ _ L0 (1) (by have q0 := ZZwa.out; have q1 := ZZw1.out; have q2 := ZZw2.out; have q3 := ZKs.out; have q4 := ZZw3.out; have q5 := ZZw4.out; have q6 := ZZZw5.out; have q7 := ZZw5.out; have q8 := ZZw6.out; have q9 := ZZw7.out; have q10 := ZZZw8.out; have q11 := ZZw8.out; have q12 := ZZw9.out; have q13 := ZZw10.out; have q14 := ZZw11.out; have q15 := ZZw11d.out; have q16 := ZZw12.out; have q17 := ZZw13.out; have q18 := ZZw14.out; have q19 := ZZw15.out; have q20 := HL0.out; have q21 := HL1.out; have q22 := HL2.out; have q23 := HX0.out; omega) (by have q0 := ZZwa.out; have q1 := ZZw1.out; have q2 := ZZw2.out; have q3 := ZKs.out; have q4 := ZZw3.out; have q5 := ZZw4.out; have q6 := ZZZw5.out; have q7 := ZZw5.out; have q8 := ZZw6.out; have q9 := ZZw7.out; have q10 := ZZZw8.out; have q11 := ZZw8.out; have q12 := ZZw9.out; have q13 := ZZw10.out; have q14 := ZZw11.out; have q15 := ZZw11d.out; have q16 := ZZw12.out; have q17 := ZZw13.out; have q18 := ZZw14.out; have q19 := ZZw15.out; have q20 := HL0.out; have q21 := HL1.out; have q22 := HL2.out; have q23 := HX0.out; omega) (by have q0 := ZZwa.out; have q1 := ZZw1.out; have q2 := ZZw2.out; have q3 := ZKs.out; have q4 := ZZw3.out; have q5 := ZZw4.out; have q6 := ZZZw5.out; have q7 := ZZw5.out; have q8 := ZZw6.out; have q9 := ZZw7.out; have q10 := ZZZw8.out; have q11 := ZZw8.out; have q12 := ZZw9.out; have q13 := ZZw10.out; have q14 := ZZw11.out; have q15 := ZZw11d.out; have q16 := ZZw12.out; have q17 := ZZw13.out; have q18 := ZZw14.out; have q19 := ZZw15.out; have q20 := HL0.out; have q21 := HL1.out; have q22 := HL2.out; have q23 := HX0.out; omega) Rx0_w15.out).mono ?_
  rintro e w16 ⟨rfl, r, g⟩
  have ZZw16 : Hid (w15.heap.size ≤ w16.heap.size) := g.size
  have BBw16 : Hid (Below w.heap.size w w16) := BBw15.out.grown g BBw15.out.size (fun k hk => by have q0 := ZZwa.out; have q1 := ZZw1.out; have q2 := ZZw2.out; have q3 := ZKs.out; have q4 := ZZw3.out; have q5 := ZZw4.out; have q6 := ZZZw5.out; have q7 := ZZw5.out; have q8 := ZZw6.out; have q9 := ZZw7.out; have q10 := ZZZw8.out; have q11 := ZZw8.out; have q12 := ZZw9.out; have q13 := ZZw10.out; have q14 := ZZw11.out; have q15 := ZZw11d.out; have q16 := ZZw12.out; have q17 := ZZw13.out; have q18 := ZZw14.out; have q19 := ZZw15.out; have q20 := HL0.out; have q21 := HL1.out; have q22 := HL2.out; have q23 := HX0.out; have := LTx0.out k hk; omega)
  have Rs0_w16 : Hid (w16.ownsRow w1.heap.size 2 1 (.slice uas0 X0.length ucs0) X0.length (ints X0)) := row_off Rs0_w15.out g (fun k j hk hj => by have q0 := ZZwa.out; have q1 := ZZw1.out; have q2 := ZZw2.out; have q3 := ZKs.out; have q4 := ZZw3.out; have q5 := ZZw4.out; have q6 := ZZZw5.out; have q7 := ZZw5.out; have q8 := ZZw6.out; have q9 := ZZw7.out; have q10 := ZZZw8.out; have q11 := ZZw8.out; have q12 := ZZw9.out; have q13 := ZZw10.out; have q14 := ZZw11.out; have q15 := ZZw11d.out; have q16 := ZZw12.out; have q17 := ZZw13.out; have q18 := ZZw14.out; have q19 := ZZw15.out; have q20 := HL0.out; have q21 := HL1.out; have q22 := HL2.out; have q23 := HX0.out; have := LTs0.out k hk; have := LTx0.out j hj; omega)
  have Rx1_w16 : Hid (w16.ownsRow w3.heap.size 2 1 (.slice (some ⟨gx1, 0, none⟩) L1.length L1.length) L1.length (ints L1)) := row_off Rx1_w15.out g (fun k j hk hj => by have q0 := ZZwa.out; have q1 := ZZw1.out; have q2 := ZZw2.out; have q3 := ZKs.out; have q4 := ZZw3.out; have q5 := ZZw4.out; have q6 := ZZZw5.out; have q7 := ZZw5.out; have q8 := ZZw6.out; have q9 := ZZw7.out; have q10 := ZZZw8.out; have q11 := ZZw8.out; have q12 := ZZw9.out; have q13 := ZZw10.out; have q14 := ZZw11.out; have q15 := ZZw11d.out; have q16 := ZZw12.out; have q17 := ZZw13.out; have q18 := ZZw14.out; have q19 := ZZw15.out; have q20 := HL0.out; have q21 := HL1.out; have q22 := HL2.out; have q23 := HX0.out; have := LTx1.out k hk; have := LTx0.out j hj; omega)
  have Rx2_w16 : Hid (w16.ownsRow w5.heap.size 2 1 (.slice (some ⟨w5.heap.size, 0, none⟩) L2.length L2.length) L2.length (ints L2)) := row_off Rx2_w15.out g (fun k j hk hj => by have q0 := ZZwa.out; have q1 := ZZw1.out; have q2 := ZZw2.out; have q3 := ZKs.out; have q4 := ZZw3.out; have q5 := ZZw4.out; have q6 := ZZZw5.out; have q7 := ZZw5.out; have q8 := ZZw6.out; have q9 := ZZw7.out; have q10 := ZZZw8.out; have q11 := ZZw8.out; have q12 := ZZw9.out; have q13 := ZZw10.out; have q14 := ZZw11.out; have q15 := ZZw11d.out; have q16 := ZZw12.out; have q17 := ZZw13.out; have q18 := ZZw14.out; have q19 := ZZw15.out; have q20 := HL0.out; have q21 := HL1.out; have q22 := HL2.out; have q23 := HX0.out; have := LTx2.out k hk; have := LTx0.out j hj; omega)
  have Rg0_w16 : Hid (w16.ownsRow w6.heap.size 2 1 (.slice uag0 X0.length ucg0) X0.length (ints X0)) := row_off Rg0_w15.out g (fun k j hk hj => by have q0 := ZZwa.out; have q1 := ZZw1.out; have q2 := ZZw2.out; have q3 := ZKs.out; have q4 := ZZw3.out; have q5 := ZZw4.out; have q6 := ZZZw5.out; have q7 := ZZw5.out; have q8 := ZZw6.out; have q9 := ZZw7.out; have q10 := ZZZw8.out; have q11 := ZZw8.out; have q12 := ZZw9.out; have q13 := ZZw10.out; have q14 := ZZw11.out; have q15 := ZZw11d.out; have q16 := ZZw12.out; have q17 := ZZw13.out; have q18 := ZZw14.out; have q19 := ZZw15.out; have q20 := HL0.out; have q21 := HL1.out; have q22 := HL2.out; have q23 := HX0.out; have := LTg0.out k hk; have := LTx0.out j hj; omega)
  have Ka1_w16 : Hid (Bk.Box w16 w.heap.size (.slice s1 L1.length c1) (.int .i64 a1_1) (.int .i64 a1_2)) := Ka1_w15.out.apart g (fun k hk => by have q0 := ZZwa.out; have q1 := ZZw1.out; have q2 := ZZw2.out; have q3 := ZKs.out; have q4 := ZZw3.out; have q5 := ZZw4.out; have q6 := ZZZw5.out; have q7 := ZZw5.out; have q8 := ZZw6.out; have q9 := ZZw7.out; have q10 := ZZZw8.out; have q11 := ZZw8.out; have q12 := ZZw9.out; have q13 := ZZw10.out; have q14 := ZZw11.out; have q15 := ZZw11d.out; have q16 := ZZw12.out; have q17 := ZZw13.out; have q18 := ZZw14.out; have q19 := ZZw15.out; have q20 := HL0.out; have q21 := HL1.out; have q22 := HL2.out; have q23 := HX0.out; have := LTx0.out k hk; omega)
  have Ks0_w16 : Hid (Bk.Box w16 ks (.slice uas0 X0.length ucs0) (.int .i64 r0_1) (.int .i64 r0_2)) := Ks0_w15.out.apart g (fun k hk => by have q0 := ZZwa.out; have q1 := ZZw1.out; have q2 := ZZw2.out; have q3 := ZKs.out; have q4 := ZZw3.out; have q5 := ZZw4.out; have q6 := ZZZw5.out; have q7 := ZZw5.out; have q8 := ZZw6.out; have q9 := ZZw7.out; have q10 := ZZZw8.out; have q11 := ZZw8.out; have q12 := ZZw9.out; have q13 := ZZw10.out; have q14 := ZZw11.out; have q15 := ZZw11d.out; have q16 := ZZw12.out; have q17 := ZZw13.out; have q18 := ZZw14.out; have q19 := ZZw15.out; have q20 := HL0.out; have q21 := HL1.out; have q22 := HL2.out; have q23 := HX0.out; have := LTx0.out k hk; omega)
  have Kx1_w16 : Hid (Bk.Box w16 w4.heap.size (.slice (some ⟨gx1, 0, none⟩) L1.length L1.length) (.int .i64 a1_1) (.int .i64 a1_2)) := Kx1_w15.out.apart g (fun k hk => by have q0 := ZZwa.out; have q1 := ZZw1.out; have q2 := ZZw2.out; have q3 := ZKs.out; have q4 := ZZw3.out; have q5 := ZZw4.out; have q6 := ZZZw5.out; have q7 := ZZw5.out; have q8 := ZZw6.out; have q9 := ZZw7.out; have q10 := ZZZw8.out; have q11 := ZZw8.out; have q12 := ZZw9.out; have q13 := ZZw10.out; have q14 := ZZw11.out; have q15 := ZZw11d.out; have q16 := ZZw12.out; have q17 := ZZw13.out; have q18 := ZZw14.out; have q19 := ZZw15.out; have q20 := HL0.out; have q21 := HL1.out; have q22 := HL2.out; have q23 := HX0.out; have := LTx0.out k hk; omega)
  have Kg0_w16 : Hid (Bk.Box w16 w7.heap.size (.slice uag0 X0.length ucg0) (.int .i64 r0_1) (.int .i64 r0_2)) := Kg0_w15.out.apart g (fun k hk => by have q0 := ZZwa.out; have q1 := ZZw1.out; have q2 := ZZw2.out; have q3 := ZKs.out; have q4 := ZZw3.out; have q5 := ZZw4.out; have q6 := ZZZw5.out; have q7 := ZZw5.out; have q8 := ZZw6.out; have q9 := ZZw7.out; have q10 := ZZZw8.out; have q11 := ZZw8.out; have q12 := ZZw9.out; have q13 := ZZw10.out; have q14 := ZZw11.out; have q15 := ZZw11d.out; have q16 := ZZw12.out; have q17 := ZZw13.out; have q18 := ZZw14.out; have q19 := ZZw15.out; have q20 := HL0.out; have q21 := HL1.out; have q22 := HL2.out; have q23 := HX0.out; have := LTx0.out k hk; omega)
  have Rx0_w16 : Hid (w16.ownsRow w2.heap.size 2 1 (.slice (some ⟨w2.heap.size, 0, none⟩) L0.length L0.length) L0.length (ints (sq (1) L0.length))) := r
  clear r g
  clear Rs0_w15 Rx0_w15 Rx1_w15 Rx2_w15 Rg0_w15 Ka1_w15 Ks0_w15 Kx1_w15 Kg0_w15
  obtain ⟨cx1_0, cx1_1, cx1_2⟩ := Kx1_w16.out
  go_wp2_with fail
  refine (Bk.mark_st a1_1 a1_2 L1 _ _ (1 + (L0.length : Int)) w16 (by have q0 := ZZwa.out; have q1 := ZZw1.out; have q2 := ZZw2.out; have q3 := ZKs.out; have q4 := ZZw3.out; have q5 := ZZw4.out; have q6 := ZZZw5.out; have q7 := ZZw5.out; have q8 := ZZw6.out; have q9 := ZZw7.out; have q10 := ZZZw8.out; have q11 := ZZw8.out; have q12 := ZZw9.out; have q13 := ZZw10.out; have q14 := ZZw11.out; have q15 := ZZw11d.out; have q16 := ZZw12.out; have q17 := ZZw13.out; have q18 := ZZw14.out; have q19 := ZZw15.out; have q20 := ZZw16.out; have q21 := HL0.out; have q22 := HL1.out; have q23 := HL2.out; have q24 := HX0.out; omega) (by have q0 := ZZwa.out; have q1 := ZZw1.out; have q2 := ZZw2.out; have q3 := ZKs.out; have q4 := ZZw3.out; have q5 := ZZw4.out; have q6 := ZZZw5.out; have q7 := ZZw5.out; have q8 := ZZw6.out; have q9 := ZZw7.out; have q10 := ZZZw8.out; have q11 := ZZw8.out; have q12 := ZZw9.out; have q13 := ZZw10.out; have q14 := ZZw11.out; have q15 := ZZw11d.out; have q16 := ZZw12.out; have q17 := ZZw13.out; have q18 := ZZw14.out; have q19 := ZZw15.out; have q20 := ZZw16.out; have q21 := HL0.out; have q22 := HL1.out; have q23 := HL2.out; have q24 := HX0.out; omega) (by have q0 := ZZwa.out; have q1 := ZZw1.out; have q2 := ZZw2.out; have q3 := ZKs.out; have q4 := ZZw3.out; have q5 := ZZw4.out; have q6 := ZZZw5.out; have q7 := ZZw5.out; have q8 := ZZw6.out; have q9 := ZZw7.out; have q10 := ZZZw8.out; have q11 := ZZw8.out; have q12 := ZZw9.out; have q13 := ZZw10.out; have q14 := ZZw11.out; have q15 := ZZw11d.out; have q16 := ZZw12.out; have q17 := ZZw13.out; have q18 := ZZw14.out; have q19 := ZZw15.out; have q20 := ZZw16.out; have q21 := HL0.out; have q22 := HL1.out; have q23 := HL2.out; have q24 := HX0.out; omega) Rx1_w16.out).mono ?_
  rintro e w17 ⟨rfl, r, g⟩
  clear cx1_0 cx1_1 cx1_2
  have ZZw17 : Hid (w16.heap.size ≤ w17.heap.size) := g.size
  have BBw17 : Hid (Below w.heap.size w w17) := BBw16.out.grown g BBw16.out.size (fun k hk => by have q0 := ZZwa.out; have q1 := ZZw1.out; have q2 := ZZw2.out; have q3 := ZKs.out; have q4 := ZZw3.out; have q5 := ZZw4.out; have q6 := ZZZw5.out; have q7 := ZZw5.out; have q8 := ZZw6.out; have q9 := ZZw7.out; have q10 := ZZZw8.out; have q11 := ZZw8.out; have q12 := ZZw9.out; have q13 := ZZw10.out; have q14 := ZZw11.out; have q15 := ZZw11d.out; have q16 := ZZw12.out; have q17 := ZZw13.out; have q18 := ZZw14.out; have q19 := ZZw15.out; have q20 := ZZw16.out; have q21 := HL0.out; have q22 := HL1.out; have q23 := HL2.out; have q24 := HX0.out; have := LTx1.out k hk; omega)
  have Rs0_w17 : Hid (w17.ownsRow w1.heap.size 2 1 (.slice uas0 X0.length ucs0) X0.length (ints X0)) := row_off Rs0_w16.out g (fun k j hk hj => by have q0 := ZZwa.out; have q1 := ZZw1.out; have q2 := ZZw2.out; have q3 := ZKs.out; have q4 := ZZw3.out; have q5 := ZZw4.out; have q6 := ZZZw5.out; have q7 := ZZw5.out; have q8 := ZZw6.out; have q9 := ZZw7.out; have q10 := ZZZw8.out; have q11 := ZZw8.out; have q12 := ZZw9.out; have q13 := ZZw10.out; have q14 := ZZw11.out; have q15 := ZZw11d.out; have q16 := ZZw12.out; have q17 := ZZw13.out; have q18 := ZZw14.out; have q19 := ZZw15.out; have q20 := ZZw16.out; have q21 := HL0.out; have q22 := HL1.out; have q23 := HL2.out; have q24 := HX0.out; have := LTs0.out k hk; have := LTx1.out j hj; omega)
  have Rx0_w17 : Hid (w17.ownsRow w2.heap.size 2 1 (.slice (some ⟨w2.heap.size, 0, none⟩) L0.length L0.length) L0.length (ints (sq (1) L0.length))) := row_off Rx0_w16.out g (fun k j hk hj => by have q0 := ZZwa.out; have q1 := ZZw1.out; have q2 := ZZw2.out; have q3 := ZKs.out; have q4 := ZZw3.out; have q5 := ZZw4.out; have q6 := ZZZw5.out; have q7 := ZZw5.out; have q8 := ZZw6.out; have q9 := ZZw7.out; have q10 := ZZZw8.out; have q11 := ZZw8.out; have q12 := ZZw9.out; have q13 := ZZw10.out; have q14 := ZZw11.out; have q15 := ZZw11d.out; have q16 := ZZw12.out; have q17 := ZZw13.out; have q18 := ZZw14.out; have q19 := ZZw15.out; have q20 := ZZw16.out; have q21 := HL0.out; have q22 := HL1.out; have q23 := HL2.out; have q24 := HX0.out; have := LTx0.out k hk; have := LTx1.out j hj; omega)
  have Rx2_w17 : Hid (w17.ownsRow w5.heap.size 2 1 (.slice (some ⟨w5.heap.size, 0, none⟩) L2.length L2.length) L2.length (ints L2)) := row_off Rx2_w16.out g (fun k j hk hj => by have q0 := ZZwa.out; have q1 := ZZw1.out; have q2 := ZZw2.out; have q3 := ZKs.out; have q4 := ZZw3.out; have q5 := ZZw4.out; have q6 := ZZZw5.out; have q7 := ZZw5.out; have q8 := ZZw6.out; have q9 := ZZw7.out; have q10 := ZZZw8.out; have q11 := ZZw8.out; have q12 := ZZw9.out; have q13 := ZZw10.out; have q14 := ZZw11.out; have q15 := ZZw11d.out; have q16 := ZZw12.out; have q17 := ZZw13.out; have q18 := ZZw14.out; have q19 := ZZw15.out; have q20 := ZZw16.out; have q21 := HL0.out; have q22 := HL1.out; have q23 := HL2.out; have q24 := HX0.out; have := LTx2.out k hk; have := LTx1.out j hj; omega)
  have Rg0_w17 : Hid (w17.ownsRow w6.heap.size 2 1 (.slice uag0 X0.length ucg0) X0.length (ints X0)) := row_off Rg0_w16.out g (fun k j hk hj => by have q0 := ZZwa.out; have q1 := ZZw1.out; have q2 := ZZw2.out; have q3 := ZKs.out; have q4 := ZZw3.out; have q5 := ZZw4.out; have q6 := ZZZw5.out; have q7 := ZZw5.out; have q8 := ZZw6.out; have q9 := ZZw7.out; have q10 := ZZZw8.out; have q11 := ZZw8.out; have q12 := ZZw9.out; have q13 := ZZw10.out; have q14 := ZZw11.out; have q15 := ZZw11d.out; have q16 := ZZw12.out; have q17 := ZZw13.out; have q18 := ZZw14.out; have q19 := ZZw15.out; have q20 := ZZw16.out; have q21 := HL0.out; have q22 := HL1.out; have q23 := HL2.out; have q24 := HX0.out; have := LTg0.out k hk; have := LTx1.out j hj; omega)
  have Ka1_w17 : Hid (Bk.Box w17 w.heap.size (.slice s1 L1.length c1) (.int .i64 a1_1) (.int .i64 a1_2)) := Ka1_w16.out.apart g (fun k hk => by have q0 := ZZwa.out; have q1 := ZZw1.out; have q2 := ZZw2.out; have q3 := ZKs.out; have q4 := ZZw3.out; have q5 := ZZw4.out; have q6 := ZZZw5.out; have q7 := ZZw5.out; have q8 := ZZw6.out; have q9 := ZZw7.out; have q10 := ZZZw8.out; have q11 := ZZw8.out; have q12 := ZZw9.out; have q13 := ZZw10.out; have q14 := ZZw11.out; have q15 := ZZw11d.out; have q16 := ZZw12.out; have q17 := ZZw13.out; have q18 := ZZw14.out; have q19 := ZZw15.out; have q20 := ZZw16.out; have q21 := HL0.out; have q22 := HL1.out; have q23 := HL2.out; have q24 := HX0.out; have := LTx1.out k hk; omega)
  have Ks0_w17 : Hid (Bk.Box w17 ks (.slice uas0 X0.length ucs0) (.int .i64 r0_1) (.int .i64 r0_2)) := Ks0_w16.out.apart g (fun k hk => by have q0 := ZZwa.out; have q1 := ZZw1.out; have q2 := ZZw2.out; have q3 := ZKs.out; have q4 := ZZw3.out; have q5 := ZZw4.out; have q6 := ZZZw5.out; have q7 := ZZw5.out; have q8 := ZZw6.out; have q9 := ZZw7.out; have q10 := ZZZw8.out; have q11 := ZZw8.out; have q12 := ZZw9.out; have q13 := ZZw10.out; have q14 := ZZw11.out; have q15 := ZZw11d.out; have q16 := ZZw12.out; have q17 := ZZw13.out; have q18 := ZZw14.out; have q19 := ZZw15.out; have q20 := ZZw16.out; have q21 := HL0.out; have q22 := HL1.out; have q23 := HL2.out; have q24 := HX0.out; have := LTx1.out k hk; omega)
  have Kx1_w17 : Hid (Bk.Box w17 w4.heap.size (.slice (some ⟨gx1, 0, none⟩) L1.length L1.length) (.int .i64 a1_1) (.int .i64 a1_2)) := Kx1_w16.out.apart g (fun k hk => by have q0 := ZZwa.out; have q1 := ZZw1.out; have q2 := ZZw2.out; have q3 := ZKs.out; have q4 := ZZw3.out; have q5 := ZZw4.out; have q6 := ZZZw5.out; have q7 := ZZw5.out; have q8 := ZZw6.out; have q9 := ZZw7.out; have q10 := ZZZw8.out; have q11 := ZZw8.out; have q12 := ZZw9.out; have q13 := ZZw10.out; have q14 := ZZw11.out; have q15 := ZZw11d.out; have q16 := ZZw12.out; have q17 := ZZw13.out; have q18 := ZZw14.out; have q19 := ZZw15.out; have q20 := ZZw16.out; have q21 := HL0.out; have q22 := HL1.out; have q23 := HL2.out; have q24 := HX0.out; have := LTx1.out k hk; omega)
  have Kg0_w17 : Hid (Bk.Box w17 w7.heap.size (.slice uag0 X0.length ucg0) (.int .i64 r0_1) (.int .i64 r0_2)) := Kg0_w16.out.apart g (fun k hk => by have q0 := ZZwa.out; have q1 := ZZw1.out; have q2 := ZZw2.out; have q3 := ZKs.out; have q4 := ZZw3.out; have q5 := ZZw4.out; have q6 := ZZZw5.out; have q7 := ZZw5.out; have q8 := ZZw6.out; have q9 := ZZw7.out; have q10 := ZZZw8.out; have q11 := ZZw8.out; have q12 := ZZw9.out; have q13 := ZZw10.out; have q14 := ZZw11.out; have q15 := ZZw11d.out; have q16 := ZZw12.out; have q17 := ZZw13.out; have q18 := ZZw14.out; have q19 := ZZw15.out; have q20 := ZZw16.out; have q21 := HL0.out; have q22 := HL1.out; have q23 := HL2.out; have q24 := HX0.out; have := LTx1.out k hk; omega)
  have Rx1_w17 : Hid (w17.ownsRow w3.heap.size 2 1 (.slice (some ⟨gx1, 0, none⟩) L1.length L1.length) L1.length (ints (sq (1 + (L0.length : Int)) L1.length))) := r
  clear r g
  clear Rs0_w16 Rx0_w16 Rx1_w16 Rx2_w16 Rg0_w16 Ka1_w16 Ks0_w16 Kx1_w16 Kg0_w16
  go_wp2_with fail
  refine (mark_any w17 _ _ L2 (1 + (L0.length : Int) + (L1.length : Int)) (by have q0 := ZZwa.out; have q1 := ZZw1.out; have q2 := ZZw2.out; have q3 := ZKs.out; have q4 := ZZw3.out; have q5 := ZZw4.out; have q6 := ZZZw5.out; have q7 := ZZw5.out; have q8 := ZZw6.out; have q9 := ZZw7.out; have q10 := ZZZw8.out; have q11 := ZZw8.out; have q12 := ZZw9.out; have q13 := ZZw10.out; have q14 := ZZw11.out; have q15 := ZZw11d.out; have q16 := ZZw12.out; have q17 := ZZw13.out; have q18 := ZZw14.out; have q19 := ZZw15.out; have q20 := ZZw16.out; have q21 := ZZw17.out; have q22 := HL0.out; have q23 := HL1.out; have q24 := HL2.out; have q25 := HX0.out; omega) (by have q0 := ZZwa.out; have q1 := ZZw1.out; have q2 := ZZw2.out; have q3 := ZKs.out; have q4 := ZZw3.out; have q5 := ZZw4.out; have q6 := ZZZw5.out; have q7 := ZZw5.out; have q8 := ZZw6.out; have q9 := ZZw7.out; have q10 := ZZZw8.out; have q11 := ZZw8.out; have q12 := ZZw9.out; have q13 := ZZw10.out; have q14 := ZZw11.out; have q15 := ZZw11d.out; have q16 := ZZw12.out; have q17 := ZZw13.out; have q18 := ZZw14.out; have q19 := ZZw15.out; have q20 := ZZw16.out; have q21 := ZZw17.out; have q22 := HL0.out; have q23 := HL1.out; have q24 := HL2.out; have q25 := HX0.out; omega) (by have q0 := ZZwa.out; have q1 := ZZw1.out; have q2 := ZZw2.out; have q3 := ZKs.out; have q4 := ZZw3.out; have q5 := ZZw4.out; have q6 := ZZZw5.out; have q7 := ZZw5.out; have q8 := ZZw6.out; have q9 := ZZw7.out; have q10 := ZZZw8.out; have q11 := ZZw8.out; have q12 := ZZw9.out; have q13 := ZZw10.out; have q14 := ZZw11.out; have q15 := ZZw11d.out; have q16 := ZZw12.out; have q17 := ZZw13.out; have q18 := ZZw14.out; have q19 := ZZw15.out; have q20 := ZZw16.out; have q21 := ZZw17.out; have q22 := HL0.out; have q23 := HL1.out; have q24 := HL2.out; have q25 := HX0.out; omega) Rx2_w17.out).mono ?_
  rintro e w18 ⟨rfl, r, g⟩
  have ZZw18 : Hid (w17.heap.size ≤ w18.heap.size) := g.size
  have BBw18 : Hid (Below w.heap.size w w18) := BBw17.out.grown g BBw17.out.size (fun k hk => by have q0 := ZZwa.out; have q1 := ZZw1.out; have q2 := ZZw2.out; have q3 := ZKs.out; have q4 := ZZw3.out; have q5 := ZZw4.out; have q6 := ZZZw5.out; have q7 := ZZw5.out; have q8 := ZZw6.out; have q9 := ZZw7.out; have q10 := ZZZw8.out; have q11 := ZZw8.out; have q12 := ZZw9.out; have q13 := ZZw10.out; have q14 := ZZw11.out; have q15 := ZZw11d.out; have q16 := ZZw12.out; have q17 := ZZw13.out; have q18 := ZZw14.out; have q19 := ZZw15.out; have q20 := ZZw16.out; have q21 := ZZw17.out; have q22 := HL0.out; have q23 := HL1.out; have q24 := HL2.out; have q25 := HX0.out; have := LTx2.out k hk; omega)
  have Rs0_w18 : Hid (w18.ownsRow w1.heap.size 2 1 (.slice uas0 X0.length ucs0) X0.length (ints X0)) := row_off Rs0_w17.out g (fun k j hk hj => by have q0 := ZZwa.out; have q1 := ZZw1.out; have q2 := ZZw2.out; have q3 := ZKs.out; have q4 := ZZw3.out; have q5 := ZZw4.out; have q6 := ZZZw5.out; have q7 := ZZw5.out; have q8 := ZZw6.out; have q9 := ZZw7.out; have q10 := ZZZw8.out; have q11 := ZZw8.out; have q12 := ZZw9.out; have q13 := ZZw10.out; have q14 := ZZw11.out; have q15 := ZZw11d.out; have q16 := ZZw12.out; have q17 := ZZw13.out; have q18 := ZZw14.out; have q19 := ZZw15.out; have q20 := ZZw16.out; have q21 := ZZw17.out; have q22 := HL0.out; have q23 := HL1.out; have q24 := HL2.out; have q25 := HX0.out; have := LTs0.out k hk; have := LTx2.out j hj; omega)
  have Rx0_w18 : Hid (w18.ownsRow w2.heap.size 2 1 (.slice (some ⟨w2.heap.size, 0, none⟩) L0.length L0.length) L0.length (ints (sq (1) L0.length))) := row_off Rx0_w17.out g (fun k j hk hj => by have q0 := ZZwa.out; have q1 := ZZw1.out; have q2 := ZZw2.out; have q3 := ZKs.out; have q4 := ZZw3.out; have q5 := ZZw4.out; have q6 := ZZZw5.out; have q7 := ZZw5.out; have q8 := ZZw6.out; have q9 := ZZw7.out; have q10 := ZZZw8.out; have q11 := ZZw8.out; have q12 := ZZw9.out; have q13 := ZZw10.out; have q14 := ZZw11.out; have q15 := ZZw11d.out; have q16 := ZZw12.out; have q17 := ZZw13.out; have q18 := ZZw14.out; have q19 := ZZw15.out; have q20 := ZZw16.out; have q21 := ZZw17.out; have q22 := HL0.out; have q23 := HL1.out; have q24 := HL2.out; have q25 := HX0.out; have := LTx0.out k hk; have := LTx2.out j hj; omega)
  have Rx1_w18 : Hid (w18.ownsRow w3.heap.size 2 1 (.slice (some ⟨gx1, 0, none⟩) L1.length L1.length) L1.length (ints (sq (1 + (L0.length : Int)) L1.length))) := row_off Rx1_w17.out g (fun k j hk hj => by have q0 := ZZwa.out; have q1 := ZZw1.out; have q2 := ZZw2.out; have q3 := ZKs.out; have q4 := ZZw3.out; have q5 := ZZw4.out; have q6 := ZZZw5.out; have q7 := ZZw5.out; have q8 := ZZw6.out; have q9 := ZZw7.out; have q10 := ZZZw8.out; have q11 := ZZw8.out; have q12 := ZZw9.out; have q13 := ZZw10.out; have q14 := ZZw11.out; have q15 := ZZw11d.out; have q16 := ZZw12.out; have q17 := ZZw13.out; have q18 := ZZw14.out; have q19 := ZZw15.out; have q20 := ZZw16.out; have q21 := ZZw17.out; have q22 := HL0.out; have q23 := HL1.out; have q24 := HL2.out; have q25 := HX0.out; have := LTx1.out k hk; have := LTx2.out j hj; omega)
  have Rg0_w18 : Hid (w18.ownsRow w6.heap.size 2 1 (.slice uag0 X0.length ucg0) X0.length (ints X0)) := row_off Rg0_w17.out g (fun k j hk hj => by have q0 := ZZwa.out; have q1 := ZZw1.out; have q2 := ZZw2.out; have q3 := ZKs.out; have q4 := ZZw3.out; have q5 := ZZw4.out; have q6 := ZZZw5.out; have q7 := ZZw5.out; have q8 := ZZw6.out; have q9 := ZZw7.out; have q10 := ZZZw8.out; have q11 := ZZw8.out; have q12 := ZZw9.out; have q13 := ZZw10.out; have q14 := ZZw11.out; have q15 := ZZw11d.out; have q16 := ZZw12.out; have q17 := ZZw13.out; have q18 := ZZw14.out; have q19 := ZZw15.out; have q20 := ZZw16.out; have q21 := ZZw17.out; have q22 := HL0.out; have q23 := HL1.out; have q24 := HL2.out; have q25 := HX0.out; have := LTg0.out k hk; have := LTx2.out j hj; omega)
  have Ka1_w18 : Hid (Bk.Box w18 w.heap.size (.slice s1 L1.length c1) (.int .i64 a1_1) (.int .i64 a1_2)) := Ka1_w17.out.apart g (fun k hk => by have q0 := ZZwa.out; have q1 := ZZw1.out; have q2 := ZZw2.out; have q3 := ZKs.out; have q4 := ZZw3.out; have q5 := ZZw4.out; have q6 := ZZZw5.out; have q7 := ZZw5.out; have q8 := ZZw6.out; have q9 := ZZw7.out; have q10 := ZZZw8.out; have q11 := ZZw8.out; have q12 := ZZw9.out; have q13 := ZZw10.out; have q14 := ZZw11.out; have q15 := ZZw11d.out; have q16 := ZZw12.out; have q17 := ZZw13.out; have q18 := ZZw14.out; have q19 := ZZw15.out; have q20 := ZZw16.out; have q21 := ZZw17.out; have q22 := HL0.out; have q23 := HL1.out; have q24 := HL2.out; have q25 := HX0.out; have := LTx2.out k hk; omega)
  have Ks0_w18 : Hid (Bk.Box w18 ks (.slice uas0 X0.length ucs0) (.int .i64 r0_1) (.int .i64 r0_2)) := Ks0_w17.out.apart g (fun k hk => by have q0 := ZZwa.out; have q1 := ZZw1.out; have q2 := ZZw2.out; have q3 := ZKs.out; have q4 := ZZw3.out; have q5 := ZZw4.out; have q6 := ZZZw5.out; have q7 := ZZw5.out; have q8 := ZZw6.out; have q9 := ZZw7.out; have q10 := ZZZw8.out; have q11 := ZZw8.out; have q12 := ZZw9.out; have q13 := ZZw10.out; have q14 := ZZw11.out; have q15 := ZZw11d.out; have q16 := ZZw12.out; have q17 := ZZw13.out; have q18 := ZZw14.out; have q19 := ZZw15.out; have q20 := ZZw16.out; have q21 := ZZw17.out; have q22 := HL0.out; have q23 := HL1.out; have q24 := HL2.out; have q25 := HX0.out; have := LTx2.out k hk; omega)
  have Kx1_w18 : Hid (Bk.Box w18 w4.heap.size (.slice (some ⟨gx1, 0, none⟩) L1.length L1.length) (.int .i64 a1_1) (.int .i64 a1_2)) := Kx1_w17.out.apart g (fun k hk => by have q0 := ZZwa.out; have q1 := ZZw1.out; have q2 := ZZw2.out; have q3 := ZKs.out; have q4 := ZZw3.out; have q5 := ZZw4.out; have q6 := ZZZw5.out; have q7 := ZZw5.out; have q8 := ZZw6.out; have q9 := ZZw7.out; have q10 := ZZZw8.out; have q11 := ZZw8.out; have q12 := ZZw9.out; have q13 := ZZw10.out; have q14 := ZZw11.out; have q15 := ZZw11d.out; have q16 := ZZw12.out; have q17 := ZZw13.out; have q18 := ZZw14.out; have q19 := ZZw15.out; have q20 := ZZw16.out; have q21 := ZZw17.out; have q22 := HL0.out; have q23 := HL1.out; have q24 := HL2.out; have q25 := HX0.out; have := LTx2.out k hk; omega)
  have Kg0_w18 : Hid (Bk.Box w18 w7.heap.size (.slice uag0 X0.length ucg0) (.int .i64 r0_1) (.int .i64 r0_2)) := Kg0_w17.out.apart g (fun k hk => by have q0 := ZZwa.out; have q1 := ZZw1.out; have q2 := ZZw2.out; have q3 := ZKs.out; have q4 := ZZw3.out; have q5 := ZZw4.out; have q6 := ZZZw5.out; have q7 := ZZw5.out; have q8 := ZZw6.out; have q9 := ZZw7.out; have q10 := ZZZw8.out; have q11 := ZZw8.out; have q12 := ZZw9.out; have q13 := ZZw10.out; have q14 := ZZw11.out; have q15 := ZZw11d.out; have q16 := ZZw12.out; have q17 := ZZw13.out; have q18 := ZZw14.out; have q19 := ZZw15.out; have q20 := ZZw16.out; have q21 := ZZw17.out; have q22 := HL0.out; have q23 := HL1.out; have q24 := HL2.out; have q25 := HX0.out; have := LTx2.out k hk; omega)
  have Rx2_w18 : Hid (w18.ownsRow w5.heap.size 2 1 (.slice (some ⟨w5.heap.size, 0, none⟩) L2.length L2.length) L2.length (ints (sq (1 + (L0.length : Int) + (L1.length : Int)) L2.length))) := r
  clear r g
  clear Rs0_w17 Rx0_w17 Rx1_w17 Rx2_w17 Rg0_w17 Ka1_w17 Ks0_w17 Kx1_w17 Kg0_w17
  clear Rx0_w18
  clear Rx1_w18
  clear Rx2_w18
  clear Kx1_w18
  obtain ⟨cg0_0, cg0_1, cg0_2⟩ := Kg0_w18.out
  obtain ⟨cs0_0, cs0_1, cs0_2⟩ := Ks0_w18.out
  go_wp2_with fail
  refine (Bk.eq_st r0_1 r0_2 X0 _ _ _ _ w18 Rg0_w18.out Rs0_w18.out).mono ?_
  rintro e w19 ⟨rfl, b⟩
  clear cg0_0 cg0_1 cg0_2
  clear cs0_0 cs0_1 cs0_2
  have ZZw19 : Hid (w18.heap.size ≤ w19.heap.size) := b.size
  have BBw19 : Hid (Below w.heap.size w w19) := BBw18.out.trans (b.mono BBw18.out.size)
  have Rs0_w19 : Hid (w19.ownsRow w1.heap.size 2 1 (.slice uas0 X0.length ucs0) X0.length (ints X0)) := row_on Rs0_w18.out b
  have Rg0_w19 : Hid (w19.ownsRow w6.heap.size 2 1 (.slice uag0 X0.length ucg0) X0.length (ints X0)) := row_on Rg0_w18.out b
  have Ka1_w19 : Hid (Bk.Box w19 w.heap.size (.slice s1 L1.length c1) (.int .i64 a1_1) (.int .i64 a1_2)) := Ka1_w18.out.on b (by have q0 := ZZwa.out; have q1 := ZZw1.out; have q2 := ZZw2.out; have q3 := ZKs.out; have q4 := ZZw3.out; have q5 := ZZw4.out; have q6 := ZZZw5.out; have q7 := ZZw5.out; have q8 := ZZw6.out; have q9 := ZZw7.out; have q10 := ZZZw8.out; have q11 := ZZw8.out; have q12 := ZZw9.out; have q13 := ZZw10.out; have q14 := ZZw11.out; have q15 := ZZw11d.out; have q16 := ZZw12.out; have q17 := ZZw13.out; have q18 := ZZw14.out; have q19 := ZZw15.out; have q20 := ZZw16.out; have q21 := ZZw17.out; have q22 := ZZw18.out; have q23 := HL0.out; have q24 := HL1.out; have q25 := HL2.out; have q26 := HX0.out; omega)
  have Ks0_w19 : Hid (Bk.Box w19 ks (.slice uas0 X0.length ucs0) (.int .i64 r0_1) (.int .i64 r0_2)) := Ks0_w18.out.on b (by have q0 := ZZwa.out; have q1 := ZZw1.out; have q2 := ZZw2.out; have q3 := ZKs.out; have q4 := ZZw3.out; have q5 := ZZw4.out; have q6 := ZZZw5.out; have q7 := ZZw5.out; have q8 := ZZw6.out; have q9 := ZZw7.out; have q10 := ZZZw8.out; have q11 := ZZw8.out; have q12 := ZZw9.out; have q13 := ZZw10.out; have q14 := ZZw11.out; have q15 := ZZw11d.out; have q16 := ZZw12.out; have q17 := ZZw13.out; have q18 := ZZw14.out; have q19 := ZZw15.out; have q20 := ZZw16.out; have q21 := ZZw17.out; have q22 := ZZw18.out; have q23 := HL0.out; have q24 := HL1.out; have q25 := HL2.out; have q26 := HX0.out; omega)
  have Kg0_w19 : Hid (Bk.Box w19 w7.heap.size (.slice uag0 X0.length ucg0) (.int .i64 r0_1) (.int .i64 r0_2)) := Kg0_w18.out.on b (by have q0 := ZZwa.out; have q1 := ZZw1.out; have q2 := ZZw2.out; have q3 := ZKs.out; have q4 := ZZw3.out; have q5 := ZZw4.out; have q6 := ZZZw5.out; have q7 := ZZw5.out; have q8 := ZZw6.out; have q9 := ZZw7.out; have q10 := ZZZw8.out; have q11 := ZZw8.out; have q12 := ZZw9.out; have q13 := ZZw10.out; have q14 := ZZw11.out; have q15 := ZZw11d.out; have q16 := ZZw12.out; have q17 := ZZw13.out; have q18 := ZZw14.out; have q19 := ZZw15.out; have q20 := ZZw16.out; have q21 := ZZw17.out; have q22 := ZZw18.out; have q23 := HL0.out; have q24 := HL1.out; have q25 := HL2.out; have q26 := HX0.out; omega)
  clear b
  clear Rs0_w18 Rg0_w18 Ka1_w18 Ks0_w18 Kg0_w18
  obtain ⟨cg0_0, cg0_1, cg0_2⟩ := Kg0_w19.out
  go_wp2_with fail
  refine (Bk.mark_st r0_1 r0_2 X0 _ _ (1) w19 (by have q0 := ZZwa.out; have q1 := ZZw1.out; have q2 := ZZw2.out; have q3 := ZKs.out; have q4 := ZZw3.out; have q5 := ZZw4.out; have q6 := ZZZw5.out; have q7 := ZZw5.out; have q8 := ZZw6.out; have q9 := ZZw7.out; have q10 := ZZZw8.out; have q11 := ZZw8.out; have q12 := ZZw9.out; have q13 := ZZw10.out; have q14 := ZZw11.out; have q15 := ZZw11d.out; have q16 := ZZw12.out; have q17 := ZZw13.out; have q18 := ZZw14.out; have q19 := ZZw15.out; have q20 := ZZw16.out; have q21 := ZZw17.out; have q22 := ZZw18.out; have q23 := ZZw19.out; have q24 := HL0.out; have q25 := HL1.out; have q26 := HL2.out; have q27 := HX0.out; omega) (by have q0 := ZZwa.out; have q1 := ZZw1.out; have q2 := ZZw2.out; have q3 := ZKs.out; have q4 := ZZw3.out; have q5 := ZZw4.out; have q6 := ZZZw5.out; have q7 := ZZw5.out; have q8 := ZZw6.out; have q9 := ZZw7.out; have q10 := ZZZw8.out; have q11 := ZZw8.out; have q12 := ZZw9.out; have q13 := ZZw10.out; have q14 := ZZw11.out; have q15 := ZZw11d.out; have q16 := ZZw12.out; have q17 := ZZw13.out; have q18 := ZZw14.out; have q19 := ZZw15.out; have q20 := ZZw16.out; have q21 := ZZw17.out; have q22 := ZZw18.out; have q23 := ZZw19.out; have q24 := HL0.out; have q25 := HL1.out; have q26 := HL2.out; have q27 := HX0.out; omega) (by have q0 := ZZwa.out; have q1 := ZZw1.out; have q2 := ZZw2.out; have q3 := ZKs.out; have q4 := ZZw3.out; have q5 := ZZw4.out; have q6 := ZZZw5.out; have q7 := ZZw5.out; have q8 := ZZw6.out; have q9 := ZZw7.out; have q10 := ZZZw8.out; have q11 := ZZw8.out; have q12 := ZZw9.out; have q13 := ZZw10.out; have q14 := ZZw11.out; have q15 := ZZw11d.out; have q16 := ZZw12.out; have q17 := ZZw13.out; have q18 := ZZw14.out; have q19 := ZZw15.out; have q20 := ZZw16.out; have q21 := ZZw17.out; have q22 := ZZw18.out; have q23 := ZZw19.out; have q24 := HL0.out; have q25 := HL1.out; have q26 := HL2.out; have q27 := HX0.out; omega) Rg0_w19.out).mono ?_
  rintro e w20 ⟨rfl, r, g⟩
  clear cg0_0 cg0_1 cg0_2
  have ZZw20 : Hid (w19.heap.size ≤ w20.heap.size) := g.size
  have BBw20 : Hid (Below w.heap.size w w20) := BBw19.out.grown g BBw19.out.size (fun k hk => by have q0 := ZZwa.out; have q1 := ZZw1.out; have q2 := ZZw2.out; have q3 := ZKs.out; have q4 := ZZw3.out; have q5 := ZZw4.out; have q6 := ZZZw5.out; have q7 := ZZw5.out; have q8 := ZZw6.out; have q9 := ZZw7.out; have q10 := ZZZw8.out; have q11 := ZZw8.out; have q12 := ZZw9.out; have q13 := ZZw10.out; have q14 := ZZw11.out; have q15 := ZZw11d.out; have q16 := ZZw12.out; have q17 := ZZw13.out; have q18 := ZZw14.out; have q19 := ZZw15.out; have q20 := ZZw16.out; have q21 := ZZw17.out; have q22 := ZZw18.out; have q23 := ZZw19.out; have q24 := HL0.out; have q25 := HL1.out; have q26 := HL2.out; have q27 := HX0.out; have := LTg0.out k hk; omega)
  have Rs0_w20 : Hid (w20.ownsRow w1.heap.size 2 1 (.slice uas0 X0.length ucs0) X0.length (ints X0)) := row_off Rs0_w19.out g (fun k j hk hj => by have q0 := ZZwa.out; have q1 := ZZw1.out; have q2 := ZZw2.out; have q3 := ZKs.out; have q4 := ZZw3.out; have q5 := ZZw4.out; have q6 := ZZZw5.out; have q7 := ZZw5.out; have q8 := ZZw6.out; have q9 := ZZw7.out; have q10 := ZZZw8.out; have q11 := ZZw8.out; have q12 := ZZw9.out; have q13 := ZZw10.out; have q14 := ZZw11.out; have q15 := ZZw11d.out; have q16 := ZZw12.out; have q17 := ZZw13.out; have q18 := ZZw14.out; have q19 := ZZw15.out; have q20 := ZZw16.out; have q21 := ZZw17.out; have q22 := ZZw18.out; have q23 := ZZw19.out; have q24 := HL0.out; have q25 := HL1.out; have q26 := HL2.out; have q27 := HX0.out; have := LTs0.out k hk; have := LTg0.out j hj; omega)
  have Ka1_w20 : Hid (Bk.Box w20 w.heap.size (.slice s1 L1.length c1) (.int .i64 a1_1) (.int .i64 a1_2)) := Ka1_w19.out.apart g (fun k hk => by have q0 := ZZwa.out; have q1 := ZZw1.out; have q2 := ZZw2.out; have q3 := ZKs.out; have q4 := ZZw3.out; have q5 := ZZw4.out; have q6 := ZZZw5.out; have q7 := ZZw5.out; have q8 := ZZw6.out; have q9 := ZZw7.out; have q10 := ZZZw8.out; have q11 := ZZw8.out; have q12 := ZZw9.out; have q13 := ZZw10.out; have q14 := ZZw11.out; have q15 := ZZw11d.out; have q16 := ZZw12.out; have q17 := ZZw13.out; have q18 := ZZw14.out; have q19 := ZZw15.out; have q20 := ZZw16.out; have q21 := ZZw17.out; have q22 := ZZw18.out; have q23 := ZZw19.out; have q24 := HL0.out; have q25 := HL1.out; have q26 := HL2.out; have q27 := HX0.out; have := LTg0.out k hk; omega)
  have Ks0_w20 : Hid (Bk.Box w20 ks (.slice uas0 X0.length ucs0) (.int .i64 r0_1) (.int .i64 r0_2)) := Ks0_w19.out.apart g (fun k hk => by have q0 := ZZwa.out; have q1 := ZZw1.out; have q2 := ZZw2.out; have q3 := ZKs.out; have q4 := ZZw3.out; have q5 := ZZw4.out; have q6 := ZZZw5.out; have q7 := ZZw5.out; have q8 := ZZw6.out; have q9 := ZZw7.out; have q10 := ZZZw8.out; have q11 := ZZw8.out; have q12 := ZZw9.out; have q13 := ZZw10.out; have q14 := ZZw11.out; have q15 := ZZw11d.out; have q16 := ZZw12.out; have q17 := ZZw13.out; have q18 := ZZw14.out; have q19 := ZZw15.out; have q20 := ZZw16.out; have q21 := ZZw17.out; have q22 := ZZw18.out; have q23 := ZZw19.out; have q24 := HL0.out; have q25 := HL1.out; have q26 := HL2.out; have q27 := HX0.out; have := LTg0.out k hk; omega)
  have Kg0_w20 : Hid (Bk.Box w20 w7.heap.size (.slice uag0 X0.length ucg0) (.int .i64 r0_1) (.int .i64 r0_2)) := Kg0_w19.out.apart g (fun k hk => by have q0 := ZZwa.out; have q1 := ZZw1.out; have q2 := ZZw2.out; have q3 := ZKs.out; have q4 := ZZw3.out; have q5 := ZZw4.out; have q6 := ZZZw5.out; have q7 := ZZw5.out; have q8 := ZZw6.out; have q9 := ZZw7.out; have q10 := ZZZw8.out; have q11 := ZZw8.out; have q12 := ZZw9.out; have q13 := ZZw10.out; have q14 := ZZw11.out; have q15 := ZZw11d.out; have q16 := ZZw12.out; have q17 := ZZw13.out; have q18 := ZZw14.out; have q19 := ZZw15.out; have q20 := ZZw16.out; have q21 := ZZw17.out; have q22 := ZZw18.out; have q23 := ZZw19.out; have q24 := HL0.out; have q25 := HL1.out; have q26 := HL2.out; have q27 := HX0.out; have := LTg0.out k hk; omega)
  have Rg0_w20 : Hid (w20.ownsRow w6.heap.size 2 1 (.slice uag0 X0.length ucg0) X0.length (ints (sq (1) X0.length))) := r
  clear r g
  clear Rs0_w19 Rg0_w19 Ka1_w19 Ks0_w19 Kg0_w19
  obtain ⟨cg0_0, cg0_1, cg0_2⟩ := Kg0_w20.out
  go_wp2_with fail
  refine (Bk.held_st r0_1 r0_2 _ X0.length (1) w20 (by have q0 := ZZwa.out; have q1 := ZZw1.out; have q2 := ZZw2.out; have q3 := ZKs.out; have q4 := ZZw3.out; have q5 := ZZw4.out; have q6 := ZZZw5.out; have q7 := ZZw5.out; have q8 := ZZw6.out; have q9 := ZZw7.out; have q10 := ZZZw8.out; have q11 := ZZw8.out; have q12 := ZZw9.out; have q13 := ZZw10.out; have q14 := ZZw11.out; have q15 := ZZw11d.out; have q16 := ZZw12.out; have q17 := ZZw13.out; have q18 := ZZw14.out; have q19 := ZZw15.out; have q20 := ZZw16.out; have q21 := ZZw17.out; have q22 := ZZw18.out; have q23 := ZZw19.out; have q24 := ZZw20.out; have q25 := HL0.out; have q26 := HL1.out; have q27 := HL2.out; have q28 := HX0.out; omega) (by have q0 := ZZwa.out; have q1 := ZZw1.out; have q2 := ZZw2.out; have q3 := ZKs.out; have q4 := ZZw3.out; have q5 := ZZw4.out; have q6 := ZZZw5.out; have q7 := ZZw5.out; have q8 := ZZw6.out; have q9 := ZZw7.out; have q10 := ZZZw8.out; have q11 := ZZw8.out; have q12 := ZZw9.out; have q13 := ZZw10.out; have q14 := ZZw11.out; have q15 := ZZw11d.out; have q16 := ZZw12.out; have q17 := ZZw13.out; have q18 := ZZw14.out; have q19 := ZZw15.out; have q20 := ZZw16.out; have q21 := ZZw17.out; have q22 := ZZw18.out; have q23 := ZZw19.out; have q24 := ZZw20.out; have q25 := HL0.out; have q26 := HL1.out; have q27 := HL2.out; have q28 := HX0.out; omega) (by have := HX0.out; omega) (Lists.reads_row (L := sq (1) X0.length) (by rw [sq_len]; exact Rg0_w20.out))).mono ?_
  rintro e w21 ⟨rfl, b⟩
  clear cg0_0 cg0_1 cg0_2
  have ZZw21 : Hid (w20.heap.size ≤ w21.heap.size) := b.size
  have BBw21 : Hid (Below w.heap.size w w21) := BBw20.out.trans (b.mono BBw20.out.size)
  have Rs0_w21 : Hid (w21.ownsRow w1.heap.size 2 1 (.slice uas0 X0.length ucs0) X0.length (ints X0)) := row_on Rs0_w20.out b
  have Rg0_w21 : Hid (w21.ownsRow w6.heap.size 2 1 (.slice uag0 X0.length ucg0) X0.length (ints (sq (1) X0.length))) := row_on Rg0_w20.out b
  have Ka1_w21 : Hid (Bk.Box w21 w.heap.size (.slice s1 L1.length c1) (.int .i64 a1_1) (.int .i64 a1_2)) := Ka1_w20.out.on b (by have q0 := ZZwa.out; have q1 := ZZw1.out; have q2 := ZZw2.out; have q3 := ZKs.out; have q4 := ZZw3.out; have q5 := ZZw4.out; have q6 := ZZZw5.out; have q7 := ZZw5.out; have q8 := ZZw6.out; have q9 := ZZw7.out; have q10 := ZZZw8.out; have q11 := ZZw8.out; have q12 := ZZw9.out; have q13 := ZZw10.out; have q14 := ZZw11.out; have q15 := ZZw11d.out; have q16 := ZZw12.out; have q17 := ZZw13.out; have q18 := ZZw14.out; have q19 := ZZw15.out; have q20 := ZZw16.out; have q21 := ZZw17.out; have q22 := ZZw18.out; have q23 := ZZw19.out; have q24 := ZZw20.out; have q25 := HL0.out; have q26 := HL1.out; have q27 := HL2.out; have q28 := HX0.out; omega)
  have Ks0_w21 : Hid (Bk.Box w21 ks (.slice uas0 X0.length ucs0) (.int .i64 r0_1) (.int .i64 r0_2)) := Ks0_w20.out.on b (by have q0 := ZZwa.out; have q1 := ZZw1.out; have q2 := ZZw2.out; have q3 := ZKs.out; have q4 := ZZw3.out; have q5 := ZZw4.out; have q6 := ZZZw5.out; have q7 := ZZw5.out; have q8 := ZZw6.out; have q9 := ZZw7.out; have q10 := ZZZw8.out; have q11 := ZZw8.out; have q12 := ZZw9.out; have q13 := ZZw10.out; have q14 := ZZw11.out; have q15 := ZZw11d.out; have q16 := ZZw12.out; have q17 := ZZw13.out; have q18 := ZZw14.out; have q19 := ZZw15.out; have q20 := ZZw16.out; have q21 := ZZw17.out; have q22 := ZZw18.out; have q23 := ZZw19.out; have q24 := ZZw20.out; have q25 := HL0.out; have q26 := HL1.out; have q27 := HL2.out; have q28 := HX0.out; omega)
  have Kg0_w21 : Hid (Bk.Box w21 w7.heap.size (.slice uag0 X0.length ucg0) (.int .i64 r0_1) (.int .i64 r0_2)) := Kg0_w20.out.on b (by have q0 := ZZwa.out; have q1 := ZZw1.out; have q2 := ZZw2.out; have q3 := ZKs.out; have q4 := ZZw3.out; have q5 := ZZw4.out; have q6 := ZZZw5.out; have q7 := ZZw5.out; have q8 := ZZw6.out; have q9 := ZZw7.out; have q10 := ZZZw8.out; have q11 := ZZw8.out; have q12 := ZZw9.out; have q13 := ZZw10.out; have q14 := ZZw11.out; have q15 := ZZw11d.out; have q16 := ZZw12.out; have q17 := ZZw13.out; have q18 := ZZw14.out; have q19 := ZZw15.out; have q20 := ZZw16.out; have q21 := ZZw17.out; have q22 := ZZw18.out; have q23 := ZZw19.out; have q24 := ZZw20.out; have q25 := HL0.out; have q26 := HL1.out; have q27 := HL2.out; have q28 := HX0.out; omega)
  clear b
  clear Rs0_w20 Rg0_w20 Ka1_w20 Ks0_w20 Kg0_w20
  obtain ⟨ca1_0, ca1_1, ca1_2⟩ := Ka1_w21.out
  go_upto_region 36 with fail
  go_cut [18, 19] (fun q r wx => r = .bool b1 ∧ ∃ k ua uc, q = .pointer (some ⟨k, 0, none⟩) ∧ Hid (AN w21 wx k (.slice ua X0.length uc) X0 r0_1 r0_2))
  case first =>
    have BQ := BBw21.out
    have lta1 : w.heap.size < w21.heap.size := by have q0 := ZZwa.out; have q1 := ZZw1.out; have q2 := ZZw2.out; have q3 := ZKs.out; have q4 := ZZw3.out; have q5 := ZZw4.out; have q6 := ZZZw5.out; have q7 := ZZw5.out; have q8 := ZZw6.out; have q9 := ZZw7.out; have q10 := ZZZw8.out; have q11 := ZZw8.out; have q12 := ZZw9.out; have q13 := ZZw10.out; have q14 := ZZw11.out; have q15 := ZZw11d.out; have q16 := ZZw12.out; have q17 := ZZw13.out; have q18 := ZZw14.out; have q19 := ZZw15.out; have q20 := ZZw16.out; have q21 := ZZw17.out; have q22 := ZZw18.out; have q23 := ZZw19.out; have q24 := ZZw20.out; have q25 := ZZw21.out; have q26 := HL0.out; have q27 := HL1.out; have q28 := HL2.out; have q29 := HX0.out; omega
    clear SU EQ1 SZ1 Rs0_w21 Rg0_w21 Ks0_w21 Kg0_w21 ZZwa ZZw1 ZZw2 ZKs ZZw3 ZZw4 ZZZw5 ZZw5 ZZw6 ZZw7 ZZZw8 ZZw8 ZZw9 ZZw10 ZZw11 ZZw11d ZZw12 ZZw13 ZZw14 ZZw15 ZZw16 ZZw17 ZZw18 ZZw19 ZZw20 ZZw21 LTs0 LTg0 HX0 hqq hq0 hq1 hbb hii
    refine wp_region_held_drew (S := fun w' => w'.cell? ⟨w.heap.size, 0, none⟩ = some (.slice s1 L1.length c1) ∧ w'.cell? ⟨w.heap.size, 1, none⟩ = some (.int .i64 a1_1) ∧ w'.cell? ⟨w.heap.size, 2, none⟩ = some (.int .i64 a1_2)) (by kernel_rfl) ⟨ca1_0, ca1_1, ca1_2⟩ (fun hHeld => ?_)
    refine wpAnyH_take (i := 0) (oi := { dst := some 112, op := Go.Op.move (Go.Operand.tmp 0), type := 22, pos := "exact.go:6404", after := #[], guard := none }) (v := ?_) rfl (by kernel_rfl) (by kernel_rfl) (by kernel_rfl) (fun _ _ _ h => h) (Or.inl ⟨by rfl, ?_⟩) (by assumption) ?_
    rotate_left 1
    · (intro w hSw; (try dsimp only at hSw); go_simp); all_goals (with_reducible rfl)
    try simp only [Act.put, List.setIfInBounds_toArray, List.set_cons_zero, List.set_cons_succ]
    refine wpAnyH_take (i := 2) (oi := { dst := some 114, op := Go.Op.load 24 (Go.Operand.tmp 4), type := 24, pos := "exact.go:6404", after := #[], guard := none }) (v := ?_) rfl (by kernel_rfl) (by kernel_rfl) (by kernel_rfl) (fun _ _ _ h => h) (Or.inl ⟨by rfl, ?_⟩) (by assumption) ?_
    rotate_left 1
    · (intro w hSw; (try dsimp only at hSw); go_simp); all_goals (with_reducible rfl)
    try simp only [Act.put, List.setIfInBounds_toArray, List.set_cons_zero, List.set_cons_succ]
    refine wpAnyH_take (i := 4) (oi := { dst := some 116, op := Go.Op.move (Go.Operand.tmp 2), type := 22, pos := "exact.go:6404", after := #[], guard := none }) (v := ?_) rfl (by kernel_rfl) (by kernel_rfl) (by kernel_rfl) (fun _ _ _ h => h) (Or.inl ⟨by rfl, ?_⟩) (by assumption) ?_
    rotate_left 1
    · (intro w hSw; (try dsimp only at hSw); go_simp); all_goals (with_reducible rfl)
    try simp only [Act.put, List.setIfInBounds_toArray, List.set_cons_zero, List.set_cons_succ]
    refine wpAnyH_ready (rs := [1, 10]) (by kernel_rfl) (by simp) ?_
    refine AllReadyH.cons (o := { dst := some 113, op := Go.Op.call { callee := Go.Callee.value (Go.Operand.func 6), args := #[Go.Operand.tmp 112], argTypes := #[22] }, type := 22, pos := "exact.go:6404", after := #[{ on := 0, ground := Go.Ground.data }], guard := none }) rfl (fun K hK => ?_) (AllReadyH.cons (o := { dst := some 18, op := Go.Op.alloc 26, type := 0, pos := "exact.go:6404", after := #[], guard := none }) rfl (fun K hK => ?_) AllReadyH.nil)
    · skip
      go_simp
      refine (TO0.out w21.drew BQ.drew).mono ?_
      rintro e y0 ⟨rfl, t0, d0⟩
      have P0 : Below w21.heap.size w21 y0 := (Below.refl _ _).drew.trans (d0.mono (by simp))
      have H0 : Below w.heap.size w y0 := BQ.trans (P0.mono BQ.size)
      have q0_0 := t0
      obtain ⟨e0a1_0, e0a1_1, e0a1_2⟩ := Ka1_w21.out.on P0 lta1
      go_wp2_with fail
      refine hK.out _ _ (⟨e0a1_0, e0a1_1, e0a1_2⟩) (fun hHeld2 => ?_)
      clear hK K hHeld
      have hHeld := hHeld2
      clear hHeld2
      try simp only [Act.put, List.setIfInBounds_toArray, List.set_cons_zero, List.set_cons_succ]
      refine wpAnyH_ready (rs := [3, 10]) (by kernel_rfl) (by simp) ?_
      refine AllReadyH.cons (o := { dst := some 115, op := Go.Op.call { callee := Go.Callee.value (Go.Operand.func 7), args := #[Go.Operand.tmp 114], argTypes := #[24] }, type := 26, pos := "exact.go:6404", after := #[{ on := 2, ground := Go.Ground.data }, { on := 1, ground := Go.Ground.chain }], guard := none }) rfl (fun K hK => ?_) (AllReadyH.cons (o := { dst := some 18, op := Go.Op.alloc 26, type := 0, pos := "exact.go:6404", after := #[], guard := none }) rfl (fun K hK => ?_) AllReadyH.nil)
      · skip
        go_simp
        refine (TO1.out HL1.out y0 H0).mono ?_
        rintro e y1 ⟨gy1, rfl, t1, d1⟩
        have D1 : Below y0.heap.size y0 y1 := d1
        have P1 : Below w21.heap.size w21 y1 := P0.trans (D1.mono P0.size)
        have H1 : Below w.heap.size w y1 := BQ.trans (P1.mono BQ.size)
        have q0_1 := row_on q0_0 D1
        have q1_1 := t1
        obtain ⟨e1a1_0, e1a1_1, e1a1_2⟩ := Ka1_w21.out.on P1 lta1
        go_wp2_with fail
        refine hK.out _ _ (⟨e1a1_0, e1a1_1, e1a1_2⟩) (fun hHeld2 => ?_)
        clear hK K hHeld
        have hHeld := hHeld2
        clear hHeld2
        try simp only [Act.put, List.setIfInBounds_toArray, List.set_cons_zero, List.set_cons_succ]
        refine wpAnyH_ready (rs := [5, 10]) (by kernel_rfl) (by simp) ?_
        refine AllReadyH.cons (o := { dst := some 117, op := Go.Op.call { callee := Go.Callee.value (Go.Operand.func 6), args := #[Go.Operand.tmp 116], argTypes := #[22] }, type := 22, pos := "exact.go:6404", after := #[{ on := 4, ground := Go.Ground.data }, { on := 3, ground := Go.Ground.chain }], guard := none }) rfl (fun K hK => ?_) (AllReadyH.cons (o := { dst := some 18, op := Go.Op.alloc 26, type := 0, pos := "exact.go:6404", after := #[], guard := none }) rfl (fun K hK => ?_) AllReadyH.nil)
        · skip
          go_simp
          refine (TO2.out y1 H1).mono ?_
          rintro e y2 ⟨rfl, t2, d2⟩
          have D2 : Below y1.heap.size y1 y2 := d2
          have P2 : Below w21.heap.size w21 y2 := P1.trans (D2.mono P1.size)
          have H2 : Below w.heap.size w y2 := BQ.trans (P2.mono BQ.size)
          have q0_2 := row_on q0_1 D2
          have q1_2 := row_on q1_1 D2
          have q2_2 := t2
          obtain ⟨e2a1_0, e2a1_1, e2a1_2⟩ := Ka1_w21.out.on P2 lta1
          go_wp2_with fail
          refine hK.out _ _ (⟨e2a1_0, e2a1_1, e2a1_2⟩) (fun hHeld2 => ?_)
          clear hK K hHeld
          have hHeld := hHeld2
          clear hHeld2
          try simp only [Act.put, List.setIfInBounds_toArray, List.set_cons_zero, List.set_cons_succ]
          refine wpAnyH_ready (rs := [6, 10]) (by kernel_rfl) (by simp) ?_
          refine AllReadyH.cons (o := { dst := some 118, op := Go.Op.call { callee := Go.Callee.value (Go.Operand.func 8), args := #[Go.Operand.tmp 113, Go.Operand.tmp 115, Go.Operand.tmp 117], argTypes := #[22, 26, 22] }, type := 27, pos := "exact.go:6404", after := #[{ on := 1, ground := Go.Ground.data }, { on := 3, ground := Go.Ground.data }, { on := 5, ground := Go.Ground.data }, { on := 5, ground := Go.Ground.chain }], guard := none }) rfl (fun K hK => ?_) (AllReadyH.cons (o := { dst := some 18, op := Go.Op.alloc 26, type := 0, pos := "exact.go:6404", after := #[], guard := none }) rfl (fun K hK => ?_) AllReadyH.nil)
          · skip
            go_simp
            refine (IU.out y2 _ _ _ _ _ _ q0_2 q1_2 q2_2).mono ?_
            rintro e y3 ⟨ua, uc, rfl, t3, d3⟩
            have D3 : Below y2.heap.size y2 y3 := d3
            have P3 : Below w21.heap.size w21 y3 := P2.trans (D3.mono P2.size)
            have H3 : Below w.heap.size w y3 := BQ.trans (P3.mono BQ.size)
            obtain ⟨e3a1_0, e3a1_1, e3a1_2⟩ := Ka1_w21.out.on P3 lta1
            go_wp2_with fail
            refine hK.out _ _ (⟨e3a1_0, e3a1_1, e3a1_2⟩) (fun hHeld2 => ?_)
            clear hK K hHeld
            have hHeld := hHeld2
            clear hHeld2
            try simp only [Act.put, List.setIfInBounds_toArray, List.set_cons_zero, List.set_cons_succ]
            refine wpAnyH_take (i := 7) (oi := { dst := some 111, op := Go.Op.move (Go.Operand.tmp 118), type := 27, pos := "exact.go:6404", after := #[{ on := 6, ground := Go.Ground.data }], guard := none }) (v := ?_) rfl (by kernel_rfl) (by kernel_rfl) (by kernel_rfl) (fun _ _ _ h => h) (Or.inl ⟨by rfl, ?_⟩) (by assumption) ?_
            rotate_left 1
            · (intro w hSw; (try dsimp only at hSw); go_simp); all_goals (with_reducible rfl)
            try simp only [Act.put, List.setIfInBounds_toArray, List.set_cons_zero, List.set_cons_succ]
            refine wpAnyH_take (i := 8) (oi := { dst := some 119, op := Go.Op.extract (Go.Operand.tmp 111) 0, type := 26, pos := "exact.go:6404", after := #[{ on := 7, ground := Go.Ground.data }], guard := none }) (v := ?_) rfl (by kernel_rfl) (by kernel_rfl) (by kernel_rfl) (fun _ _ _ h => h) (Or.inl ⟨by rfl, ?_⟩) (by assumption) ?_
            rotate_left 1
            · (intro w hSw; (try dsimp only at hSw); go_simp); all_goals (with_reducible rfl)
            try simp only [Act.put, List.setIfInBounds_toArray, List.set_cons_zero, List.set_cons_succ]
            refine wpAnyH_take (i := 9) (oi := { dst := some 120, op := Go.Op.extract (Go.Operand.tmp 111) 1, type := 4, pos := "exact.go:6404", after := #[{ on := 7, ground := Go.Ground.data }, { on := 11, ground := Go.Ground.gcOnly Go.Departure.lateStores }], guard := none }) (v := ?_) rfl (by kernel_rfl) (by kernel_rfl) (by kernel_rfl) (fun _ _ _ h => h) (Or.inl ⟨by rfl, ?_⟩) (by assumption) ?_
            rotate_left 1
            · (intro w hSw; (try dsimp only at hSw); go_simp); all_goals (with_reducible rfl)
            try simp only [Act.put, List.setIfInBounds_toArray, List.set_cons_zero, List.set_cons_succ]
            refine wpAnyH_ready (rs := [10]) (by kernel_rfl) (by simp) ?_
            refine AllReadyH.cons (o := { dst := some 18, op := Go.Op.alloc 26, type := 0, pos := "exact.go:6404", after := #[], guard := none }) rfl (fun K hK => ?_) AllReadyH.nil
            go_simp
            refine hK.out _ _ (⟨cell_al e3a1_0, cell_al e3a1_1, cell_al e3a1_2⟩) (fun hHeld2 => ?_)
            clear hK K hHeld
            have hHeld := hHeld2
            clear hHeld2
            try simp only [Act.put, List.setIfInBounds_toArray, List.set_cons_zero, List.set_cons_succ]
            refine wpAnyH_ready (rs := [11]) (by kernel_rfl) (by simp) ?_
            refine AllReadyH.cons (o := { dst := none, op := Go.Op.store 26 (Go.Operand.tmp 18) (Go.Operand.tmp 119), type := 0, pos := "exact.go:6404", after := #[{ on := 10, ground := Go.Ground.data }, { on := 8, ground := Go.Ground.data }, { on := 6, ground := Go.Ground.chain }, { on := 0, ground := Go.Ground.phase }, { on := 1, ground := Go.Ground.phase }, { on := 2, ground := Go.Ground.phase }, { on := 3, ground := Go.Ground.phase }, { on := 4, ground := Go.Ground.phase }, { on := 5, ground := Go.Ground.phase }, { on := 6, ground := Go.Ground.phase }, { on := 7, ground := Go.Ground.phase }, { on := 8, ground := Go.Ground.phase }, { on := 9, ground := Go.Ground.textOnly Go.Departure.lateStores }, { on := 10, ground := Go.Ground.phase }], guard := none }) rfl (fun K hK => ?_) AllReadyH.nil
            go_simp
            refine hK.out _ _ (⟨cell_al e3a1_0, cell_al e3a1_1, cell_al e3a1_2⟩) (fun hHeld2 => ?_)
            clear hK K hHeld
            have hHeld := hHeld2
            clear hHeld2
            try simp only [Act.put, List.setIfInBounds_toArray, List.set_cons_zero, List.set_cons_succ]
            refine wpAnyH_take (i := 12) (oi := { dst := some 19, op := Go.Op.assign (Go.Operand.tmp 120), type := 4, pos := "exact.go:6404", after := #[{ on := 9, ground := Go.Ground.data }, { on := 11, ground := Go.Ground.chain }, { on := 0, ground := Go.Ground.phase }, { on := 1, ground := Go.Ground.phase }, { on := 2, ground := Go.Ground.phase }, { on := 3, ground := Go.Ground.phase }, { on := 4, ground := Go.Ground.phase }, { on := 5, ground := Go.Ground.phase }, { on := 6, ground := Go.Ground.phase }, { on := 7, ground := Go.Ground.phase }, { on := 8, ground := Go.Ground.phase }, { on := 9, ground := Go.Ground.phase }, { on := 10, ground := Go.Ground.phase }, { on := 11, ground := Go.Ground.phase }], guard := none }) (v := ?_) rfl (by kernel_rfl) (by kernel_rfl) (by kernel_rfl) (fun _ _ _ h => h) (Or.inl ⟨by rfl, ?_⟩) (by assumption) ?_
            rotate_left 1
            · (intro w hSw; (try dsimp only at hSw); go_simp); all_goals (with_reducible rfl)
            try simp only [Act.put, List.setIfInBounds_toArray, List.set_cons_zero, List.set_cons_succ]
            refine wpAnyH_done (by kernel_rfl) ?_ _
            go_wp2_with fail
            go_meet
            exact ⟨rfl, _, _, _, rfl, AN.new _ _ P3 t3 P2.size⟩
          · skip
            go_simp
            refine hK.out _ _ (⟨cell_al e2a1_0, cell_al e2a1_1, cell_al e2a1_2⟩) (fun hHeld2 => ?_)
            clear hK K hHeld
            have hHeld := hHeld2
            clear hHeld2
            try simp only [Act.put, List.setIfInBounds_toArray, List.set_cons_zero, List.set_cons_succ]
            refine wpAnyH_ready (rs := [6]) (by kernel_rfl) (by simp) ?_
            refine AllReadyH.cons (o := { dst := some 118, op := Go.Op.call { callee := Go.Callee.value (Go.Operand.func 8), args := #[Go.Operand.tmp 113, Go.Operand.tmp 115, Go.Operand.tmp 117], argTypes := #[22, 26, 22] }, type := 27, pos := "exact.go:6404", after := #[{ on := 1, ground := Go.Ground.data }, { on := 3, ground := Go.Ground.data }, { on := 5, ground := Go.Ground.data }, { on := 5, ground := Go.Ground.chain }], guard := none }) rfl (fun K hK => ?_) AllReadyH.nil
            go_simp
            refine (IU.out (y2.alloc (Obj.cells #[.slice none 0 0, .int .i64 0, .int .i64 0] 26)) _ _ _ _ _ _ (row_on q0_2 ((Below.refl _ _).alloc (Nat.le_refl _) _)) (row_on q1_2 ((Below.refl _ _).alloc (Nat.le_refl _) _)) (row_on q2_2 ((Below.refl _ _).alloc (Nat.le_refl _) _))).mono ?_
            rintro e y3 ⟨ua, uc, rfl, t3, d3⟩
            have D3 : Below y2.heap.size y2 y3 := ((Below.refl _ _).alloc (Nat.le_refl _) _).trans (d3.mono (by simp))
            have P3 : Below w21.heap.size w21 y3 := P2.trans (D3.mono P2.size)
            have H3 : Below w.heap.size w y3 := BQ.trans (P3.mono BQ.size)
            have z3 : ZB y3 y2.heap.size := ZB.new d3
            obtain ⟨e3a1_0, e3a1_1, e3a1_2⟩ := Ka1_w21.out.on P3 lta1
            go_wp2_with fail
            refine hK.out _ _ (⟨e3a1_0, e3a1_1, e3a1_2⟩) (fun hHeld2 => ?_)
            clear hK K hHeld
            have hHeld := hHeld2
            clear hHeld2
            try simp only [Act.put, List.setIfInBounds_toArray, List.set_cons_zero, List.set_cons_succ]
            refine wpAnyH_take (i := 7) (oi := { dst := some 111, op := Go.Op.move (Go.Operand.tmp 118), type := 27, pos := "exact.go:6404", after := #[{ on := 6, ground := Go.Ground.data }], guard := none }) (v := ?_) rfl (by kernel_rfl) (by kernel_rfl) (by kernel_rfl) (fun _ _ _ h => h) (Or.inl ⟨by rfl, ?_⟩) (by assumption) ?_
            rotate_left 1
            · (intro w hSw; (try dsimp only at hSw); go_simp); all_goals (with_reducible rfl)
            try simp only [Act.put, List.setIfInBounds_toArray, List.set_cons_zero, List.set_cons_succ]
            refine wpAnyH_take (i := 8) (oi := { dst := some 119, op := Go.Op.extract (Go.Operand.tmp 111) 0, type := 26, pos := "exact.go:6404", after := #[{ on := 7, ground := Go.Ground.data }], guard := none }) (v := ?_) rfl (by kernel_rfl) (by kernel_rfl) (by kernel_rfl) (fun _ _ _ h => h) (Or.inl ⟨by rfl, ?_⟩) (by assumption) ?_
            rotate_left 1
            · (intro w hSw; (try dsimp only at hSw); go_simp); all_goals (with_reducible rfl)
            try simp only [Act.put, List.setIfInBounds_toArray, List.set_cons_zero, List.set_cons_succ]
            refine wpAnyH_take (i := 9) (oi := { dst := some 120, op := Go.Op.extract (Go.Operand.tmp 111) 1, type := 4, pos := "exact.go:6404", after := #[{ on := 7, ground := Go.Ground.data }, { on := 11, ground := Go.Ground.gcOnly Go.Departure.lateStores }], guard := none }) (v := ?_) rfl (by kernel_rfl) (by kernel_rfl) (by kernel_rfl) (fun _ _ _ h => h) (Or.inl ⟨by rfl, ?_⟩) (by assumption) ?_
            rotate_left 1
            · (intro w hSw; (try dsimp only at hSw); go_simp); all_goals (with_reducible rfl)
            try simp only [Act.put, List.setIfInBounds_toArray, List.set_cons_zero, List.set_cons_succ]
            obtain ⟨zc0, zc1, zc2⟩ := z3.bx
            have zf0 := z3.fz 0
            have zf1 := z3.fz 1
            have zf2 := z3.fz 2
            have zna1 : ¬ w.heap.size = y2.heap.size := Nat.ne_of_lt (Nat.lt_of_lt_of_le lta1 (P2.size))
            have zma1 : ¬ y2.heap.size = w.heap.size := fun h => zna1 h.symm
            refine wpAnyH_ready (rs := [11]) (by kernel_rfl) (by simp) ?_
            refine AllReadyH.cons (o := { dst := none, op := Go.Op.store 26 (Go.Operand.tmp 18) (Go.Operand.tmp 119), type := 0, pos := "exact.go:6404", after := #[{ on := 10, ground := Go.Ground.data }, { on := 8, ground := Go.Ground.data }, { on := 6, ground := Go.Ground.chain }, { on := 0, ground := Go.Ground.phase }, { on := 1, ground := Go.Ground.phase }, { on := 2, ground := Go.Ground.phase }, { on := 3, ground := Go.Ground.phase }, { on := 4, ground := Go.Ground.phase }, { on := 5, ground := Go.Ground.phase }, { on := 6, ground := Go.Ground.phase }, { on := 7, ground := Go.Ground.phase }, { on := 8, ground := Go.Ground.phase }, { on := 9, ground := Go.Ground.textOnly Go.Departure.lateStores }, { on := 10, ground := Go.Ground.phase }], guard := none }) rfl (fun K hK => ?_) AllReadyH.nil
            go_simp
            refine hK.out _ _ (⟨cell_put (cell_put (cell_put e3a1_0 zna1) zna1) zna1, cell_put (cell_put (cell_put e3a1_1 zna1) zna1) zna1, cell_put (cell_put (cell_put e3a1_2 zna1) zna1) zna1⟩) (fun hHeld2 => ?_)
            clear hK K hHeld
            have hHeld := hHeld2
            clear hHeld2
            try simp only [Act.put, List.setIfInBounds_toArray, List.set_cons_zero, List.set_cons_succ]
            refine wpAnyH_take (i := 12) (oi := { dst := some 19, op := Go.Op.assign (Go.Operand.tmp 120), type := 4, pos := "exact.go:6404", after := #[{ on := 9, ground := Go.Ground.data }, { on := 11, ground := Go.Ground.chain }, { on := 0, ground := Go.Ground.phase }, { on := 1, ground := Go.Ground.phase }, { on := 2, ground := Go.Ground.phase }, { on := 3, ground := Go.Ground.phase }, { on := 4, ground := Go.Ground.phase }, { on := 5, ground := Go.Ground.phase }, { on := 6, ground := Go.Ground.phase }, { on := 7, ground := Go.Ground.phase }, { on := 8, ground := Go.Ground.phase }, { on := 9, ground := Go.Ground.phase }, { on := 10, ground := Go.Ground.phase }, { on := 11, ground := Go.Ground.phase }], guard := none }) (v := ?_) rfl (by kernel_rfl) (by kernel_rfl) (by kernel_rfl) (fun _ _ _ h => h) (Or.inl ⟨by rfl, ?_⟩) (by assumption) ?_
            rotate_left 1
            · (intro w hSw; (try dsimp only at hSw); go_simp); all_goals (with_reducible rfl)
            try simp only [Act.put, List.setIfInBounds_toArray, List.set_cons_zero, List.set_cons_succ]
            refine wpAnyH_done (by kernel_rfl) ?_ _
            go_wp2_with fail
            go_meet
            exact ⟨rfl, _, _, _, rfl, AN.all _ _ P3 t3 z3 P2.size (by simp)⟩
        · skip
          go_simp
          refine hK.out _ _ (⟨cell_al e1a1_0, cell_al e1a1_1, cell_al e1a1_2⟩) (fun hHeld2 => ?_)
          clear hK K hHeld
          have hHeld := hHeld2
          clear hHeld2
          try simp only [Act.put, List.setIfInBounds_toArray, List.set_cons_zero, List.set_cons_succ]
          refine wpAnyH_ready (rs := [5]) (by kernel_rfl) (by simp) ?_
          refine AllReadyH.cons (o := { dst := some 117, op := Go.Op.call { callee := Go.Callee.value (Go.Operand.func 6), args := #[Go.Operand.tmp 116], argTypes := #[22] }, type := 22, pos := "exact.go:6404", after := #[{ on := 4, ground := Go.Ground.data }, { on := 3, ground := Go.Ground.chain }], guard := none }) rfl (fun K hK => ?_) AllReadyH.nil
          go_simp
          refine (TO2.out (y1.alloc (Obj.cells #[.slice none 0 0, .int .i64 0, .int .i64 0] 26)) (H1.alloc H1.size _)).mono ?_
          rintro e y2 ⟨rfl, t2, d2⟩
          have hs2 : (y1.alloc (Obj.cells #[.slice none 0 0, .int .i64 0, .int .i64 0] 26)).heap.size = y1.heap.size + 1 := by simp
          rw [hs2] at t2
          clear hs2
          have D2 : Below y1.heap.size y1 y2 := ((Below.refl _ _).alloc (Nat.le_refl _) _).trans (d2.mono (by simp))
          have P2 : Below w21.heap.size w21 y2 := P1.trans (D2.mono P1.size)
          have H2 : Below w.heap.size w y2 := BQ.trans (P2.mono BQ.size)
          have q0_2 := row_on q0_1 D2
          have q1_2 := row_on q1_1 D2
          have q2_2 := t2
          have z2 : ZB y2 y1.heap.size := ZB.new d2
          obtain ⟨e2a1_0, e2a1_1, e2a1_2⟩ := Ka1_w21.out.on P2 lta1
          go_wp2_with fail
          refine hK.out _ _ (⟨e2a1_0, e2a1_1, e2a1_2⟩) (fun hHeld2 => ?_)
          clear hK K hHeld
          have hHeld := hHeld2
          clear hHeld2
          try simp only [Act.put, List.setIfInBounds_toArray, List.set_cons_zero, List.set_cons_succ]
          refine wpAnyH_ready (rs := [6]) (by kernel_rfl) (by simp) ?_
          refine AllReadyH.cons (o := { dst := some 118, op := Go.Op.call { callee := Go.Callee.value (Go.Operand.func 8), args := #[Go.Operand.tmp 113, Go.Operand.tmp 115, Go.Operand.tmp 117], argTypes := #[22, 26, 22] }, type := 27, pos := "exact.go:6404", after := #[{ on := 1, ground := Go.Ground.data }, { on := 3, ground := Go.Ground.data }, { on := 5, ground := Go.Ground.data }, { on := 5, ground := Go.Ground.chain }], guard := none }) rfl (fun K hK => ?_) AllReadyH.nil
          go_simp
          refine (IU.out y2 _ _ _ _ _ _ q0_2 q1_2 q2_2).mono ?_
          rintro e y3 ⟨ua, uc, rfl, t3, d3⟩
          have D3 : Below y2.heap.size y2 y3 := d3
          have P3 : Below w21.heap.size w21 y3 := P2.trans (D3.mono P2.size)
          have H3 : Below w.heap.size w y3 := BQ.trans (P3.mono BQ.size)
          have z3 : ZB y3 y1.heap.size := z2.on D3
          obtain ⟨e3a1_0, e3a1_1, e3a1_2⟩ := Ka1_w21.out.on P3 lta1
          go_wp2_with fail
          refine hK.out _ _ (⟨e3a1_0, e3a1_1, e3a1_2⟩) (fun hHeld2 => ?_)
          clear hK K hHeld
          have hHeld := hHeld2
          clear hHeld2
          try simp only [Act.put, List.setIfInBounds_toArray, List.set_cons_zero, List.set_cons_succ]
          refine wpAnyH_take (i := 7) (oi := { dst := some 111, op := Go.Op.move (Go.Operand.tmp 118), type := 27, pos := "exact.go:6404", after := #[{ on := 6, ground := Go.Ground.data }], guard := none }) (v := ?_) rfl (by kernel_rfl) (by kernel_rfl) (by kernel_rfl) (fun _ _ _ h => h) (Or.inl ⟨by rfl, ?_⟩) (by assumption) ?_
          rotate_left 1
          · (intro w hSw; (try dsimp only at hSw); go_simp); all_goals (with_reducible rfl)
          try simp only [Act.put, List.setIfInBounds_toArray, List.set_cons_zero, List.set_cons_succ]
          refine wpAnyH_take (i := 8) (oi := { dst := some 119, op := Go.Op.extract (Go.Operand.tmp 111) 0, type := 26, pos := "exact.go:6404", after := #[{ on := 7, ground := Go.Ground.data }], guard := none }) (v := ?_) rfl (by kernel_rfl) (by kernel_rfl) (by kernel_rfl) (fun _ _ _ h => h) (Or.inl ⟨by rfl, ?_⟩) (by assumption) ?_
          rotate_left 1
          · (intro w hSw; (try dsimp only at hSw); go_simp); all_goals (with_reducible rfl)
          try simp only [Act.put, List.setIfInBounds_toArray, List.set_cons_zero, List.set_cons_succ]
          refine wpAnyH_take (i := 9) (oi := { dst := some 120, op := Go.Op.extract (Go.Operand.tmp 111) 1, type := 4, pos := "exact.go:6404", after := #[{ on := 7, ground := Go.Ground.data }, { on := 11, ground := Go.Ground.gcOnly Go.Departure.lateStores }], guard := none }) (v := ?_) rfl (by kernel_rfl) (by kernel_rfl) (by kernel_rfl) (fun _ _ _ h => h) (Or.inl ⟨by rfl, ?_⟩) (by assumption) ?_
          rotate_left 1
          · (intro w hSw; (try dsimp only at hSw); go_simp); all_goals (with_reducible rfl)
          try simp only [Act.put, List.setIfInBounds_toArray, List.set_cons_zero, List.set_cons_succ]
          obtain ⟨zc0, zc1, zc2⟩ := z3.bx
          have zf0 := z3.fz 0
          have zf1 := z3.fz 1
          have zf2 := z3.fz 2
          have zna1 : ¬ w.heap.size = y1.heap.size := Nat.ne_of_lt (Nat.lt_of_lt_of_le lta1 (P1.size))
          have zma1 : ¬ y1.heap.size = w.heap.size := fun h => zna1 h.symm
          refine wpAnyH_ready (rs := [11]) (by kernel_rfl) (by simp) ?_
          refine AllReadyH.cons (o := { dst := none, op := Go.Op.store 26 (Go.Operand.tmp 18) (Go.Operand.tmp 119), type := 0, pos := "exact.go:6404", after := #[{ on := 10, ground := Go.Ground.data }, { on := 8, ground := Go.Ground.data }, { on := 6, ground := Go.Ground.chain }, { on := 0, ground := Go.Ground.phase }, { on := 1, ground := Go.Ground.phase }, { on := 2, ground := Go.Ground.phase }, { on := 3, ground := Go.Ground.phase }, { on := 4, ground := Go.Ground.phase }, { on := 5, ground := Go.Ground.phase }, { on := 6, ground := Go.Ground.phase }, { on := 7, ground := Go.Ground.phase }, { on := 8, ground := Go.Ground.phase }, { on := 9, ground := Go.Ground.textOnly Go.Departure.lateStores }, { on := 10, ground := Go.Ground.phase }], guard := none }) rfl (fun K hK => ?_) AllReadyH.nil
          go_simp
          refine hK.out _ _ (⟨cell_put (cell_put (cell_put e3a1_0 zna1) zna1) zna1, cell_put (cell_put (cell_put e3a1_1 zna1) zna1) zna1, cell_put (cell_put (cell_put e3a1_2 zna1) zna1) zna1⟩) (fun hHeld2 => ?_)
          clear hK K hHeld
          have hHeld := hHeld2
          clear hHeld2
          try simp only [Act.put, List.setIfInBounds_toArray, List.set_cons_zero, List.set_cons_succ]
          refine wpAnyH_take (i := 12) (oi := { dst := some 19, op := Go.Op.assign (Go.Operand.tmp 120), type := 4, pos := "exact.go:6404", after := #[{ on := 9, ground := Go.Ground.data }, { on := 11, ground := Go.Ground.chain }, { on := 0, ground := Go.Ground.phase }, { on := 1, ground := Go.Ground.phase }, { on := 2, ground := Go.Ground.phase }, { on := 3, ground := Go.Ground.phase }, { on := 4, ground := Go.Ground.phase }, { on := 5, ground := Go.Ground.phase }, { on := 6, ground := Go.Ground.phase }, { on := 7, ground := Go.Ground.phase }, { on := 8, ground := Go.Ground.phase }, { on := 9, ground := Go.Ground.phase }, { on := 10, ground := Go.Ground.phase }, { on := 11, ground := Go.Ground.phase }], guard := none }) (v := ?_) rfl (by kernel_rfl) (by kernel_rfl) (by kernel_rfl) (fun _ _ _ h => h) (Or.inl ⟨by rfl, ?_⟩) (by assumption) ?_
          rotate_left 1
          · (intro w hSw; (try dsimp only at hSw); go_simp); all_goals (with_reducible rfl)
          try simp only [Act.put, List.setIfInBounds_toArray, List.set_cons_zero, List.set_cons_succ]
          refine wpAnyH_done (by kernel_rfl) ?_ _
          go_wp2_with fail
          go_meet
          exact ⟨rfl, _, _, _, rfl, AN.all _ _ P3 t3 z3 P1.size z2.lt⟩
      · skip
        go_simp
        refine hK.out _ _ (⟨cell_al e0a1_0, cell_al e0a1_1, cell_al e0a1_2⟩) (fun hHeld2 => ?_)
        clear hK K hHeld
        have hHeld := hHeld2
        clear hHeld2
        try simp only [Act.put, List.setIfInBounds_toArray, List.set_cons_zero, List.set_cons_succ]
        refine wpAnyH_ready (rs := [3]) (by kernel_rfl) (by simp) ?_
        refine AllReadyH.cons (o := { dst := some 115, op := Go.Op.call { callee := Go.Callee.value (Go.Operand.func 7), args := #[Go.Operand.tmp 114], argTypes := #[24] }, type := 26, pos := "exact.go:6404", after := #[{ on := 2, ground := Go.Ground.data }, { on := 1, ground := Go.Ground.chain }], guard := none }) rfl (fun K hK => ?_) AllReadyH.nil
        go_simp
        refine (TO1.out HL1.out (y0.alloc (Obj.cells #[.slice none 0 0, .int .i64 0, .int .i64 0] 26)) (H0.alloc H0.size _)).mono ?_
        rintro e y1 ⟨gy1, rfl, t1, d1⟩
        have D1 : Below y0.heap.size y0 y1 := ((Below.refl _ _).alloc (Nat.le_refl _) _).trans (d1.mono (by simp))
        have P1 : Below w21.heap.size w21 y1 := P0.trans (D1.mono P0.size)
        have H1 : Below w.heap.size w y1 := BQ.trans (P1.mono BQ.size)
        have q0_1 := row_on q0_0 D1
        have q1_1 := t1
        have z1 : ZB y1 y0.heap.size := ZB.new d1
        obtain ⟨e1a1_0, e1a1_1, e1a1_2⟩ := Ka1_w21.out.on P1 lta1
        go_wp2_with fail
        refine hK.out _ _ (⟨e1a1_0, e1a1_1, e1a1_2⟩) (fun hHeld2 => ?_)
        clear hK K hHeld
        have hHeld := hHeld2
        clear hHeld2
        try simp only [Act.put, List.setIfInBounds_toArray, List.set_cons_zero, List.set_cons_succ]
        refine wpAnyH_ready (rs := [5]) (by kernel_rfl) (by simp) ?_
        refine AllReadyH.cons (o := { dst := some 117, op := Go.Op.call { callee := Go.Callee.value (Go.Operand.func 6), args := #[Go.Operand.tmp 116], argTypes := #[22] }, type := 22, pos := "exact.go:6404", after := #[{ on := 4, ground := Go.Ground.data }, { on := 3, ground := Go.Ground.chain }], guard := none }) rfl (fun K hK => ?_) AllReadyH.nil
        go_simp
        refine (TO2.out y1 H1).mono ?_
        rintro e y2 ⟨rfl, t2, d2⟩
        have D2 : Below y1.heap.size y1 y2 := d2
        have P2 : Below w21.heap.size w21 y2 := P1.trans (D2.mono P1.size)
        have H2 : Below w.heap.size w y2 := BQ.trans (P2.mono BQ.size)
        have q0_2 := row_on q0_1 D2
        have q1_2 := row_on q1_1 D2
        have q2_2 := t2
        have z2 : ZB y2 y0.heap.size := z1.on D2
        obtain ⟨e2a1_0, e2a1_1, e2a1_2⟩ := Ka1_w21.out.on P2 lta1
        go_wp2_with fail
        refine hK.out _ _ (⟨e2a1_0, e2a1_1, e2a1_2⟩) (fun hHeld2 => ?_)
        clear hK K hHeld
        have hHeld := hHeld2
        clear hHeld2
        try simp only [Act.put, List.setIfInBounds_toArray, List.set_cons_zero, List.set_cons_succ]
        refine wpAnyH_ready (rs := [6]) (by kernel_rfl) (by simp) ?_
        refine AllReadyH.cons (o := { dst := some 118, op := Go.Op.call { callee := Go.Callee.value (Go.Operand.func 8), args := #[Go.Operand.tmp 113, Go.Operand.tmp 115, Go.Operand.tmp 117], argTypes := #[22, 26, 22] }, type := 27, pos := "exact.go:6404", after := #[{ on := 1, ground := Go.Ground.data }, { on := 3, ground := Go.Ground.data }, { on := 5, ground := Go.Ground.data }, { on := 5, ground := Go.Ground.chain }], guard := none }) rfl (fun K hK => ?_) AllReadyH.nil
        go_simp
        refine (IU.out y2 _ _ _ _ _ _ q0_2 q1_2 q2_2).mono ?_
        rintro e y3 ⟨ua, uc, rfl, t3, d3⟩
        have D3 : Below y2.heap.size y2 y3 := d3
        have P3 : Below w21.heap.size w21 y3 := P2.trans (D3.mono P2.size)
        have H3 : Below w.heap.size w y3 := BQ.trans (P3.mono BQ.size)
        have z3 : ZB y3 y0.heap.size := z2.on D3
        obtain ⟨e3a1_0, e3a1_1, e3a1_2⟩ := Ka1_w21.out.on P3 lta1
        go_wp2_with fail
        refine hK.out _ _ (⟨e3a1_0, e3a1_1, e3a1_2⟩) (fun hHeld2 => ?_)
        clear hK K hHeld
        have hHeld := hHeld2
        clear hHeld2
        try simp only [Act.put, List.setIfInBounds_toArray, List.set_cons_zero, List.set_cons_succ]
        refine wpAnyH_take (i := 7) (oi := { dst := some 111, op := Go.Op.move (Go.Operand.tmp 118), type := 27, pos := "exact.go:6404", after := #[{ on := 6, ground := Go.Ground.data }], guard := none }) (v := ?_) rfl (by kernel_rfl) (by kernel_rfl) (by kernel_rfl) (fun _ _ _ h => h) (Or.inl ⟨by rfl, ?_⟩) (by assumption) ?_
        rotate_left 1
        · (intro w hSw; (try dsimp only at hSw); go_simp); all_goals (with_reducible rfl)
        try simp only [Act.put, List.setIfInBounds_toArray, List.set_cons_zero, List.set_cons_succ]
        refine wpAnyH_take (i := 8) (oi := { dst := some 119, op := Go.Op.extract (Go.Operand.tmp 111) 0, type := 26, pos := "exact.go:6404", after := #[{ on := 7, ground := Go.Ground.data }], guard := none }) (v := ?_) rfl (by kernel_rfl) (by kernel_rfl) (by kernel_rfl) (fun _ _ _ h => h) (Or.inl ⟨by rfl, ?_⟩) (by assumption) ?_
        rotate_left 1
        · (intro w hSw; (try dsimp only at hSw); go_simp); all_goals (with_reducible rfl)
        try simp only [Act.put, List.setIfInBounds_toArray, List.set_cons_zero, List.set_cons_succ]
        refine wpAnyH_take (i := 9) (oi := { dst := some 120, op := Go.Op.extract (Go.Operand.tmp 111) 1, type := 4, pos := "exact.go:6404", after := #[{ on := 7, ground := Go.Ground.data }, { on := 11, ground := Go.Ground.gcOnly Go.Departure.lateStores }], guard := none }) (v := ?_) rfl (by kernel_rfl) (by kernel_rfl) (by kernel_rfl) (fun _ _ _ h => h) (Or.inl ⟨by rfl, ?_⟩) (by assumption) ?_
        rotate_left 1
        · (intro w hSw; (try dsimp only at hSw); go_simp); all_goals (with_reducible rfl)
        try simp only [Act.put, List.setIfInBounds_toArray, List.set_cons_zero, List.set_cons_succ]
        obtain ⟨zc0, zc1, zc2⟩ := z3.bx
        have zf0 := z3.fz 0
        have zf1 := z3.fz 1
        have zf2 := z3.fz 2
        have zna1 : ¬ w.heap.size = y0.heap.size := Nat.ne_of_lt (Nat.lt_of_lt_of_le lta1 (P0.size))
        have zma1 : ¬ y0.heap.size = w.heap.size := fun h => zna1 h.symm
        refine wpAnyH_ready (rs := [11]) (by kernel_rfl) (by simp) ?_
        refine AllReadyH.cons (o := { dst := none, op := Go.Op.store 26 (Go.Operand.tmp 18) (Go.Operand.tmp 119), type := 0, pos := "exact.go:6404", after := #[{ on := 10, ground := Go.Ground.data }, { on := 8, ground := Go.Ground.data }, { on := 6, ground := Go.Ground.chain }, { on := 0, ground := Go.Ground.phase }, { on := 1, ground := Go.Ground.phase }, { on := 2, ground := Go.Ground.phase }, { on := 3, ground := Go.Ground.phase }, { on := 4, ground := Go.Ground.phase }, { on := 5, ground := Go.Ground.phase }, { on := 6, ground := Go.Ground.phase }, { on := 7, ground := Go.Ground.phase }, { on := 8, ground := Go.Ground.phase }, { on := 9, ground := Go.Ground.textOnly Go.Departure.lateStores }, { on := 10, ground := Go.Ground.phase }], guard := none }) rfl (fun K hK => ?_) AllReadyH.nil
        go_simp
        refine hK.out _ _ (⟨cell_put (cell_put (cell_put e3a1_0 zna1) zna1) zna1, cell_put (cell_put (cell_put e3a1_1 zna1) zna1) zna1, cell_put (cell_put (cell_put e3a1_2 zna1) zna1) zna1⟩) (fun hHeld2 => ?_)
        clear hK K hHeld
        have hHeld := hHeld2
        clear hHeld2
        try simp only [Act.put, List.setIfInBounds_toArray, List.set_cons_zero, List.set_cons_succ]
        refine wpAnyH_take (i := 12) (oi := { dst := some 19, op := Go.Op.assign (Go.Operand.tmp 120), type := 4, pos := "exact.go:6404", after := #[{ on := 9, ground := Go.Ground.data }, { on := 11, ground := Go.Ground.chain }, { on := 0, ground := Go.Ground.phase }, { on := 1, ground := Go.Ground.phase }, { on := 2, ground := Go.Ground.phase }, { on := 3, ground := Go.Ground.phase }, { on := 4, ground := Go.Ground.phase }, { on := 5, ground := Go.Ground.phase }, { on := 6, ground := Go.Ground.phase }, { on := 7, ground := Go.Ground.phase }, { on := 8, ground := Go.Ground.phase }, { on := 9, ground := Go.Ground.phase }, { on := 10, ground := Go.Ground.phase }, { on := 11, ground := Go.Ground.phase }], guard := none }) (v := ?_) rfl (by kernel_rfl) (by kernel_rfl) (by kernel_rfl) (fun _ _ _ h => h) (Or.inl ⟨by rfl, ?_⟩) (by assumption) ?_
        rotate_left 1
        · (intro w hSw; (try dsimp only at hSw); go_simp); all_goals (with_reducible rfl)
        try simp only [Act.put, List.setIfInBounds_toArray, List.set_cons_zero, List.set_cons_succ]
        refine wpAnyH_done (by kernel_rfl) ?_ _
        go_wp2_with fail
        go_meet
        exact ⟨rfl, _, _, _, rfl, AN.all _ _ P3 t3 z3 P0.size z2.lt⟩
    · skip
      go_simp
      refine hK.out _ _ (⟨cell_al ca1_0, cell_al ca1_1, cell_al ca1_2⟩) (fun hHeld2 => ?_)
      clear hK K hHeld
      have hHeld := hHeld2
      clear hHeld2
      try simp only [Act.put, List.setIfInBounds_toArray, List.set_cons_zero, List.set_cons_succ]
      refine wpAnyH_ready (rs := [1]) (by kernel_rfl) (by simp) ?_
      refine AllReadyH.cons (o := { dst := some 113, op := Go.Op.call { callee := Go.Callee.value (Go.Operand.func 6), args := #[Go.Operand.tmp 112], argTypes := #[22] }, type := 22, pos := "exact.go:6404", after := #[{ on := 0, ground := Go.Ground.data }], guard := none }) rfl (fun K hK => ?_) AllReadyH.nil
      go_simp
      refine (TO0.out (w21.drew.alloc (Obj.cells #[.slice none 0 0, .int .i64 0, .int .i64 0] 26)) (BQ.drew.alloc BQ.size _)).mono ?_
      rintro e y0 ⟨rfl, t0, d0⟩
      have hs0 : (w21.drew.alloc (Obj.cells #[.slice none 0 0, .int .i64 0, .int .i64 0] 26)).heap.size = w21.heap.size + 1 := by simp
      rw [hs0] at t0
      clear hs0
      have P0 : Below w21.heap.size w21 y0 := ((Below.refl _ _).drew.alloc (by simp) _).trans (d0.mono (by simp))
      have H0 : Below w.heap.size w y0 := BQ.trans (P0.mono BQ.size)
      have q0_0 := t0
      have z0 : ZB y0 w21.heap.size := ZB.newd2 d0
      obtain ⟨e0a1_0, e0a1_1, e0a1_2⟩ := Ka1_w21.out.on P0 lta1
      go_wp2_with fail
      refine hK.out _ _ (⟨e0a1_0, e0a1_1, e0a1_2⟩) (fun hHeld2 => ?_)
      clear hK K hHeld
      have hHeld := hHeld2
      clear hHeld2
      try simp only [Act.put, List.setIfInBounds_toArray, List.set_cons_zero, List.set_cons_succ]
      refine wpAnyH_ready (rs := [3]) (by kernel_rfl) (by simp) ?_
      refine AllReadyH.cons (o := { dst := some 115, op := Go.Op.call { callee := Go.Callee.value (Go.Operand.func 7), args := #[Go.Operand.tmp 114], argTypes := #[24] }, type := 26, pos := "exact.go:6404", after := #[{ on := 2, ground := Go.Ground.data }, { on := 1, ground := Go.Ground.chain }], guard := none }) rfl (fun K hK => ?_) AllReadyH.nil
      go_simp
      refine (TO1.out HL1.out y0 H0).mono ?_
      rintro e y1 ⟨gy1, rfl, t1, d1⟩
      have D1 : Below y0.heap.size y0 y1 := d1
      have P1 : Below w21.heap.size w21 y1 := P0.trans (D1.mono P0.size)
      have H1 : Below w.heap.size w y1 := BQ.trans (P1.mono BQ.size)
      have q0_1 := row_on q0_0 D1
      have q1_1 := t1
      have z1 : ZB y1 w21.heap.size := z0.on D1
      obtain ⟨e1a1_0, e1a1_1, e1a1_2⟩ := Ka1_w21.out.on P1 lta1
      go_wp2_with fail
      refine hK.out _ _ (⟨e1a1_0, e1a1_1, e1a1_2⟩) (fun hHeld2 => ?_)
      clear hK K hHeld
      have hHeld := hHeld2
      clear hHeld2
      try simp only [Act.put, List.setIfInBounds_toArray, List.set_cons_zero, List.set_cons_succ]
      refine wpAnyH_ready (rs := [5]) (by kernel_rfl) (by simp) ?_
      refine AllReadyH.cons (o := { dst := some 117, op := Go.Op.call { callee := Go.Callee.value (Go.Operand.func 6), args := #[Go.Operand.tmp 116], argTypes := #[22] }, type := 22, pos := "exact.go:6404", after := #[{ on := 4, ground := Go.Ground.data }, { on := 3, ground := Go.Ground.chain }], guard := none }) rfl (fun K hK => ?_) AllReadyH.nil
      go_simp
      refine (TO2.out y1 H1).mono ?_
      rintro e y2 ⟨rfl, t2, d2⟩
      have D2 : Below y1.heap.size y1 y2 := d2
      have P2 : Below w21.heap.size w21 y2 := P1.trans (D2.mono P1.size)
      have H2 : Below w.heap.size w y2 := BQ.trans (P2.mono BQ.size)
      have q0_2 := row_on q0_1 D2
      have q1_2 := row_on q1_1 D2
      have q2_2 := t2
      have z2 : ZB y2 w21.heap.size := z1.on D2
      obtain ⟨e2a1_0, e2a1_1, e2a1_2⟩ := Ka1_w21.out.on P2 lta1
      go_wp2_with fail
      refine hK.out _ _ (⟨e2a1_0, e2a1_1, e2a1_2⟩) (fun hHeld2 => ?_)
      clear hK K hHeld
      have hHeld := hHeld2
      clear hHeld2
      try simp only [Act.put, List.setIfInBounds_toArray, List.set_cons_zero, List.set_cons_succ]
      refine wpAnyH_ready (rs := [6]) (by kernel_rfl) (by simp) ?_
      refine AllReadyH.cons (o := { dst := some 118, op := Go.Op.call { callee := Go.Callee.value (Go.Operand.func 8), args := #[Go.Operand.tmp 113, Go.Operand.tmp 115, Go.Operand.tmp 117], argTypes := #[22, 26, 22] }, type := 27, pos := "exact.go:6404", after := #[{ on := 1, ground := Go.Ground.data }, { on := 3, ground := Go.Ground.data }, { on := 5, ground := Go.Ground.data }, { on := 5, ground := Go.Ground.chain }], guard := none }) rfl (fun K hK => ?_) AllReadyH.nil
      go_simp
      refine (IU.out y2 _ _ _ _ _ _ q0_2 q1_2 q2_2).mono ?_
      rintro e y3 ⟨ua, uc, rfl, t3, d3⟩
      have D3 : Below y2.heap.size y2 y3 := d3
      have P3 : Below w21.heap.size w21 y3 := P2.trans (D3.mono P2.size)
      have H3 : Below w.heap.size w y3 := BQ.trans (P3.mono BQ.size)
      have z3 : ZB y3 w21.heap.size := z2.on D3
      obtain ⟨e3a1_0, e3a1_1, e3a1_2⟩ := Ka1_w21.out.on P3 lta1
      go_wp2_with fail
      refine hK.out _ _ (⟨e3a1_0, e3a1_1, e3a1_2⟩) (fun hHeld2 => ?_)
      clear hK K hHeld
      have hHeld := hHeld2
      clear hHeld2
      try simp only [Act.put, List.setIfInBounds_toArray, List.set_cons_zero, List.set_cons_succ]
      refine wpAnyH_take (i := 7) (oi := { dst := some 111, op := Go.Op.move (Go.Operand.tmp 118), type := 27, pos := "exact.go:6404", after := #[{ on := 6, ground := Go.Ground.data }], guard := none }) (v := ?_) rfl (by kernel_rfl) (by kernel_rfl) (by kernel_rfl) (fun _ _ _ h => h) (Or.inl ⟨by rfl, ?_⟩) (by assumption) ?_
      rotate_left 1
      · (intro w hSw; (try dsimp only at hSw); go_simp); all_goals (with_reducible rfl)
      try simp only [Act.put, List.setIfInBounds_toArray, List.set_cons_zero, List.set_cons_succ]
      refine wpAnyH_take (i := 8) (oi := { dst := some 119, op := Go.Op.extract (Go.Operand.tmp 111) 0, type := 26, pos := "exact.go:6404", after := #[{ on := 7, ground := Go.Ground.data }], guard := none }) (v := ?_) rfl (by kernel_rfl) (by kernel_rfl) (by kernel_rfl) (fun _ _ _ h => h) (Or.inl ⟨by rfl, ?_⟩) (by assumption) ?_
      rotate_left 1
      · (intro w hSw; (try dsimp only at hSw); go_simp); all_goals (with_reducible rfl)
      try simp only [Act.put, List.setIfInBounds_toArray, List.set_cons_zero, List.set_cons_succ]
      refine wpAnyH_take (i := 9) (oi := { dst := some 120, op := Go.Op.extract (Go.Operand.tmp 111) 1, type := 4, pos := "exact.go:6404", after := #[{ on := 7, ground := Go.Ground.data }, { on := 11, ground := Go.Ground.gcOnly Go.Departure.lateStores }], guard := none }) (v := ?_) rfl (by kernel_rfl) (by kernel_rfl) (by kernel_rfl) (fun _ _ _ h => h) (Or.inl ⟨by rfl, ?_⟩) (by assumption) ?_
      rotate_left 1
      · (intro w hSw; (try dsimp only at hSw); go_simp); all_goals (with_reducible rfl)
      try simp only [Act.put, List.setIfInBounds_toArray, List.set_cons_zero, List.set_cons_succ]
      obtain ⟨zc0, zc1, zc2⟩ := z3.bx
      have zf0 := z3.fz 0
      have zf1 := z3.fz 1
      have zf2 := z3.fz 2
      have zna1 : ¬ w.heap.size = w21.heap.size := Nat.ne_of_lt (Nat.lt_of_lt_of_le lta1 (Nat.le_refl _))
      have zma1 : ¬ w21.heap.size = w.heap.size := fun h => zna1 h.symm
      refine wpAnyH_ready (rs := [11]) (by kernel_rfl) (by simp) ?_
      refine AllReadyH.cons (o := { dst := none, op := Go.Op.store 26 (Go.Operand.tmp 18) (Go.Operand.tmp 119), type := 0, pos := "exact.go:6404", after := #[{ on := 10, ground := Go.Ground.data }, { on := 8, ground := Go.Ground.data }, { on := 6, ground := Go.Ground.chain }, { on := 0, ground := Go.Ground.phase }, { on := 1, ground := Go.Ground.phase }, { on := 2, ground := Go.Ground.phase }, { on := 3, ground := Go.Ground.phase }, { on := 4, ground := Go.Ground.phase }, { on := 5, ground := Go.Ground.phase }, { on := 6, ground := Go.Ground.phase }, { on := 7, ground := Go.Ground.phase }, { on := 8, ground := Go.Ground.phase }, { on := 9, ground := Go.Ground.textOnly Go.Departure.lateStores }, { on := 10, ground := Go.Ground.phase }], guard := none }) rfl (fun K hK => ?_) AllReadyH.nil
      go_simp
      refine hK.out _ _ (⟨cell_put (cell_put (cell_put e3a1_0 zna1) zna1) zna1, cell_put (cell_put (cell_put e3a1_1 zna1) zna1) zna1, cell_put (cell_put (cell_put e3a1_2 zna1) zna1) zna1⟩) (fun hHeld2 => ?_)
      clear hK K hHeld
      have hHeld := hHeld2
      clear hHeld2
      try simp only [Act.put, List.setIfInBounds_toArray, List.set_cons_zero, List.set_cons_succ]
      refine wpAnyH_take (i := 12) (oi := { dst := some 19, op := Go.Op.assign (Go.Operand.tmp 120), type := 4, pos := "exact.go:6404", after := #[{ on := 9, ground := Go.Ground.data }, { on := 11, ground := Go.Ground.chain }, { on := 0, ground := Go.Ground.phase }, { on := 1, ground := Go.Ground.phase }, { on := 2, ground := Go.Ground.phase }, { on := 3, ground := Go.Ground.phase }, { on := 4, ground := Go.Ground.phase }, { on := 5, ground := Go.Ground.phase }, { on := 6, ground := Go.Ground.phase }, { on := 7, ground := Go.Ground.phase }, { on := 8, ground := Go.Ground.phase }, { on := 9, ground := Go.Ground.phase }, { on := 10, ground := Go.Ground.phase }, { on := 11, ground := Go.Ground.phase }], guard := none }) (v := ?_) rfl (by kernel_rfl) (by kernel_rfl) (by kernel_rfl) (fun _ _ _ h => h) (Or.inl ⟨by rfl, ?_⟩) (by assumption) ?_
      rotate_left 1
      · (intro w hSw; (try dsimp only at hSw); go_simp); all_goals (with_reducible rfl)
      try simp only [Act.put, List.setIfInBounds_toArray, List.set_cons_zero, List.set_cons_succ]
      refine wpAnyH_done (by kernel_rfl) ?_ _
      go_wp2_with fail
      go_meet
      exact ⟨rfl, _, _, _, rfl, AN.all _ _ P3 t3 z3 (Nat.le_refl _) z2.lt⟩
  obtain ⟨w22, hhw22⟩ : ∃ x : World, x = wc := ⟨_, rfl⟩
  subst hhw22
  obtain ⟨rfl, kh, uah0, uch0, rfl, ANh⟩ := hcut
  have b := ANh.out.bl
  clear ca1_0 ca1_1 ca1_2
  have ZZw22 : Hid (w21.heap.size ≤ w22.heap.size) := b.size
  have BBw22 : Hid (Below w.heap.size w w22) := BBw21.out.trans (b.mono BBw21.out.size)
  have Rs0_w22 : Hid (w22.ownsRow w1.heap.size 2 1 (.slice uas0 X0.length ucs0) X0.length (ints X0)) := row_on Rs0_w21.out b
  have Rg0_w22 : Hid (w22.ownsRow w6.heap.size 2 1 (.slice uag0 X0.length ucg0) X0.length (ints (sq (1) X0.length))) := row_on Rg0_w21.out b
  have Ka1_w22 : Hid (Bk.Box w22 w.heap.size (.slice s1 L1.length c1) (.int .i64 a1_1) (.int .i64 a1_2)) := Ka1_w21.out.on b (by have q0 := ZZwa.out; have q1 := ZZw1.out; have q2 := ZZw2.out; have q3 := ZKs.out; have q4 := ZZw3.out; have q5 := ZZw4.out; have q6 := ZZZw5.out; have q7 := ZZw5.out; have q8 := ZZw6.out; have q9 := ZZw7.out; have q10 := ZZZw8.out; have q11 := ZZw8.out; have q12 := ZZw9.out; have q13 := ZZw10.out; have q14 := ZZw11.out; have q15 := ZZw11d.out; have q16 := ZZw12.out; have q17 := ZZw13.out; have q18 := ZZw14.out; have q19 := ZZw15.out; have q20 := ZZw16.out; have q21 := ZZw17.out; have q22 := ZZw18.out; have q23 := ZZw19.out; have q24 := ZZw20.out; have q25 := ZZw21.out; have q26 := HL0.out; have q27 := HL1.out; have q28 := HL2.out; have q29 := HX0.out; omega)
  have Ks0_w22 : Hid (Bk.Box w22 ks (.slice uas0 X0.length ucs0) (.int .i64 r0_1) (.int .i64 r0_2)) := Ks0_w21.out.on b (by have q0 := ZZwa.out; have q1 := ZZw1.out; have q2 := ZZw2.out; have q3 := ZKs.out; have q4 := ZZw3.out; have q5 := ZZw4.out; have q6 := ZZZw5.out; have q7 := ZZw5.out; have q8 := ZZw6.out; have q9 := ZZw7.out; have q10 := ZZZw8.out; have q11 := ZZw8.out; have q12 := ZZw9.out; have q13 := ZZw10.out; have q14 := ZZw11.out; have q15 := ZZw11d.out; have q16 := ZZw12.out; have q17 := ZZw13.out; have q18 := ZZw14.out; have q19 := ZZw15.out; have q20 := ZZw16.out; have q21 := ZZw17.out; have q22 := ZZw18.out; have q23 := ZZw19.out; have q24 := ZZw20.out; have q25 := ZZw21.out; have q26 := HL0.out; have q27 := HL1.out; have q28 := HL2.out; have q29 := HX0.out; omega)
  have Kg0_w22 : Hid (Bk.Box w22 w7.heap.size (.slice uag0 X0.length ucg0) (.int .i64 r0_1) (.int .i64 r0_2)) := Kg0_w21.out.on b (by have q0 := ZZwa.out; have q1 := ZZw1.out; have q2 := ZZw2.out; have q3 := ZKs.out; have q4 := ZZw3.out; have q5 := ZZw4.out; have q6 := ZZZw5.out; have q7 := ZZw5.out; have q8 := ZZw6.out; have q9 := ZZw7.out; have q10 := ZZZw8.out; have q11 := ZZw8.out; have q12 := ZZw9.out; have q13 := ZZw10.out; have q14 := ZZw11.out; have q15 := ZZw11d.out; have q16 := ZZw12.out; have q17 := ZZw13.out; have q18 := ZZw14.out; have q19 := ZZw15.out; have q20 := ZZw16.out; have q21 := ZZw17.out; have q22 := ZZw18.out; have q23 := ZZw19.out; have q24 := ZZw20.out; have q25 := ZZw21.out; have q26 := HL0.out; have q27 := HL1.out; have q28 := HL2.out; have q29 := HX0.out; omega)
  have Rh0_w22 : Hid (w22.ownsRow w21.heap.size 2 1 (.slice uah0 X0.length uch0) X0.length (ints X0)) := ANh.out.row
  have LTh0 : Hid (∀ k, (Value.slice uah0 X0.length uch0).ownBlock = some k → w21.heap.size ≤ k ∧ k < w22.heap.size) := fun k hk => Rh0_w22.out.lt k hk
  have Kh0_w22 : Hid (Bk.Box w22 kh (.slice uah0 X0.length uch0) (.int .i64 r0_1) (.int .i64 r0_2)) := ANh.out.bx
  have ZKh : Hid (w21.heap.size ≤ kh ∧ kh < w22.heap.size) := ⟨ANh.out.ge, ANh.out.lt⟩
  clear b ANh
  clear Rs0_w21 Rg0_w21 Ka1_w21 Ks0_w21 Kg0_w21
  obtain ⟨ch0_0, ch0_1, ch0_2⟩ := Kh0_w22.out
  obtain ⟨cs0_0, cs0_1, cs0_2⟩ := Ks0_w22.out
  go_wp2_with fail
  refine (Bk.eq_st r0_1 r0_2 X0 _ _ _ _ w22 Rh0_w22.out Rs0_w22.out).mono ?_
  rintro e w23 ⟨rfl, b⟩
  clear ch0_0 ch0_1 ch0_2
  clear cs0_0 cs0_1 cs0_2
  have ZZw23 : Hid (w22.heap.size ≤ w23.heap.size) := b.size
  have BBw23 : Hid (Below w.heap.size w w23) := BBw22.out.trans (b.mono BBw22.out.size)
  have Rs0_w23 : Hid (w23.ownsRow w1.heap.size 2 1 (.slice uas0 X0.length ucs0) X0.length (ints X0)) := row_on Rs0_w22.out b
  have Rg0_w23 : Hid (w23.ownsRow w6.heap.size 2 1 (.slice uag0 X0.length ucg0) X0.length (ints (sq (1) X0.length))) := row_on Rg0_w22.out b
  have Rh0_w23 : Hid (w23.ownsRow w21.heap.size 2 1 (.slice uah0 X0.length uch0) X0.length (ints X0)) := row_on Rh0_w22.out b
  have Ka1_w23 : Hid (Bk.Box w23 w.heap.size (.slice s1 L1.length c1) (.int .i64 a1_1) (.int .i64 a1_2)) := Ka1_w22.out.on b (by have q0 := ZZwa.out; have q1 := ZZw1.out; have q2 := ZZw2.out; have q3 := ZKs.out; have q4 := ZZw3.out; have q5 := ZZw4.out; have q6 := ZZZw5.out; have q7 := ZZw5.out; have q8 := ZZw6.out; have q9 := ZZw7.out; have q10 := ZZZw8.out; have q11 := ZZw8.out; have q12 := ZZw9.out; have q13 := ZZw10.out; have q14 := ZZw11.out; have q15 := ZZw11d.out; have q16 := ZZw12.out; have q17 := ZZw13.out; have q18 := ZZw14.out; have q19 := ZZw15.out; have q20 := ZZw16.out; have q21 := ZZw17.out; have q22 := ZZw18.out; have q23 := ZZw19.out; have q24 := ZZw20.out; have q25 := ZZw21.out; have q26 := ZZw22.out; have q27 := ZKh.out; have q28 := HL0.out; have q29 := HL1.out; have q30 := HL2.out; have q31 := HX0.out; omega)
  have Ks0_w23 : Hid (Bk.Box w23 ks (.slice uas0 X0.length ucs0) (.int .i64 r0_1) (.int .i64 r0_2)) := Ks0_w22.out.on b (by have q0 := ZZwa.out; have q1 := ZZw1.out; have q2 := ZZw2.out; have q3 := ZKs.out; have q4 := ZZw3.out; have q5 := ZZw4.out; have q6 := ZZZw5.out; have q7 := ZZw5.out; have q8 := ZZw6.out; have q9 := ZZw7.out; have q10 := ZZZw8.out; have q11 := ZZw8.out; have q12 := ZZw9.out; have q13 := ZZw10.out; have q14 := ZZw11.out; have q15 := ZZw11d.out; have q16 := ZZw12.out; have q17 := ZZw13.out; have q18 := ZZw14.out; have q19 := ZZw15.out; have q20 := ZZw16.out; have q21 := ZZw17.out; have q22 := ZZw18.out; have q23 := ZZw19.out; have q24 := ZZw20.out; have q25 := ZZw21.out; have q26 := ZZw22.out; have q27 := ZKh.out; have q28 := HL0.out; have q29 := HL1.out; have q30 := HL2.out; have q31 := HX0.out; omega)
  have Kg0_w23 : Hid (Bk.Box w23 w7.heap.size (.slice uag0 X0.length ucg0) (.int .i64 r0_1) (.int .i64 r0_2)) := Kg0_w22.out.on b (by have q0 := ZZwa.out; have q1 := ZZw1.out; have q2 := ZZw2.out; have q3 := ZKs.out; have q4 := ZZw3.out; have q5 := ZZw4.out; have q6 := ZZZw5.out; have q7 := ZZw5.out; have q8 := ZZw6.out; have q9 := ZZw7.out; have q10 := ZZZw8.out; have q11 := ZZw8.out; have q12 := ZZw9.out; have q13 := ZZw10.out; have q14 := ZZw11.out; have q15 := ZZw11d.out; have q16 := ZZw12.out; have q17 := ZZw13.out; have q18 := ZZw14.out; have q19 := ZZw15.out; have q20 := ZZw16.out; have q21 := ZZw17.out; have q22 := ZZw18.out; have q23 := ZZw19.out; have q24 := ZZw20.out; have q25 := ZZw21.out; have q26 := ZZw22.out; have q27 := ZKh.out; have q28 := HL0.out; have q29 := HL1.out; have q30 := HL2.out; have q31 := HX0.out; omega)
  have Kh0_w23 : Hid (Bk.Box w23 kh (.slice uah0 X0.length uch0) (.int .i64 r0_1) (.int .i64 r0_2)) := Kh0_w22.out.on b (by have q0 := ZZwa.out; have q1 := ZZw1.out; have q2 := ZZw2.out; have q3 := ZKs.out; have q4 := ZZw3.out; have q5 := ZZw4.out; have q6 := ZZZw5.out; have q7 := ZZw5.out; have q8 := ZZw6.out; have q9 := ZZw7.out; have q10 := ZZZw8.out; have q11 := ZZw8.out; have q12 := ZZw9.out; have q13 := ZZw10.out; have q14 := ZZw11.out; have q15 := ZZw11d.out; have q16 := ZZw12.out; have q17 := ZZw13.out; have q18 := ZZw14.out; have q19 := ZZw15.out; have q20 := ZZw16.out; have q21 := ZZw17.out; have q22 := ZZw18.out; have q23 := ZZw19.out; have q24 := ZZw20.out; have q25 := ZZw21.out; have q26 := ZZw22.out; have q27 := ZKh.out; have q28 := HL0.out; have q29 := HL1.out; have q30 := HL2.out; have q31 := HX0.out; omega)
  clear b
  clear Rs0_w22 Rg0_w22 Rh0_w22 Ka1_w22 Ks0_w22 Kg0_w22 Kh0_w22
  obtain ⟨cg0_0, cg0_1, cg0_2⟩ := Kg0_w23.out
  go_wp2_with fail
  refine (Bk.held_st r0_1 r0_2 _ X0.length (1) w23 (by have q0 := ZZwa.out; have q1 := ZZw1.out; have q2 := ZZw2.out; have q3 := ZKs.out; have q4 := ZZw3.out; have q5 := ZZw4.out; have q6 := ZZZw5.out; have q7 := ZZw5.out; have q8 := ZZw6.out; have q9 := ZZw7.out; have q10 := ZZZw8.out; have q11 := ZZw8.out; have q12 := ZZw9.out; have q13 := ZZw10.out; have q14 := ZZw11.out; have q15 := ZZw11d.out; have q16 := ZZw12.out; have q17 := ZZw13.out; have q18 := ZZw14.out; have q19 := ZZw15.out; have q20 := ZZw16.out; have q21 := ZZw17.out; have q22 := ZZw18.out; have q23 := ZZw19.out; have q24 := ZZw20.out; have q25 := ZZw21.out; have q26 := ZZw22.out; have q27 := ZKh.out; have q28 := ZZw23.out; have q29 := HL0.out; have q30 := HL1.out; have q31 := HL2.out; have q32 := HX0.out; omega) (by have q0 := ZZwa.out; have q1 := ZZw1.out; have q2 := ZZw2.out; have q3 := ZKs.out; have q4 := ZZw3.out; have q5 := ZZw4.out; have q6 := ZZZw5.out; have q7 := ZZw5.out; have q8 := ZZw6.out; have q9 := ZZw7.out; have q10 := ZZZw8.out; have q11 := ZZw8.out; have q12 := ZZw9.out; have q13 := ZZw10.out; have q14 := ZZw11.out; have q15 := ZZw11d.out; have q16 := ZZw12.out; have q17 := ZZw13.out; have q18 := ZZw14.out; have q19 := ZZw15.out; have q20 := ZZw16.out; have q21 := ZZw17.out; have q22 := ZZw18.out; have q23 := ZZw19.out; have q24 := ZZw20.out; have q25 := ZZw21.out; have q26 := ZZw22.out; have q27 := ZKh.out; have q28 := ZZw23.out; have q29 := HL0.out; have q30 := HL1.out; have q31 := HL2.out; have q32 := HX0.out; omega) (by have := HX0.out; omega) (Lists.reads_row (L := sq (1) X0.length) (by rw [sq_len]; exact Rg0_w23.out))).mono ?_
  rintro e w24 ⟨rfl, b⟩
  clear cg0_0 cg0_1 cg0_2
  have ZZw24 : Hid (w23.heap.size ≤ w24.heap.size) := b.size
  have BBw24 : Hid (Below w.heap.size w w24) := BBw23.out.trans (b.mono BBw23.out.size)
  have Rs0_w24 : Hid (w24.ownsRow w1.heap.size 2 1 (.slice uas0 X0.length ucs0) X0.length (ints X0)) := row_on Rs0_w23.out b
  have Rg0_w24 : Hid (w24.ownsRow w6.heap.size 2 1 (.slice uag0 X0.length ucg0) X0.length (ints (sq (1) X0.length))) := row_on Rg0_w23.out b
  have Rh0_w24 : Hid (w24.ownsRow w21.heap.size 2 1 (.slice uah0 X0.length uch0) X0.length (ints X0)) := row_on Rh0_w23.out b
  have Ka1_w24 : Hid (Bk.Box w24 w.heap.size (.slice s1 L1.length c1) (.int .i64 a1_1) (.int .i64 a1_2)) := Ka1_w23.out.on b (by have q0 := ZZwa.out; have q1 := ZZw1.out; have q2 := ZZw2.out; have q3 := ZKs.out; have q4 := ZZw3.out; have q5 := ZZw4.out; have q6 := ZZZw5.out; have q7 := ZZw5.out; have q8 := ZZw6.out; have q9 := ZZw7.out; have q10 := ZZZw8.out; have q11 := ZZw8.out; have q12 := ZZw9.out; have q13 := ZZw10.out; have q14 := ZZw11.out; have q15 := ZZw11d.out; have q16 := ZZw12.out; have q17 := ZZw13.out; have q18 := ZZw14.out; have q19 := ZZw15.out; have q20 := ZZw16.out; have q21 := ZZw17.out; have q22 := ZZw18.out; have q23 := ZZw19.out; have q24 := ZZw20.out; have q25 := ZZw21.out; have q26 := ZZw22.out; have q27 := ZKh.out; have q28 := ZZw23.out; have q29 := HL0.out; have q30 := HL1.out; have q31 := HL2.out; have q32 := HX0.out; omega)
  have Ks0_w24 : Hid (Bk.Box w24 ks (.slice uas0 X0.length ucs0) (.int .i64 r0_1) (.int .i64 r0_2)) := Ks0_w23.out.on b (by have q0 := ZZwa.out; have q1 := ZZw1.out; have q2 := ZZw2.out; have q3 := ZKs.out; have q4 := ZZw3.out; have q5 := ZZw4.out; have q6 := ZZZw5.out; have q7 := ZZw5.out; have q8 := ZZw6.out; have q9 := ZZw7.out; have q10 := ZZZw8.out; have q11 := ZZw8.out; have q12 := ZZw9.out; have q13 := ZZw10.out; have q14 := ZZw11.out; have q15 := ZZw11d.out; have q16 := ZZw12.out; have q17 := ZZw13.out; have q18 := ZZw14.out; have q19 := ZZw15.out; have q20 := ZZw16.out; have q21 := ZZw17.out; have q22 := ZZw18.out; have q23 := ZZw19.out; have q24 := ZZw20.out; have q25 := ZZw21.out; have q26 := ZZw22.out; have q27 := ZKh.out; have q28 := ZZw23.out; have q29 := HL0.out; have q30 := HL1.out; have q31 := HL2.out; have q32 := HX0.out; omega)
  have Kg0_w24 : Hid (Bk.Box w24 w7.heap.size (.slice uag0 X0.length ucg0) (.int .i64 r0_1) (.int .i64 r0_2)) := Kg0_w23.out.on b (by have q0 := ZZwa.out; have q1 := ZZw1.out; have q2 := ZZw2.out; have q3 := ZKs.out; have q4 := ZZw3.out; have q5 := ZZw4.out; have q6 := ZZZw5.out; have q7 := ZZw5.out; have q8 := ZZw6.out; have q9 := ZZw7.out; have q10 := ZZZw8.out; have q11 := ZZw8.out; have q12 := ZZw9.out; have q13 := ZZw10.out; have q14 := ZZw11.out; have q15 := ZZw11d.out; have q16 := ZZw12.out; have q17 := ZZw13.out; have q18 := ZZw14.out; have q19 := ZZw15.out; have q20 := ZZw16.out; have q21 := ZZw17.out; have q22 := ZZw18.out; have q23 := ZZw19.out; have q24 := ZZw20.out; have q25 := ZZw21.out; have q26 := ZZw22.out; have q27 := ZKh.out; have q28 := ZZw23.out; have q29 := HL0.out; have q30 := HL1.out; have q31 := HL2.out; have q32 := HX0.out; omega)
  have Kh0_w24 : Hid (Bk.Box w24 kh (.slice uah0 X0.length uch0) (.int .i64 r0_1) (.int .i64 r0_2)) := Kh0_w23.out.on b (by have q0 := ZZwa.out; have q1 := ZZw1.out; have q2 := ZZw2.out; have q3 := ZKs.out; have q4 := ZZw3.out; have q5 := ZZw4.out; have q6 := ZZZw5.out; have q7 := ZZw5.out; have q8 := ZZw6.out; have q9 := ZZw7.out; have q10 := ZZZw8.out; have q11 := ZZw8.out; have q12 := ZZw9.out; have q13 := ZZw10.out; have q14 := ZZw11.out; have q15 := ZZw11d.out; have q16 := ZZw12.out; have q17 := ZZw13.out; have q18 := ZZw14.out; have q19 := ZZw15.out; have q20 := ZZw16.out; have q21 := ZZw17.out; have q22 := ZZw18.out; have q23 := ZZw19.out; have q24 := ZZw20.out; have q25 := ZZw21.out; have q26 := ZZw22.out; have q27 := ZKh.out; have q28 := ZZw23.out; have q29 := HL0.out; have q30 := HL1.out; have q31 := HL2.out; have q32 := HX0.out; omega)
  clear b
  clear Rs0_w23 Rg0_w23 Rh0_w23 Ka1_w23 Ks0_w23 Kg0_w23 Kh0_w23
  go_wp2_with fail
  go_ret
  exact ⟨rfl, BBw24.out⟩
end Go.Proofs.Ytbajableobaalaa.LawFlL
