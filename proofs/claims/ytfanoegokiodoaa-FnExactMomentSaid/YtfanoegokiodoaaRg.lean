/- A struct of two lists of int64: measured, copied, compared. -/
import Derived.Test.YtfanoegokiodoaaXoA
import Derived.WalkKit
import Derived.ProofKit
import Derived.Below
import Derived.Deep.RegionHeld3
namespace Go.Proofs.Ytfanoegokiodoaa.Rg
open Go.ChangeShapes Go.WideShapes Go.ChangeAt Go.RowKit
open Go.Proofs.Ytfanoegokiodoaa.Lists

abbrev sv (v u : Value) : Value := .agg #[v, u]
theorem below_drewN {B : Nat} {a w : World} (h : Below B a w) (n : Nat) : Below B a (w.drewN n) := h.trans ⟨rfl, rfl, rfl, Nat.le_refl _, fun _ _ => rfl⟩
theorem row_on {w w' : World} {base n : Nat} {v : Value} {xs : List Value} (h : w.ownsRow base 2 1 v n xs) (hb : Below w.heap.size w w') : w'.ownsRow base 2 1 v n xs := by
  refine h.kept (row := none) ⟨hb.os, hb.tape, hb.output, hb.size, fun k hk _ => hb.block k hk⟩ ?_
  by_cases e : v.ownBlock = none
  · exact Or.inl e
  · exact Or.inr e
theorem row_set {w : World} {base n : Nat} {v : Value} {xs : List Value} (h : w.ownsRow base 2 1 v n xs) (g o : Nat) (u : Value) (hg : g < base) : (w.setCell ⟨g, o, none⟩ u).ownsRow base 2 1 v n xs := by
  refine h.kept (row := some g) (grown_setCell (World.grownBy.refl w (some g)) o u) ?_
  cases e : v.ownBlock with
  | none => exact .inl rfl
  | some k =>
    refine .inr fun x => ?_
    have := (h.lt k e).1
    simp at x
    omega
theorem own_down {w : World} {B B' n : Nat} {v : Value} {xs : List Value} (h : w.ownsRow B 2 1 v n xs) (hb : B' ≤ B) : w.ownsRow B' 2 1 v n xs := by
  refine ⟨h.1, ?_⟩
  rcases h.2 with h | ⟨gx, cap, cur, h1, h2, h3⟩
  · exact .inl h
  · exact .inr ⟨gx, cap, cur, h1, by omega, h3⟩
theorem _root_.Go.World.ownsRow.form {w : World} {B n : Nat} {v : Value} {xs : List Value} (h : w.ownsRow B 2 1 v n xs) : ∃ a c, v = .slice a n c := by
  rcases h.2 with ⟨h1, h2⟩ | ⟨gx, cap, cur, h1, h2, h3⟩
  · subst h2
    exact ⟨_, _, h1⟩
  · exact ⟨_, _, h1⟩

def Box (w : World) (g : Nat) (v0 v1 : Value) : Prop := w.cell? ⟨g, 0, none⟩ = some v0 ∧ w.cell? ⟨g, 1, none⟩ = some v1
theorem Box.on {w w' : World} {B g : Nat} {v0 v1 : Value} (h : Box w g v0 v1) (hb : Below B w w') (hg : g < B) : Box w' g v0 v1 := by
  obtain ⟨h0, h1⟩ := h
  exact ⟨(hb.cell (p := ⟨g, 0, none⟩) hg).trans h0, (hb.cell (p := ⟨g, 1, none⟩) hg).trans h1⟩

set_option maxHeartbeats 400000 in
theorem szl_far (a : Option Addr) (n cap : Nat) (l : Int) (w : World) (h0 : 0 ≤ l) (h1 : l ≤ 1048576) (h : l < n) (hn : n < 9223372036854775808) : Calls Try.prog 12 #[.slice a n cap, .int .i64 l] w fun e w' => e = .returned (.int .i64 (-1)) ∧ w' = w := by
  have i1 : l - (n : Int) < 0 := by omega
  have i2 : IntKind.i64.wrap (l - (n : Int)) = l - (n : Int) := IntWalk.i64_in _ (by omega)
  go_enter Try.func12, Try.ntmps12
  go_wp2
  go_ret
  exact ⟨rfl, rfl⟩
set_option maxHeartbeats 400000 in
theorem szl_near (a : Option Addr) (n cap : Nat) (l : Int) (w : World) (h1 : l ≤ 1048576) (h : (n : Int) ≤ l) : Calls Try.prog 12 #[.slice a n cap, .int .i64 l] w fun e w' => e = .returned (.int .i64 (l - (n : Int))) ∧ w' = w := by
  have i1 : ¬ l - (n : Int) < 0 := by omega
  have i2 : IntKind.i64.wrap (l - (n : Int)) = l - (n : Int) := IntWalk.i64_in _ (by omega)
  go_enter Try.func12, Try.ntmps12
  go_wp2
  go_ret
  exact ⟨rfl, rfl⟩
set_option maxHeartbeats 400000 in
theorem sz_any (a a' : Option Addr) (n n' cap cap' : Nat) (w : World) (hn : n < 9223372036854775808) (hn' : n' < 9223372036854775808) :
    Calls Try.prog 5 #[sv (.slice a n cap) (.slice a' n' cap'), .int .i64 1048576] w fun e w' => (∃ r : Int, e = .returned (.int .i64 r) ∧ (0 ≤ r → n ≤ 1048576 ∧ n' ≤ 1048576)) ∧ Below w.heap.size w w' := by
  have B1 : Hid (Below w.heap.size w (w.alloc (Obj.cells #[.slice a n cap, .slice a' n' cap'] 24))) := (Below.refl _ _).alloc (Nat.le_refl _) _
  by_cases h : (n : Int) ≤ 1048576
  · have i1 : ¬ 1048576 - (n : Int) < 0 := by omega
    by_cases h' : (n' : Int) ≤ 1048576 - n
    · have i2 : ¬ 1048576 - (n : Int) - n' < 0 := by omega
      go_enter Try.func5, Try.ntmps5
      go_wp2_with fail
      refine (szl_near _ _ _ _ _ (by omega) h).mono ?_
      rintro e w1 ⟨rfl, hw⟩
      subst hw
      go_wp2_with fail
      refine (szl_near _ _ _ _ _ (by omega) h').mono ?_
      rintro e w1 ⟨rfl, hw⟩
      subst hw
      go_wp2_with fail
      go_ret
      exact ⟨⟨_, rfl, fun _ => by omega⟩, B1.out⟩
    · go_enter Try.func5, Try.ntmps5
      go_wp2_with fail
      refine (szl_near _ _ _ _ _ (by omega) h).mono ?_
      rintro e w1 ⟨rfl, hw⟩
      subst hw
      go_wp2_with fail
      refine (szl_far _ _ _ _ _ (by omega) (by omega) (by omega) hn').mono ?_
      rintro e w1 ⟨rfl, hw⟩
      subst hw
      go_wp2_with fail
      go_ret
      exact ⟨⟨_, rfl, fun h => by omega⟩, B1.out⟩
  · go_enter Try.func5, Try.ntmps5
    go_wp2_with fail
    refine (szl_far _ _ _ _ _ (by omega) (by omega) (by omega) hn).mono ?_
    rintro e w1 ⟨rfl, hw⟩
    subst hw
    go_wp2_with fail
    go_ret
    exact ⟨⟨_, rfl, fun h => by omega⟩, B1.out⟩

set_option maxHeartbeats 1000000 in
theorem to_st (L M : List Int) (v u : Value) (w : World) (hL : Lists.Reads w v L) (hM : Lists.Reads w u M) (hl : L.length ≤ 1048576) (hm : M.length ≤ 1048576) :
    Calls Try.prog 7 #[sv v u] w fun e w' => ∃ s t, e = .returned (sv s t) ∧ w'.ownsRow w.heap.size 2 1 s L.length (ints L) ∧ w'.ownsRow w.heap.size 2 1 t M.length (ints M) ∧ Below w.heap.size w w' := by
  have TL : Hid (∀ w', Below w.heap.size w w' → Calls Try.prog 14 #[v] w' fun e w'' => e = .returned (.slice (some ⟨w'.heap.size, 0, none⟩) L.length L.length) ∧ w''.ownsRow w'.heap.size 2 1 (.slice (some ⟨w'.heap.size, 0, none⟩) L.length L.length) L.length (ints L) ∧ Below w'.heap.size w' w'') := fun w' hb => Lists.to_any w' v L (hL.on hb) hl
  have TM : Hid (∀ w', Below w.heap.size w w' → Calls Try.prog 14 #[u] w' fun e w'' => e = .returned (.slice (some ⟨w'.heap.size, 0, none⟩) M.length M.length) ∧ w''.ownsRow w'.heap.size 2 1 (.slice (some ⟨w'.heap.size, 0, none⟩) M.length M.length) M.length (ints M) ∧ Below w'.heap.size w' w'') := fun w' hb => Lists.to_any w' u M (hM.on hb) hm
  obtain ⟨av, cv, rfl⟩ := hL.form
  obtain ⟨au, cu, rfl⟩ := hM.form
  generalize ints L = X at *
  generalize ints M = Y at *
  clear hL hM
  generalize L.length = n at *
  generalize M.length = n' at *
  obtain ⟨w0, hw0⟩ : ∃ w0, w0 = ((w.alloc (Obj.cells #[.slice av n cv, .slice au n' cu] 24)).alloc (Obj.cells #[.slice none 0 0, .slice none 0 0] 27)).alloc (Obj.cells #[.slice none 0 0, .slice none 0 0] 27) := ⟨_, rfl⟩
  have HW0 : Hid (w0 = ((w.alloc (Obj.cells #[.slice av n cv, .slice au n' cu] 24)).alloc (Obj.cells #[.slice none 0 0, .slice none 0 0] 27)).alloc (Obj.cells #[.slice none 0 0, .slice none 0 0] 27)) := hw0
  have B0 : Hid (Below w.heap.size w w0) := (by show Below _ _ _; rw [hw0]; exact (((Below.refl _ _).alloc (Nat.le_refl _) _).alloc (by simp) _).alloc (by simp; omega) _)
  have z0 : w.heap.size + 3 ≤ w0.heap.size ∧ w0.heap.size ≤ w.heap.size + 3 := by rw [hw0]; simp
  have A0 : Box w0 w.heap.size (.slice av n cv) (.slice au n' cu) := by rw [hw0]; unfold Box; simp [go_sem]
  have R0 : Box w0 (w.heap.size + 1) (.slice none 0 0) (.slice none 0 0) := by rw [hw0]; unfold Box; simp [go_sem]
  have O0 : Box w0 (w.heap.size + 1 + 1) (.slice none 0 0) (.slice none 0 0) := by rw [hw0]; unfold Box; simp [go_sem]
  have rf : ∀ o, w0.frozen? ⟨w.heap.size + 1, o, none⟩ = false := fun o => by rw [hw0]; simp [go_sem]
  have of : ∀ o, w0.frozen? ⟨w.heap.size + 1 + 1, o, none⟩ = false := fun o => by rw [hw0]; simp [go_sem]
  clear hw0
  go_enter Try.func7, Try.ntmps7
  go_wp2_with fail
  rw [← HW0.out]
  refine (TL.out w0 B0.out).mono ?_
  rintro e w1 ⟨rfl, x1, b1⟩
  have z1 := b1.size
  have B1 : Hid (Below w.heap.size w w1) := B0.out.trans (b1.mono B0.out.size)
  have X1 : Hid (w1.ownsRow w0.heap.size 2 1 (.slice (some ⟨w0.heap.size, 0, none⟩) n n) n X) := x1
  obtain ⟨a0, a1⟩ := A0.on b1 (by omega)
  obtain ⟨r0, r1⟩ := R0.on b1 (by omega)
  obtain ⟨o0, o1⟩ := O0.on b1 (by omega)
  have rf1 : ∀ o, w1.frozen? ⟨w.heap.size + 1, o, none⟩ = false := fun o => (b1.frozen (p := ⟨w.heap.size + 1, o, none⟩) (by show w.heap.size + 1 < _; omega)).trans (rf o)
  have of1 : ∀ o, w1.frozen? ⟨w.heap.size + 1 + 1, o, none⟩ = false := fun o => (b1.frozen (p := ⟨w.heap.size + 1 + 1, o, none⟩) (by show w.heap.size + 1 + 1 < _; omega)).trans (of o)
  have L1 : Hid (w0.heap.size + 1 ≤ w1.heap.size) := (by show _ ≤ _; have := x1.lt w0.heap.size rfl; omega)
  clear x1 b1 A0 R0 O0 rf of HW0 TL B0
  obtain ⟨w2, hw2⟩ : ∃ w2, w2 = w1.setCell ⟨w.heap.size + 1 + 1, 0, none⟩ (.slice (some ⟨w0.heap.size, 0, none⟩) n n) := ⟨_, rfl⟩
  have HW2 : Hid (w2 = w1.setCell ⟨w.heap.size + 1 + 1, 0, none⟩ (.slice (some ⟨w0.heap.size, 0, none⟩) n n)) := hw2
  have z2 : w1.heap.size ≤ w2.heap.size ∧ w2.heap.size ≤ w1.heap.size := by rw [hw2]; simp
  have B2 : Hid (Below w.heap.size w w2) := (by show Below _ _ _; rw [hw2]; exact B1.out.setCell (p := ⟨w.heap.size + 1 + 1, 0, none⟩) (Nat.le_trans (Nat.le_succ _) (Nat.le_succ _)) _)
  have X2 : Hid (w2.ownsRow w0.heap.size 2 1 (.slice (some ⟨w0.heap.size, 0, none⟩) n n) n X) := (by show World.ownsRow _ _ _ _ _ _ _; rw [hw2]; exact row_set X1.out _ _ _ (by omega))
  have A2 : Box w2 w.heap.size (.slice av n cv) (.slice au n' cu) := by rw [hw2]; unfold Box; simp [go_sem, a0, a1]
  have R2 : Box w2 (w.heap.size + 1) (.slice none 0 0) (.slice none 0 0) := by rw [hw2]; unfold Box; simp [go_sem, r0, r1]
  have O2 : Box w2 (w.heap.size + 1 + 1) (.slice (some ⟨w0.heap.size, 0, none⟩) n n) (.slice none 0 0) := by rw [hw2]; unfold Box; simp [go_sem, o0, o1]
  have rf2 : ∀ o, w2.frozen? ⟨w.heap.size + 1, o, none⟩ = false := fun o => by rw [hw2]; simp [go_sem, rf1]
  have of2 : ∀ o, w2.frozen? ⟨w.heap.size + 1 + 1, o, none⟩ = false := fun o => by rw [hw2]; simp [go_sem, of1]
  clear hw2 B1 X1
  go_wp2_with fail
  rw [← HW2.out]
  refine (TM.out w2 B2.out).mono ?_
  rintro e w3 ⟨rfl, x3, b3⟩
  have z3 := b3.size
  have l1 := L1.out
  have B3 : Hid (Below w.heap.size w w3) := B2.out.trans (b3.mono B2.out.size)
  have X3 : Hid (w3.ownsRow w0.heap.size 2 1 (.slice (some ⟨w0.heap.size, 0, none⟩) n n) n X) := row_on X2.out b3
  have Y3 : Hid (w3.ownsRow w2.heap.size 2 1 (.slice (some ⟨w2.heap.size, 0, none⟩) n' n') n' Y) := x3
  clear a0 a1 r0 r1 o0 o1 rf1 of1
  obtain ⟨a0, a1⟩ := A2.on b3 (by omega)
  obtain ⟨r0, r1⟩ := R2.on b3 (by omega)
  obtain ⟨o0, o1⟩ := O2.on b3 (by omega)
  have rf3 : ∀ o, w3.frozen? ⟨w.heap.size + 1, o, none⟩ = false := fun o => (b3.frozen (p := ⟨w.heap.size + 1, o, none⟩) (by show w.heap.size + 1 < _; omega)).trans (rf2 o)
  have of3 : ∀ o, w3.frozen? ⟨w.heap.size + 1 + 1, o, none⟩ = false := fun o => (b3.frozen (p := ⟨w.heap.size + 1 + 1, o, none⟩) (by show w.heap.size + 1 + 1 < _; omega)).trans (of2 o)
  have zz : Hid (w.heap.size + 3 ≤ w0.heap.size ∧ w0.heap.size ≤ w2.heap.size) := (by show _ ∧ _; omega)
  clear x3 b3 A2 R2 O2 rf2 of2 HW2 TM B2 X2 z0 z1 z2 z3 l1 L1
  go_wp2_with fail
  have zo := zz.out
  refine bodyPost_ret (v := .agg #[.slice (some ⟨w0.heap.size, 0, none⟩) n n, .slice (some ⟨w2.heap.size, 0, none⟩) n' n']) (by simp [results, Try.results7, go_sem, r0, r1]) rfl ⟨_, _, rfl, ?_, ?_, ?_⟩
  · refine own_down ?_ (show w.heap.size ≤ w0.heap.size by omega)
    exact (row_set (row_set (row_set X3.out _ _ _ (by omega)) _ _ _ (by omega)) _ _ _ (by omega))
  · refine own_down ?_ (show w.heap.size ≤ w2.heap.size by omega)
    exact (row_set (row_set (row_set Y3.out _ _ _ (by omega)) _ _ _ (by omega)) _ _ _ (by omega))
  · exact (((B3.out.setCell (p := ⟨w.heap.size + 1 + 1, 1, none⟩) (Nat.le_trans (Nat.le_succ _) (Nat.le_succ _)) _).setCell (p := ⟨w.heap.size + 1, 0, none⟩) (Nat.le_succ _) _).setCell (p := ⟨w.heap.size + 1, 1, none⟩) (Nat.le_succ _) _)

set_option maxHeartbeats 1000000 in
theorem eq_st (L M : List Int) (c1 c2 d1 d2 : Value) (A B C D : Nat) (w : World) (hA : w.ownsRow A 2 1 c1 L.length (ints L)) (hB : w.ownsRow B 2 1 d1 M.length (ints M)) (hC : w.ownsRow C 2 1 c2 L.length (ints L)) (hD : w.ownsRow D 2 1 d2 M.length (ints M)) :
    Calls Try.prog 9 #[sv c1 d1, sv c2 d2] w fun e w' => e = .returned (.bool true) ∧ Below w.heap.size w w' := by
  have EI : Hid (∀ w', Below w.heap.size w w' → Calls Try.prog 19 #[c1, c2] w' fun e w'' => e = .returned (.bool true) ∧ ∃ n, w'' = w'.drewN n) := fun w' hb => Lists.eq_same w' A C c1 c2 L (row_on hA hb) (row_on hC hb)
  have EJ : Hid (∀ w', Below w.heap.size w w' → Calls Try.prog 19 #[d1, d2] w' fun e w'' => e = .returned (.bool true) ∧ ∃ n, w'' = w'.drewN n) := fun w' hb => Lists.eq_same w' B D d1 d2 M (row_on hB hb) (row_on hD hb)
  obtain ⟨x1, y1, e1⟩ := hA.form
  obtain ⟨x2, y2, e2⟩ := hB.form
  obtain ⟨x3, y3, e3⟩ := hC.form
  obtain ⟨x4, y4, e4⟩ := hD.form
  subst e1 e2 e3 e4
  generalize L.length = n at *
  generalize M.length = n' at *
  clear hA hB hC hD
  obtain ⟨w0, hw0⟩ : ∃ w0, w0 = (w.alloc (Obj.cells #[.slice x1 n y1, .slice x2 n' y2] 27)).alloc (Obj.cells #[.slice x3 n y3, .slice x4 n' y4] 27) := ⟨_, rfl⟩
  have HW0 : Hid (w0 = (w.alloc (Obj.cells #[.slice x1 n y1, .slice x2 n' y2] 27)).alloc (Obj.cells #[.slice x3 n y3, .slice x4 n' y4] 27)) := hw0
  have B0 : Hid (Below w.heap.size w w0) := (by show Below _ _ _; rw [hw0]; exact ((Below.refl _ _).alloc (Nat.le_refl _) _).alloc (by simp) _)
  have X1 : Box w0 w.heap.size (.slice x1 n y1) (.slice x2 n' y2) := by rw [hw0]; unfold Box; simp [go_sem]
  have X2 : Box w0 (w.heap.size + 1) (.slice x3 n y3) (.slice x4 n' y4) := by rw [hw0]; unfold Box; simp [go_sem]
  clear hw0
  go_enter Try.func9, Try.ntmps9
  go_wp2_with fail
  rw [← HW0.out]
  refine (EI.out _ B0.out).mono ?_
  rintro e w1 ⟨rfl, n1, hw⟩
  have B1 : Hid (Below w.heap.size w w1) := (by show Below _ _ _; rw [hw]; exact below_drewN B0.out _)
  have Y1 : Box w1 w.heap.size (.slice x1 n y1) (.slice x2 n' y2) := by rw [hw]; exact X1
  have Y2 : Box w1 (w.heap.size + 1) (.slice x3 n y3) (.slice x4 n' y4) := by rw [hw]; exact X2
  obtain ⟨h0, h1⟩ := Y1
  obtain ⟨k0, k1⟩ := Y2
  clear hw X1 X2 HW0 B0 EI
  go_wp2_with fail
  refine (EJ.out _ B1.out).mono ?_
  rintro e w2 ⟨rfl, n2, hw⟩
  have B2 : Hid (Below w.heap.size w w2) := (by show Below _ _ _; rw [hw]; exact below_drewN B1.out _)
  clear hw
  go_wp2_with fail
  go_ret
  exact ⟨rfl, B2.out⟩
end Go.Proofs.Ytfanoegokiodoaa.Rg
