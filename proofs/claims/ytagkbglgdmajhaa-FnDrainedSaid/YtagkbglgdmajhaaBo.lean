/- A struct of int64s and a list of int64: measured, copied, compared, marked, held. -/
import Derived.Test.YtagkbglgdmajhaaXoA
import Derived.Test.YtagkbglgdmajhaaRmH
import Derived.WalkKit
import Derived.ProofKit
import Derived.Below
import Derived.Deep.RegionHeld3
namespace Go.Proofs.Ytagkbglgdmajhaa.Bo
open Go.ChangeShapes Go.WideShapes Go.ChangeAt Go.RowKit
open Go.Proofs.Ytagkbglgdmajhaa.Lists

abbrev sv (z0 z1 : Int) (v : Value) : Value := .agg #[.int .i64 z0, .int .i64 z1, v]
theorem below_drewN {B : Nat} {a w : World} (h : Below B a w) (n : Nat) : Below B a (w.drewN n) := h.trans ⟨rfl, rfl, rfl, Nat.le_refl _, fun _ _ => rfl⟩
theorem row_on {w w' : World} {base n : Nat} {v : Value} {xs : List Value} (h : w.ownsRow base 2 1 v n xs) (hb : Below w.heap.size w w') : w'.ownsRow base 2 1 v n xs := by
  refine h.kept (row := none) ⟨hb.os, hb.tape, hb.output, hb.size, fun k hk _ => hb.block k hk⟩ ?_
  by_cases e : v.ownBlock = none
  · exact Or.inl e
  · exact Or.inr e
theorem row_set {w : World} {base n : Nat} {v : Value} {xs : List Value} (h : w.ownsRow base 2 1 v n xs) (g o : Nat) (u : Value) (hg : g < base) : (w.setCell ⟨g, o, none⟩ u).ownsRow base 2 1 v n xs := by
  refine h.kept (row := some g) (grown_setCell (World.grownBy.refl w (some g)) o u) ?_
  cases e : v.ownBlock with
  | none => exact .inl rfl
  | some k =>
    refine .inr fun x => ?_
    have := (h.lt k e).1
    simp at x
    omega
theorem own_down {w : World} {B B' n : Nat} {v : Value} {xs : List Value} (h : w.ownsRow B 2 1 v n xs) (hb : B' ≤ B) : w.ownsRow B' 2 1 v n xs := by
  refine ⟨h.1, ?_⟩
  rcases h.2 with h | ⟨gx, cap, cur, h1, h2, h3⟩
  · exact .inl h
  · exact .inr ⟨gx, cap, cur, h1, by omega, h3⟩

def Box (w : World) (g : Nat) (v0 v1 v2 : Value) : Prop := w.cell? ⟨g, 0, none⟩ = some v0 ∧ w.cell? ⟨g, 1, none⟩ = some v1 ∧ w.cell? ⟨g, 2, none⟩ = some v2
theorem Box.on {w w' : World} {B g : Nat} {v0 v1 v2 : Value} (h : Box w g v0 v1 v2) (hb : Below B w w') (hg : g < B) : Box w' g v0 v1 v2 := by
  obtain ⟨h0, h1, h2⟩ := h
  exact ⟨(hb.cell (p := ⟨g, 0, none⟩) hg).trans h0, (hb.cell (p := ⟨g, 1, none⟩) hg).trans h1, (hb.cell (p := ⟨g, 2, none⟩) hg).trans h2⟩
theorem Box.apart {w w' : World} {g : Nat} {row : Option Nat} {v0 v1 v2 : Value} (h : Box w g v0 v1 v2) (hb : w.grownBy w' row) (hg : ∀ k, row = some k → g ≠ k) : Box w' g v0 v1 v2 := by
  obtain ⟨h0, h1, h2⟩ := h
  have e : some g ≠ row := fun x => hg g x.symm rfl
  exact ⟨hb.cell h0 e, hb.cell h1 e, hb.cell h2 e⟩

set_option maxHeartbeats 400000 in
theorem szl_far (a : Option Addr) (n cap : Nat) (l : Int) (w : World) (h0 : 0 ≤ l) (h1 : l ≤ 1048576) (h : l < n) (hn : n < 9223372036854775808) : Calls Try.prog 19 #[.slice a n cap, .int .i64 l] w fun e w' => e = .returned (.int .i64 (-1)) ∧ w' = w := by
  have i1 : l - (n : Int) < 0 := by omega
  have i2 : IntKind.i64.wrap (l - (n : Int)) = l - (n : Int) := IntWalk.i64_in _ (by omega)
  go_enter Try.func19, Try.ntmps19
  go_wp2
  go_ret
  exact ⟨rfl, rfl⟩
set_option maxHeartbeats 400000 in
theorem szl_near (a : Option Addr) (n cap : Nat) (l : Int) (w : World) (h1 : l ≤ 1048576) (h : (n : Int) ≤ l) : Calls Try.prog 19 #[.slice a n cap, .int .i64 l] w fun e w' => e = .returned (.int .i64 (l - (n : Int))) ∧ w' = w := by
  have i1 : ¬ l - (n : Int) < 0 := by omega
  have i2 : IntKind.i64.wrap (l - (n : Int)) = l - (n : Int) := IntWalk.i64_in _ (by omega)
  go_enter Try.func19, Try.ntmps19
  go_wp2
  go_ret
  exact ⟨rfl, rfl⟩
set_option maxHeartbeats 400000 in
theorem sz_any (z0 z1 : Int) (a : Option Addr) (n cap : Nat) (l : Int) (w : World) (h0 : 0 ≤ l) (h1 : l ≤ 1048576) (hn : n < 9223372036854775808) :
    Calls Try.prog 5 #[sv z0 z1 (.slice a n cap), .int .i64 l] w fun e w' => (∃ r : Int, e = .returned (.int .i64 r) ∧ (0 ≤ r → n ≤ 1048576) ∧ r ≤ 1048576) ∧ Below w.heap.size w w' := by
  have B1 : Hid (Below w.heap.size w (w.alloc (Obj.cells #[.int .i64 z0, .int .i64 z1, .slice a n cap] 24))) := (Below.refl _ _).alloc (Nat.le_refl _) _
  by_cases h : (n : Int) ≤ l
  · have i1 : ¬ l - (n : Int) < 0 := by omega
    go_enter Try.func5, Try.ntmps5
    go_wp2_with fail
    refine (szl_near _ _ _ _ _ h1 h).mono ?_
    rintro e w1 ⟨rfl, hw⟩
    subst hw
    go_wp2_with fail
    go_ret
    exact ⟨⟨_, rfl, fun _ => by omega, by omega⟩, B1.out⟩
  · go_enter Try.func5, Try.ntmps5
    go_wp2_with fail
    refine (szl_far _ _ _ _ _ h0 h1 (by omega) hn).mono ?_
    rintro e w1 ⟨rfl, hw⟩
    subst hw
    go_wp2_with fail
    go_ret
    exact ⟨⟨_, rfl, fun h => by omega, by omega⟩, B1.out⟩

set_option maxHeartbeats 1000000 in
theorem to_st (z0 z1 : Int) (L : List Int) (v : Value) (w : World) (hL : Lists.Reads w v L) (hl : L.length ≤ 1048576) :
    Calls Try.prog 7 #[sv z0 z1 v] w fun e w' => ∃ g, e = .returned (sv z0 z1 (.slice (some ⟨g, 0, none⟩) L.length L.length)) ∧ w'.ownsRow w.heap.size 2 1 (.slice (some ⟨g, 0, none⟩) L.length L.length) L.length (ints L) ∧ Below w.heap.size w w' := by
  have TL : Hid (∀ w', Below w.heap.size w w' → Calls Try.prog 22 #[v] w' fun e w'' => e = .returned (.slice (some ⟨w'.heap.size, 0, none⟩) L.length L.length) ∧ w''.ownsRow w'.heap.size 2 1 (.slice (some ⟨w'.heap.size, 0, none⟩) L.length L.length) L.length (ints L) ∧ Below w'.heap.size w' w'') := fun w' hb => Lists.to_any w' v L (hL.on hb) hl
  obtain ⟨w0, hw0⟩ : ∃ w0, w0 = ((w.alloc (Obj.cells #[.int .i64 z0, .int .i64 z1, v] 24)).alloc (Obj.cells #[.int .i64 0, .int .i64 0, .slice none 0 0] 28)).alloc (Obj.cells #[.int .i64 z0, .int .i64 z1, .slice none 0 0] 28) := ⟨_, rfl⟩
  have HW0 : Hid (w0 = ((w.alloc (Obj.cells #[.int .i64 z0, .int .i64 z1, v] 24)).alloc (Obj.cells #[.int .i64 0, .int .i64 0, .slice none 0 0] 28)).alloc (Obj.cells #[.int .i64 z0, .int .i64 z1, .slice none 0 0] 28)) := hw0
  have B0 : Hid (Below w.heap.size w w0) := (by show Below _ _ _; rw [hw0]; exact (((Below.refl _ _).alloc (Nat.le_refl _) _).alloc (by simp) _).alloc (by simp; omega) _)
  have z0' : w0.heap.size = w.heap.size + 3 := by rw [hw0]; simp
  have o0 : w0.cell? ⟨w.heap.size + 1 + 1, 0, none⟩ = some (.int .i64 z0) := by rw [hw0]; simp [go_sem]
  have r0 : w0.cell? ⟨w.heap.size + 1, 0, none⟩ = some (.int .i64 0) := by rw [hw0]; simp [go_sem]
  have rf0 : w0.frozen? ⟨w.heap.size + 1, 0, none⟩ = false := by rw [hw0]; simp [go_sem]
  have o1 : w0.cell? ⟨w.heap.size + 1 + 1, 1, none⟩ = some (.int .i64 z1) := by rw [hw0]; simp [go_sem]
  have r1 : w0.cell? ⟨w.heap.size + 1, 1, none⟩ = some (.int .i64 0) := by rw [hw0]; simp [go_sem]
  have rf1 : w0.frozen? ⟨w.heap.size + 1, 1, none⟩ = false := by rw [hw0]; simp [go_sem]
  have o2 : w0.cell? ⟨w.heap.size + 1 + 1, 2, none⟩ = some (.slice none 0 0) := by rw [hw0]; simp [go_sem]
  have of2 : w0.frozen? ⟨w.heap.size + 1 + 1, 2, none⟩ = false := by rw [hw0]; simp [go_sem]
  have r2 : w0.cell? ⟨w.heap.size + 1, 2, none⟩ = some (.slice none 0 0) := by rw [hw0]; simp [go_sem]
  have rf2 : w0.frozen? ⟨w.heap.size + 1, 2, none⟩ = false := by rw [hw0]; simp [go_sem]
  clear hL hw0
  go_enter Try.func7, Try.ntmps7
  go_wp2_with fail
  rw [← HW0.out]
  refine (TL.out w0 B0.out).mono ?_
  rintro e w1 ⟨rfl, x1, b1⟩
  have z1' := b1.size
  have B1 : Hid (Below w.heap.size w w1) := B0.out.trans (b1.mono B0.out.size)
  have X1 : Hid (w1.ownsRow w0.heap.size 2 1 (.slice (some ⟨w0.heap.size, 0, none⟩) L.length L.length) L.length (ints L)) := x1
  have p0 := (b1.cell (p := ⟨w.heap.size + 1 + 1, 0, none⟩) (by show w.heap.size + 1 + 1 < _; omega)).trans o0
  have s0 := (b1.cell (p := ⟨w.heap.size + 1, 0, none⟩) (by show w.heap.size + 1 < _; omega)).trans r0
  have sf0 := (b1.frozen (p := ⟨w.heap.size + 1, 0, none⟩) (by show w.heap.size + 1 < _; omega)).trans rf0
  have p1 := (b1.cell (p := ⟨w.heap.size + 1 + 1, 1, none⟩) (by show w.heap.size + 1 + 1 < _; omega)).trans o1
  have s1 := (b1.cell (p := ⟨w.heap.size + 1, 1, none⟩) (by show w.heap.size + 1 < _; omega)).trans r1
  have sf1 := (b1.frozen (p := ⟨w.heap.size + 1, 1, none⟩) (by show w.heap.size + 1 < _; omega)).trans rf1
  have p2 := (b1.cell (p := ⟨w.heap.size + 1 + 1, 2, none⟩) (by show w.heap.size + 1 + 1 < _; omega)).trans o2
  have pf2 := (b1.frozen (p := ⟨w.heap.size + 1 + 1, 2, none⟩) (by show w.heap.size + 1 + 1 < _; omega)).trans of2
  have s2 := (b1.cell (p := ⟨w.heap.size + 1, 2, none⟩) (by show w.heap.size + 1 < _; omega)).trans r2
  have sf2 := (b1.frozen (p := ⟨w.heap.size + 1, 2, none⟩) (by show w.heap.size + 1 < _; omega)).trans rf2
  clear b1 x1 HW0 TL B0 o0 r0 rf0 o1 r1 rf1 o2 of2 r2 rf2
  rw [z0'] at X1
  go_wp2_with fail
  refine bodyPost_ret (v := .agg #[.int .i64 z0, .int .i64 z1, .slice (some ⟨w.heap.size + 3, 0, none⟩) L.length L.length]) (by simp [results, Try.results7, go_sem, s0, s1, s2]) rfl ⟨w.heap.size + 3, rfl, ?_, ?_⟩
  · refine own_down ?_ (show w.heap.size ≤ w.heap.size + 3 by omega)
    exact (row_set (row_set (row_set (row_set X1.out _ _ _ (by omega)) _ _ _ (by omega)) _ _ _ (by omega)) _ _ _ (by omega))
  · exact ((((B1.out.setCell (p := ⟨w.heap.size + 1 + 1, 2, none⟩) (Nat.le_trans (Nat.le_succ _) (Nat.le_succ _)) _).setCell (p := ⟨w.heap.size + 1, 0, none⟩) (Nat.le_succ _) _).setCell (p := ⟨w.heap.size + 1, 1, none⟩) (Nat.le_succ _) _).setCell (p := ⟨w.heap.size + 1, 2, none⟩) (Nat.le_succ _) _)

set_option maxHeartbeats 1000000 in
theorem eq_st (z0 z1 : Int) (L : List Int) (c1 c2 : Value) (C D : Nat) (w : World) (hC : w.ownsRow C 2 1 c1 L.length (ints L)) (hD : w.ownsRow D 2 1 c2 L.length (ints L)) :
    Calls Try.prog 10 #[sv z0 z1 c1, sv z0 z1 c2] w fun e w' => e = .returned (.bool true) ∧ Below w.heap.size w w' := by
  have EI : Hid (∀ w', Below w.heap.size w w' → Calls Try.prog 9 #[c1, c2] w' fun e w'' => e = .returned (.bool true) ∧ ∃ n, w'' = w'.drewN n) := fun w' hb => Lists.eq_same w' C D c1 c2 L (row_on hC hb) (row_on hD hb)
  clear hC hD
  have hii : ∀ b : Int, (b != b) = false := fun b => by simp
  obtain ⟨w0, hw0⟩ : ∃ w0, w0 = (w.alloc (Obj.cells #[.int .i64 z0, .int .i64 z1, c1] 28)).alloc (Obj.cells #[.int .i64 z0, .int .i64 z1, c2] 28) := ⟨_, rfl⟩
  have HW0 : Hid (w0 = (w.alloc (Obj.cells #[.int .i64 z0, .int .i64 z1, c1] 28)).alloc (Obj.cells #[.int .i64 z0, .int .i64 z1, c2] 28)) := hw0
  have B0 : Hid (Below w.heap.size w w0) := (by show Below _ _ _; rw [hw0]; exact ((Below.refl _ _).alloc (Nat.le_refl _) _).alloc (by simp) _)
  have z0' : w0.heap.size = w.heap.size + 2 := by rw [hw0]; simp
  have X1 : Box w0 w.heap.size (.int .i64 z0) (.int .i64 z1) (c1) := by rw [hw0]; unfold Box; simp [go_sem]
  have X2 : Box w0 (w.heap.size + 1) (.int .i64 z0) (.int .i64 z1) (c2) := by rw [hw0]; unfold Box; simp [go_sem]
  clear hw0
  go_enter Try.func10, Try.ntmps10
  go_wp2_with fail
  rw [← HW0.out]
  refine (EI.out _ B0.out).mono ?_
  rintro e w1 ⟨rfl, n1, hw⟩
  have B1 : Hid (Below w.heap.size w w1) := (by show Below _ _ _; rw [hw]; exact below_drewN B0.out _)
  have Y1 : Box w1 w.heap.size (.int .i64 z0) (.int .i64 z1) (c1) := by rw [hw]; exact X1
  have Y2 : Box w1 (w.heap.size + 1) (.int .i64 z0) (.int .i64 z1) (c2) := by rw [hw]; exact X2
  obtain ⟨h0, h1, h2⟩ := Y1
  obtain ⟨k0, k1, k2⟩ := Y2
  clear hw X1 X2 HW0 B0 z0' EI
  go_wp2_with fail
  go_ret
  exact ⟨rfl, B1.out⟩

set_option maxHeartbeats 1000000 in
theorem mark_st (z0 z1 : Int) (L : List Int) (base : Nat) (v : Value) (k0 : Int) (w : World) (hk0 : 0 ≤ k0) (hk1 : k0 ≤ 4000000) (hn : L.length ≤ 2000000) (h : w.ownsRow base 2 1 v L.length (ints L)) :
    Calls Try.prog 11 #[sv z0 z1 v, .int .i64 k0] w fun e w' => e = .returned (.int .i64 (k0 + L.length)) ∧ w'.ownsRow base 2 1 v L.length (ints (sq k0 L.length)) ∧ w.grownBy w' v.ownBlock := by
  have b0 : Below w.heap.size w (w.alloc (Obj.cells #[.int .i64 z0, .int .i64 z1, v] 28)) := (Below.refl _ _).alloc (Nat.le_refl _) _
  have M : Hid (Calls Try.prog 12 #[v, .int .i64 k0] (w.alloc (Obj.cells #[.int .i64 z0, .int .i64 z1, v] 28)) fun e w' => e = .returned (.int .i64 (k0 + L.length)) ∧ w'.ownsRow base 2 1 v L.length (ints (sq k0 L.length)) ∧ (w.alloc (Obj.cells #[.int .i64 z0, .int .i64 z1, v] 28)).grownBy w' v.ownBlock) := mark_any _ base v L k0 hk0 hk1 hn (row_on h b0)
  have B0 : Hid (Below w.heap.size w (w.alloc (Obj.cells #[.int .i64 z0, .int .i64 z1, v] 28))) := b0
  clear h b0
  go_enter Try.func11, Try.ntmps11
  go_wp2_with fail
  refine M.out.mono ?_
  rintro e w1 ⟨rfl, r, g⟩
  have RR : Hid (w1.ownsRow base 2 1 v L.length (ints (sq k0 L.length))) := r
  have GG : Hid (w.grownBy w1 v.ownBlock) := ⟨g.os.trans B0.out.os, g.tape.trans B0.out.tape, g.output.trans B0.out.output, Nat.le_trans B0.out.size g.size, fun k hk hne => (g.block k (Nat.lt_of_lt_of_le hk B0.out.size) hne).trans (B0.out.block k hk)⟩
  clear r g M B0
  go_wp2_with fail
  go_ret
  exact ⟨rfl, RR.out, GG.out⟩

end Go.Proofs.Ytagkbglgdmajhaa.Bo
