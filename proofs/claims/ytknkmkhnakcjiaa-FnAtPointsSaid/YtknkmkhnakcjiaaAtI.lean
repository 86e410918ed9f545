/- Whether values fit a grid; where a place lies; values between two: the program. -/
import Derived.Test.YtknkmkhnakcjiaaAtC
namespace Go.Proofs.Ytknkmkhnakcjiaa.Gd
open Go.ChangeShapes Go.WideShapes Go.ChangeAt Go.RowKit
open Go.Proofs.Ytknkmkhnakcjiaa.Flt

set_option maxHeartbeats 1000000 in
theorem ifield_any (r c s ws st : Int) (a : Option Addr) (n cap : Nat) (w : World) : Calls Try.prog 13 #[gv r c s ws st, .slice a n cap] w fun e w' => e = .returned (.bool (right r c s ws st n)) ∧ Below w.heap.size w w' := by
  obtain ⟨w0, hw0⟩ : ∃ w0, w0 = w.alloc (Obj.cells #[.int .i64 r, .int .i64 c, .int .i64 s, .int .i64 ws, .int .i64 st] 25) := ⟨_, rfl⟩
  have HW : Hid (w0 = w.alloc (Obj.cells #[.int .i64 r, .int .i64 c, .int .i64 s, .int .i64 ws, .int .i64 st] 25)) := hw0
  have B0 : Hid (Below w.heap.size w w0) := (by show Below _ _ _; rw [hw0]; exact (Below.refl _ _).alloc (Nat.le_refl _) _)
  have GO : Hid (Calls Try.prog 25 #[gv r c s ws st] w0 fun e w' => e = .returned (.bool (gok r c s ws st)) ∧ Below w0.heap.size w0 w') := igrid_any r c s ws st w0
  have s0 : w0.heap.size = w.heap.size + 1 := by rw [hw0]; simp
  have b0 : w0.cell? ⟨w.heap.size, 0, none⟩ = some (.int .i64 r) := by rw [hw0]; simp [go_sem]
  have b1 : w0.cell? ⟨w.heap.size, 1, none⟩ = some (.int .i64 c) := by rw [hw0]; simp [go_sem]
  have PQ : Hid (gok r c s ws st = true → wrap64 (r * c) = r * c) := fun h => by
    obtain ⟨h1, h2, _⟩ := gok_parts h
    have := prod_le2 h1 h2
    exact IntWalk.wrap64_in _ (by omega)
  clear hw0
  unfold right
  cases hg : gok r c s ws st
  · rw [hg] at GO
    clear PQ hg
    go_enter Try.func13, Try.ntmps13
    go_wp2_with fail
    rw [← HW.out]
    refine GO.out.mono ?_
    rintro e w1 ⟨rfl, b2⟩
    have B1 : Hid (Below w.heap.size w w1) := B0.out.trans (b2.mono B0.out.size)
    clear b2 HW
    go_wp2_with fail
    go_ret
    exact ⟨rfl, B1.out⟩
  · rw [hg] at GO
    have j1 := PQ.out hg
    clear PQ hg
    obtain ⟨p, hp⟩ : ∃ p, p = r * c := ⟨_, rfl⟩
    rw [← hp] at j1 ⊢
    have j2 : wrap64 (r * c) = p := by rw [hp]; rw [← hp]; exact j1
    clear hp j1
    by_cases hn : (n : Int) = p
    · subst hn
      go_enter Try.func13, Try.ntmps13
      go_wp2_with fail
      rw [← HW.out]
      refine GO.out.mono ?_
      rintro e w1 ⟨rfl, b2⟩
      have d0 := (b2.cell (p := ⟨w.heap.size, 0, none⟩) (by show w.heap.size < _; omega)).trans b0
      have d1 := (b2.cell (p := ⟨w.heap.size, 1, none⟩) (by show w.heap.size < _; omega)).trans b1
      have B1 : Hid (Below w.heap.size w w1) := B0.out.trans (b2.mono B0.out.size)
      clear b2 HW
      go_wp2_with fail
      go_ret
      exact ⟨by simp, B1.out⟩
    · have q : ((n : Int) == p) = false := by simpa using hn
      have HQ : Hid (decide ((n : Int) = p) = false) := decide_eq_false hn
      clear hn
      go_enter Try.func13, Try.ntmps13
      go_wp2_with fail
      rw [← HW.out]
      refine GO.out.mono ?_
      rintro e w1 ⟨rfl, b2⟩
      have d0 := (b2.cell (p := ⟨w.heap.size, 0, none⟩) (by show w.heap.size < _; omega)).trans b0
      have d1 := (b2.cell (p := ⟨w.heap.size, 1, none⟩) (by show w.heap.size < _; omega)).trans b1
      have B1 : Hid (Below w.heap.size w w1) := B0.out.trans (b2.mono B0.out.size)
      clear b2 HW
      go_wp2_with fail
      go_ret
      exact ⟨by rw [HQ.out]; rfl, B1.out⟩

set_option maxHeartbeats 1000000 in
theorem line_any (off st n : Int) (w : World) (hs : 1 ≤ st ∧ st ≤ 3000) (hn : 2 ≤ n ∧ n ≤ 64) (h0 : 0 ≤ off) (h1 : off ≤ (n - 1) * st) : Calls Try.prog 16 #[.int .i64 off, .int .i64 st, .int .i64 n] w fun e w' => e = .returned (.tuple #[.int .i64 (cellOf off st n), .int .i64 (off - cellOf off st n * st)]) ∧ w' = w := by
  obtain ⟨f0, f1, f2, f3⟩ := cell_fit hs.1 hn.1 h0 h1
  have hq : (n - 1) * st ≤ 189000 := by
    obtain ⟨m, hm⟩ : ∃ m : Nat, st = (m : Int) := ⟨st.toNat, by omega⟩
    obtain ⟨k, hk⟩ : ∃ k : Nat, n - 1 = (k : Int) := ⟨(n - 1).toNat, by omega⟩
    have := Nat.mul_le_mul (show k ≤ 63 by omega) (show m ≤ 3000 by omega)
    rw [hm, hk, ← Int.natCast_mul]
    omega
  have h2 : off ≤ 189000 := by omega
  have q0 : 0 ≤ off / st := Int.ediv_nonneg h0 (by omega)
  have q1 : off / st ≤ off := Int.ediv_le_self _ h0
  have t1 : off.tdiv st = off / st := Int.tdiv_eq_ediv_of_nonneg h0
  have HD : Hid (cellOf off st n = if off / st ≤ n - 2 then off / st else n - 2) := rfl
  obtain ⟨R, hR⟩ : ∃ R, R = cellOf off st n := ⟨_, rfl⟩
  obtain ⟨y, hy⟩ : ∃ y, y = R * st := ⟨_, rfl⟩
  rw [← hR] at HD f0 f1 f2 f3 ⊢
  rw [← hy] at f2 f3 ⊢
  have j1 : wrap64 (R * st) = y := by rw [hy]; exact IntWalk.wrap64_in _ (by omega)
  obtain ⟨d, hd⟩ : ∃ d, d = off / st := ⟨_, rfl⟩
  rw [← hd] at HD t1 q0 q1
  have d0 : ¬ st = 0 := by omega
  have j2 : IntKind.i64.wrap (off.tdiv st) = d := by rw [t1]; exact IntWalk.i64_in _ (by omega)
  have j3 : wrap64 (off / st) = d := by rw [← hd]; exact IntWalk.wrap64_in _ (by omega)
  have W1 : ∀ z, z = R → wrap64 (off - wrap64 (z * st)) = off - y := fun z hz => by rw [hz, j1]; exact IntWalk.wrap64_in _ (by omega)
  by_cases hm : d ≤ n - 2
  · have er : R = d := by rw [HD.out, if_pos hm]
    have E1 : Hid (off / st = R) := (by show _ = _; rw [← hd, er])
    have E2 : Hid (wrap64 (off - wrap64 (off / st * st)) = off - y) := W1 _ E1.out
    have hm' : off / st ≤ n - 2 := by omega
    clear hR hy h1 hq er W1 HD hm hd j1 j2 j3 t1 q0 q1
    have q2 : IntKind.i64.wrap (off / st) = off / st := IntWalk.i64_in _ (by have := E1.out; omega)
    go_enter Try.func16, Try.ntmps16
    go_wp2_with fail
    go_ret2
    exact ⟨by
      show Ending.returned (Value.tuple #[Value.int .i64 (off / st), Value.int .i64 (wrap64 (off - wrap64 (off / st * st)))]) = _
      rw [E2.out, E1.out], rfl⟩
  · have er : R = n - 2 := by rw [HD.out, if_neg hm]
    have E1 : Hid (n - 2 = R) := er.symm
    have E2 : Hid (wrap64 (off - wrap64 ((n - 2) * st)) = off - y) := W1 _ E1.out
    have hm' : ¬ off / st ≤ n - 2 := by omega
    have q2 : IntKind.i64.wrap (off / st) = off / st := IntWalk.i64_in _ (by omega)
    clear hR hy h1 hq er W1 HD hm hd j1 j2 j3 t1 q0 q1
    go_enter Try.func16, Try.ntmps16
    go_wp2_with fail
    go_ret2
    exact ⟨by
      show Ending.returned (Value.tuple #[Value.int .i64 (n - 2), Value.int .i64 (wrap64 (off - wrap64 ((n - 2) * st)))]) = _
      rw [E2.out, E1.out], rfl⟩

set_option maxHeartbeats 1000000 in
theorem blend_any (a b f : Nat) (w : World) : Calls Try.prog 18 #[.float .f64 a, .float .f64 b, .float .f64 f] w fun e w' => ∃ x, e = .returned (.float .f64 x) ∧ cn x = ble (cn a) (cn b) (cn f) ∧ ∃ m, w' = w.drewN m := by
  have hA : ∀ x y w, (binOp .add 30 (.float .f64 x) (.float .f64 y)).run Try.prog w = .ok (.float .f64 (opB .add x y w)) (w.drewN (opD .add x y)) := fun x y w => run_op Try.prog .add arAdd 25 x y w
  have hS : ∀ x y w, (binOp .sub 30 (.float .f64 x) (.float .f64 y)).run Try.prog w = .ok (.float .f64 (opB .sub x y w)) (w.drewN (opD .sub x y)) := fun x y w => run_op Try.prog .sub arSub 25 x y w
  have hM : ∀ x y w, (binOp .mul 30 (.float .f64 x) (.float .f64 y)).run Try.prog w = .ok (.float .f64 (opB .mul x y w)) (w.drewN (opD .mul x y)) := fun x y w => run_op Try.prog .mul arMul 25 x y w
  go_enter Try.func18, Try.ntmps18
  go_wp2_with fail
  go_ret
  exact ⟨_, rfl, by rw [cn_op, cn_op, cn_op]; rfl, _, rfl⟩

set_option maxHeartbeats 1000000 in
theorem near_any (l b st : Int) (w : World) (hl : 0 ≤ l ∧ l ≤ 64) (hb : 0 ≤ b ∧ b ≤ 200000) (hs : 1 ≤ st ∧ st ≤ 3000) : Calls Try.prog 19 #[.int .i64 l, .int .i64 b, .int .i64 st] w fun e w' => e = .returned (.int .i64 (l + if st < 2 * b then 1 else 0)) ∧ w' = w := by
  by_cases h : st < 2 * b
  · have h' : st - b < b := by omega
    have E : Hid (l + (if st < 2 * b then 1 else 0) = l + 1) := (by show _ = _; rw [if_pos h])
    rw [E.out]
    clear h E
    go_enter Try.func19, Try.ntmps19
    go_wp2_with fail
    go_ret
    exact ⟨rfl, rfl⟩
  · have h' : ¬ st - b < b := by omega
    have E : Hid (l + (if st < 2 * b then 1 else 0) = l) := (by show _ = _; rw [if_neg h]; omega)
    rw [E.out]
    clear h E
    go_enter Try.func19, Try.ntmps19
    go_wp2_with fail
    go_ret
    exact ⟨rfl, rfl⟩
end Go.Proofs.Ytknkmkhnakcjiaa.Gd
