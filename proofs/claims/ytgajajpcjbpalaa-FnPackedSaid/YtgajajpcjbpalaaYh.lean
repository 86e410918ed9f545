/- Rounding, tried and told: the program. -/
import Derived.Test.YtgajajpcjbpalaaYg
namespace Go.Proofs.Ytgajajpcjbpalaa.Pkd
open Go.ChangeShapes Go.WideShapes Go.ChangeAt Go.RowKit
open Go.Proofs.Ytgajajpcjbpalaa.Lists Go.Proofs.Ytgajajpcjbpalaa.Flt Go.Proofs.Ytgajajpcjbpalaa.Fls


set_option maxHeartbeats 1000000 in
theorem tried_p (w : World) (b : Int) (v : Value) (W : List Int) (hR : Lists.Reads w v W) (hl : W.length ≤ 4096) (b1 : 1 ≤ b) (b2 : b ≤ 24) (hf : W.all fit = true) :
    Calls Try.prog 47 #[.func (.method "loop.example/g00051/impl.pack") #[.iface 52 (.agg #[.int .i64 b])] #[], v] w fun x w' => ∃ r e cd cv, IsPk W b r e cd ∧ x = .returned (.tuple #[pkv ⟨0, 0, r, e, b, [], cd⟩ (.slice none 0 0) cv, .bool true]) ∧ w'.ownsRow w.heap.size 2 1 cv cd.length (ints cd) ∧ Below w.heap.size w w' := by
  obtain ⟨xa, xc, ev⟩ := hR.form
  subst ev
  obtain ⟨w3, hw3⟩ : ∃ w3, w3 = ((w.alloc (.cells #[.func (.method "loop.example/g00051/impl.pack") #[.iface 52 (.agg #[.int .i64 b])] #[]] 75)).alloc (.cells #[.slice xa W.length xc] 24)).alloc (.cells #[.int .i64 0, .int .i64 0, .int .i64 0, .int .i64 0, .int .i64 0, .slice none 0 0, .slice none 0 0] 26) := ⟨_, rfl⟩
  have HW : Hid (w3 = ((w.alloc (.cells #[.func (.method "loop.example/g00051/impl.pack") #[.iface 52 (.agg #[.int .i64 b])] #[]] 75)).alloc (.cells #[.slice xa W.length xc] 24)).alloc (.cells #[.int .i64 0, .int .i64 0, .int .i64 0, .int .i64 0, .int .i64 0, .slice none 0 0, .slice none 0 0] 26)) := hw3
  have B1 : Hid (Below w.heap.size w w3) := (by show Below _ _ _; rw [hw3]; exact (((Below.refl _ _).alloc (Nat.le_refl _) _).alloc (by simp) _).alloc (by simp; omega) _)
  have S1 : Hid (w3.heap.size = w.heap.size + 3) := (by show _ = _; rw [hw3]; simp)
  have Z1 : Hid (Box7 w3 (w.heap.size + 2) (.int .i64 0) (.int .i64 0) (.int .i64 0) (.int .i64 0) (.int .i64 0) (.slice none 0 0) (.slice none 0 0)) := (by show Box7 _ _ _ _ _ _ _ _ _; rw [hw3]; unfold Box7; simp [go_sem])
  have F1 : Hid (∀ j, w3.frozen? ⟨w.heap.size + 2, j, none⟩ = false) := fun j => (by rw [hw3]; simp [go_sem])
  have s1 := S1.out
  have HP : Hid (Calls Try.prog 60 #[.func (.func 61) #[] #[.pointer (some ⟨w.heap.size, 0, none⟩), .pointer (some ⟨w.heap.size + 1, 0, none⟩)]] w3 fun x w' => ∃ r e cd cv, IsPk W b r e cd ∧ x = .returned (.tuple #[pkv ⟨0, 0, r, e, b, [], cd⟩ (.slice none 0 0) cv, .int .i64 0]) ∧ w'.ownsRow w3.heap.size 2 1 cv cd.length (ints cd) ∧ Below w3.heap.size w3 w') := caught_p w3 w.heap.size (w.heap.size + 1) b _ W (hR.on B1.out) hl b1 b2 hf (by rw [hw3]; simp [go_sem]) (by rw [hw3]; simp [go_sem]) (by omega) (by omega)
  have hmf : ∀ (fn : Fn) (first cap : Array Value) (w : World), (Instr.makeFunc fn first cap).run Try.prog w = .ok (.func fn first cap) w := fun _ _ _ _ => rfl
  clear hw3 hR s1
  go_enter Try.func47, Try.ntmps47
  go_upto_region 1 with fail
  rw [← HW.out]
  go_wp2_with fail
  refine HP.out.mono ?_
  rintro x w1 ⟨r, e, cd, cv, hk, rfl, o1, bl⟩
  obtain ⟨va, vc, ev⟩ := row_form2 o1
  subst ev
  have HK : Hid (IsPk W b r e cd) := hk
  have s1 := S1.out
  have z2 : w.heap.size + 3 ≤ w1.heap.size := by have := bl.size; omega
  obtain ⟨w4, hw4⟩ : ∃ w4, w4 = w1.alloc (.cells #[.int .i64 0, .int .i64 0, .int .i64 r, .int .i64 (e : Int), .int .i64 b, .slice none 0 0, .slice va cd.length vc] 26) := ⟨_, rfl⟩
  have HW4 : Hid (w4 = w1.alloc (.cells #[.int .i64 0, .int .i64 0, .int .i64 r, .int .i64 (e : Int), .int .i64 b, .slice none 0 0, .slice va cd.length vc] 26)) := hw4
  have bl4 : Below w3.heap.size w3 w4 := (by rw [hw4]; exact bl.alloc (by omega) _)
  have Z2 := Z1.out.on bl4 (by omega)
  have BB : Below w.heap.size w w4 := B1.out.trans (bl4.mono (by omega))
  have F2 : ∀ j, w4.frozen? ⟨w.heap.size + 2, j, none⟩ = false := fun j => (bl4.frozen (p := ⟨w.heap.size + 2, j, none⟩) (by show w.heap.size + 2 < _; omega)).trans (F1.out j)
  have o4 : w4.ownsRow w3.heap.size 2 1 (.slice va cd.length vc) cd.length (ints cd) := row_later o1 (B := w1.heap.size) (by rw [hw4]; exact (Below.refl _ _).alloc (Nat.le_refl _) _) (Nat.le_refl _)
  have L4 : Hid (Box7 w4 w1.heap.size (.int .i64 0) (.int .i64 0) (.int .i64 r) (.int .i64 (e : Int)) (.int .i64 b) (.slice none 0 0) (.slice va cd.length vc)) := (by show Box7 _ _ _ _ _ _ _ _ _; rw [hw4]; unfold Box7; simp [go_sem])
  obtain ⟨y0, y1, y2, y3, y4, y5, y6⟩ := Z2
  have FX : Hid (Box7 (((((((w4.setCell ⟨(w.heap.size + 2), 0, none⟩ (.int .i64 0)).setCell ⟨(w.heap.size + 2), 1, none⟩ (.int .i64 0)).setCell ⟨(w.heap.size + 2), 2, none⟩ (.int .i64 r)).setCell ⟨(w.heap.size + 2), 3, none⟩ (.int .i64 (e : Int))).setCell ⟨(w.heap.size + 2), 4, none⟩ (.int .i64 b)).setCell ⟨(w.heap.size + 2), 5, none⟩ (.slice none 0 0)).setCell ⟨(w.heap.size + 2), 6, none⟩ (.slice va cd.length vc)) (w.heap.size + 2) (.int .i64 0) (.int .i64 0) (.int .i64 r) (.int .i64 (e : Int)) (.int .i64 b) (.slice none 0 0) (.slice va cd.length vc)) := put7_box _ _ _ _ _ _ _ ⟨y0, y1, y2, y3, y4, y5, y6⟩
  have FO : Hid ((((((((w4.setCell ⟨(w.heap.size + 2), 0, none⟩ (.int .i64 0)).setCell ⟨(w.heap.size + 2), 1, none⟩ (.int .i64 0)).setCell ⟨(w.heap.size + 2), 2, none⟩ (.int .i64 r)).setCell ⟨(w.heap.size + 2), 3, none⟩ (.int .i64 (e : Int))).setCell ⟨(w.heap.size + 2), 4, none⟩ (.int .i64 b)).setCell ⟨(w.heap.size + 2), 5, none⟩ (.slice none 0 0)).setCell ⟨(w.heap.size + 2), 6, none⟩ (.slice va cd.length vc)).ownsRow w.heap.size 2 1 (.slice va cd.length vc) cd.length (ints cd)) := down_row (put7_row _ _ _ _ _ _ _ o4 (by omega)) (by omega)
  have FL : Hid (Below w.heap.size w (((((((w4.setCell ⟨(w.heap.size + 2), 0, none⟩ (.int .i64 0)).setCell ⟨(w.heap.size + 2), 1, none⟩ (.int .i64 0)).setCell ⟨(w.heap.size + 2), 2, none⟩ (.int .i64 r)).setCell ⟨(w.heap.size + 2), 3, none⟩ (.int .i64 (e : Int))).setCell ⟨(w.heap.size + 2), 4, none⟩ (.int .i64 b)).setCell ⟨(w.heap.size + 2), 5, none⟩ (.slice none 0 0)).setCell ⟨(w.heap.size + 2), 6, none⟩ (.slice va cd.length vc))) := put7_below _ _ _ _ _ _ _ BB (by omega)
  obtain ⟨l0, l1, l2, l3, l4, l5, l6⟩ := L4.out
  clear hk o1 bl BB HP S1 s1 hw4 bl4 o4 L4
  unfold pkv
  go_upto_region 2 with fail
  rw [← HW4.out]
  go_wp2_with fail
  generalize World.setCell _ _ _ = wz at FX FO FL ⊢
  obtain ⟨z0, z1, z2, z3, z4, z5, z6⟩ := FX.out
  refine bodyPost_ret (v := .tuple #[pkv ⟨0, 0, r, e, b, [], cd⟩ (.slice none 0 0) (.slice va cd.length vc), .bool true]) (by simp [results, Try.results47, go_sem, pkv, z0, z1, z2, z3, z4, z5, z6]) rfl ⟨r, e, cd, _, HK.out, rfl, FO.out, FL.out⟩

set_option maxHeartbeats 1000000 in
theorem forth_yes (w : World) (b : Int) (v : Value) (W : List Int) (hR : Lists.Reads w v W) (hl : W.length ≤ 4096) (b1 : 1 ≤ b) (b2 : b ≤ 24) (hf : W.all fit = true) :
    Calls Try.prog 22 #[.iface 52 (.agg #[.int .i64 b]), v] w fun x w' => ∃ r e cd cv, IsPk W b r e cd ∧ x = .returned (.tuple #[pkv ⟨0, 0, r, e, b, [], cd⟩ (.slice none 0 0) cv, .bool true]) ∧ w'.ownsRow w.heap.size 2 1 cv cd.length (ints cd) ∧ Below w.heap.size w w' := by
  obtain ⟨w3, hw3⟩ : ∃ w3, w3 = w.alloc (.cells #[.int .i64 0, .int .i64 0, .int .i64 0, .int .i64 0, .int .i64 0, .slice none 0 0, .slice none 0 0] 26) := ⟨_, rfl⟩
  have HW : Hid (w3 = w.alloc (.cells #[.int .i64 0, .int .i64 0, .int .i64 0, .int .i64 0, .int .i64 0, .slice none 0 0, .slice none 0 0] 26)) := hw3
  have B1 : Hid (Below w.heap.size w w3) := (by show Below _ _ _; rw [hw3]; exact (Below.refl _ _).alloc (Nat.le_refl _) _)
  have S1 : Hid (w3.heap.size = w.heap.size + 1) := (by show _ = _; rw [hw3]; simp)
  have Z1 : Hid (Box7 w3 w.heap.size (.int .i64 0) (.int .i64 0) (.int .i64 0) (.int .i64 0) (.int .i64 0) (.slice none 0 0) (.slice none 0 0)) := (by show Box7 _ _ _ _ _ _ _ _ _; rw [hw3]; exact zbox w)
  have F1 : Hid (∀ j, w3.frozen? ⟨w.heap.size, j, none⟩ = false) := fun j => (by rw [hw3]; simp [go_sem])
  have HN : Hid (Calls Try.prog 46 #[v, .int .i64 1099511627776] w3 fun e w' => e = .returned (.bool true) ∧ w' = w3) := (by show Calls _ _ _ _ _; rw [← hf]; exact numok_any v W w3 (hR.on B1.out) hl)
  have HP : Hid (Calls Try.prog 47 #[.func (.method "loop.example/g00051/impl.pack") #[.iface 52 (.agg #[.int .i64 b])] #[], v] w3 fun x w' => ∃ r e cd cv, IsPk W b r e cd ∧ x = .returned (.tuple #[pkv ⟨0, 0, r, e, b, [], cd⟩ (.slice none 0 0) cv, .bool true]) ∧ w'.ownsRow w3.heap.size 2 1 cv cd.length (ints cd) ∧ Below w3.heap.size w3 w') := tried_p w3 b v W (hR.on B1.out) hl b1 b2 hf
  have hmf : ∀ (fn : Fn) (first cap : Array Value) (w : World), (Instr.makeFunc fn first cap).run Try.prog w = .ok (.func fn first cap) w := fun _ _ _ _ => rfl
  clear hw3 hR
  go_enter Try.func22, Try.ntmps22
  go_upto_region 1 with fail
  rw [← HW.out]
  go_wp2_with fail
  refine HN.out.mono ?_
  rintro x w' ⟨rfl, hw⟩; subst w'
  go_wp2_with fail
  refine HP.out.mono ?_
  rintro x w1 ⟨r, e, cd, cv, hk, rfl, o1, bl⟩
  obtain ⟨va, vc, ev⟩ := row_form2 o1
  subst ev
  have HK : Hid (IsPk W b r e cd) := hk
  have s1 := S1.out
  have z2 : w.heap.size + 1 ≤ w1.heap.size := by have := bl.size; omega
  have Z2 := Z1.out.on bl (by omega)
  have BB : Below w.heap.size w w1 := B1.out.trans (bl.mono (by omega))
  have F2 : ∀ j, w1.frozen? ⟨w.heap.size, j, none⟩ = false := fun j => (bl.frozen (p := ⟨w.heap.size, j, none⟩) (by show w.heap.size < _; omega)).trans (F1.out j)
  obtain ⟨y0, y1, y2, y3, y4, y5, y6⟩ := Z2
  have FX : Hid (Box7 (((((((w1.setCell ⟨w.heap.size, 0, none⟩ (.int .i64 0)).setCell ⟨w.heap.size, 1, none⟩ (.int .i64 0)).setCell ⟨w.heap.size, 2, none⟩ (.int .i64 r)).setCell ⟨w.heap.size, 3, none⟩ (.int .i64 (e : Int))).setCell ⟨w.heap.size, 4, none⟩ (.int .i64 b)).setCell ⟨w.heap.size, 5, none⟩ (.slice none 0 0)).setCell ⟨w.heap.size, 6, none⟩ (.slice va cd.length vc)) w.heap.size (.int .i64 0) (.int .i64 0) (.int .i64 r) (.int .i64 (e : Int)) (.int .i64 b) (.slice none 0 0) (.slice va cd.length vc)) := put7_box _ _ _ _ _ _ _ ⟨y0, y1, y2, y3, y4, y5, y6⟩
  have FO : Hid ((((((((w1.setCell ⟨w.heap.size, 0, none⟩ (.int .i64 0)).setCell ⟨w.heap.size, 1, none⟩ (.int .i64 0)).setCell ⟨w.heap.size, 2, none⟩ (.int .i64 r)).setCell ⟨w.heap.size, 3, none⟩ (.int .i64 (e : Int))).setCell ⟨w.heap.size, 4, none⟩ (.int .i64 b)).setCell ⟨w.heap.size, 5, none⟩ (.slice none 0 0)).setCell ⟨w.heap.size, 6, none⟩ (.slice va cd.length vc)).ownsRow w.heap.size 2 1 (.slice va cd.length vc) cd.length (ints cd)) := down_row (put7_row _ _ _ _ _ _ _ o1 (by omega)) (by omega)
  have FL : Hid (Below w.heap.size w (((((((w1.setCell ⟨w.heap.size, 0, none⟩ (.int .i64 0)).setCell ⟨w.heap.size, 1, none⟩ (.int .i64 0)).setCell ⟨w.heap.size, 2, none⟩ (.int .i64 r)).setCell ⟨w.heap.size, 3, none⟩ (.int .i64 (e : Int))).setCell ⟨w.heap.size, 4, none⟩ (.int .i64 b)).setCell ⟨w.heap.size, 5, none⟩ (.slice none 0 0)).setCell ⟨w.heap.size, 6, none⟩ (.slice va cd.length vc))) := put7_below _ _ _ _ _ _ _ BB (Nat.le_refl _)
  clear hk o1 bl BB HP S1 s1 HN
  unfold pkv
  go_wp2_with fail
  generalize World.setCell _ _ _ = wz at FX FO FL ⊢
  obtain ⟨z0, z1, z2, z3, z4, z5, z6⟩ := FX.out
  refine bodyPost_ret (v := .tuple #[pkv ⟨0, 0, r, e, b, [], cd⟩ (.slice none 0 0) (.slice va cd.length vc), .bool true]) (by simp [results, Try.results22, go_sem, pkv, z0, z1, z2, z3, z4, z5, z6]) rfl ⟨r, e, cd, _, HK.out, rfl, FO.out, FL.out⟩

set_option maxHeartbeats 1000000 in
theorem forth_no (w : World) (b : Int) (v : Value) (W : List Int) (hR : Lists.Reads w v W) (hl : W.length ≤ 4096) (hf : W.all fit = false) :
    Calls Try.prog 22 #[.iface 52 (.agg #[.int .i64 b]), v] w fun x w' => x = .returned (.tuple #[pkv ⟨0, 0, 0, 0, 0, [], []⟩ (.slice none 0 0) (.slice none 0 0), .bool false]) ∧ Below w.heap.size w w' := by
  obtain ⟨w3, hw3⟩ : ∃ w3, w3 = w.alloc (.cells #[.int .i64 0, .int .i64 0, .int .i64 0, .int .i64 0, .int .i64 0, .slice none 0 0, .slice none 0 0] 26) := ⟨_, rfl⟩
  have HW : Hid (w3 = w.alloc (.cells #[.int .i64 0, .int .i64 0, .int .i64 0, .int .i64 0, .int .i64 0, .slice none 0 0, .slice none 0 0] 26)) := hw3
  have B1 : Hid (Below w.heap.size w w3) := (by show Below _ _ _; rw [hw3]; exact (Below.refl _ _).alloc (Nat.le_refl _) _)
  have S1 : Hid (w3.heap.size = w.heap.size + 1) := (by show _ = _; rw [hw3]; simp)
  have Z1 : Hid (Box7 w3 w.heap.size (.int .i64 0) (.int .i64 0) (.int .i64 0) (.int .i64 0) (.int .i64 0) (.slice none 0 0) (.slice none 0 0)) := (by show Box7 _ _ _ _ _ _ _ _ _; rw [hw3]; exact zbox w)
  have F1 : Hid (∀ j, w3.frozen? ⟨w.heap.size, j, none⟩ = false) := fun j => (by rw [hw3]; simp [go_sem])
  have HN : Hid (Calls Try.prog 46 #[v, .int .i64 1099511627776] w3 fun e w' => e = .returned (.bool false) ∧ w' = w3) := (by show Calls _ _ _ _ _; rw [← hf]; exact numok_any v W w3 (hR.on B1.out) hl)
  clear hw3 hR
  have s1 := S1.out
  obtain ⟨w4, hw4⟩ : ∃ w4, w4 = w3.alloc (.cells #[.int .i64 0, .int .i64 0, .int .i64 0, .int .i64 0, .int .i64 0, .slice none 0 0, .slice none 0 0] 26) := ⟨_, rfl⟩
  have HW4 : Hid (w4 = w3.alloc (.cells #[.int .i64 0, .int .i64 0, .int .i64 0, .int .i64 0, .int .i64 0, .slice none 0 0, .slice none 0 0] 26)) := hw4
  have bl4 : Below w3.heap.size w3 w4 := (by rw [hw4]; exact (Below.refl _ _).alloc (Nat.le_refl _) _)
  have Z2 := Z1.out.on bl4 (by omega)
  have BB : Below w.heap.size w w4 := B1.out.trans (bl4.mono (by omega))
  have F2 : ∀ j, w4.frozen? ⟨w.heap.size, j, none⟩ = false := fun j => (bl4.frozen (p := ⟨w.heap.size, j, none⟩) (by show w.heap.size < _; omega)).trans (F1.out j)
  have L4 : Hid (Box7 w4 w3.heap.size (.int .i64 0) (.int .i64 0) (.int .i64 0) (.int .i64 0) (.int .i64 0) (.slice none 0 0) (.slice none 0 0)) := (by show Box7 _ _ _ _ _ _ _ _ _; rw [hw4]; exact zbox w3)
  obtain ⟨y0, y1, y2, y3, y4, y5, y6⟩ := Z2
  have FX : Hid (Box7 (((((((w4.setCell ⟨w.heap.size, 0, none⟩ (.int .i64 0)).setCell ⟨w.heap.size, 1, none⟩ (.int .i64 0)).setCell ⟨w.heap.size, 2, none⟩ (.int .i64 0)).setCell ⟨w.heap.size, 3, none⟩ (.int .i64 0)).setCell ⟨w.heap.size, 4, none⟩ (.int .i64 0)).setCell ⟨w.heap.size, 5, none⟩ (.slice none 0 0)).setCell ⟨w.heap.size, 6, none⟩ (.slice none 0 0)) w.heap.size (.int .i64 0) (.int .i64 0) (.int .i64 0) (.int .i64 0) (.int .i64 0) (.slice none 0 0) (.slice none 0 0)) := put7_box _ _ _ _ _ _ _ ⟨y0, y1, y2, y3, y4, y5, y6⟩
  have FL : Hid (Below w.heap.size w (((((((w4.setCell ⟨w.heap.size, 0, none⟩ (.int .i64 0)).setCell ⟨w.heap.size, 1, none⟩ (.int .i64 0)).setCell ⟨w.heap.size, 2, none⟩ (.int .i64 0)).setCell ⟨w.heap.size, 3, none⟩ (.int .i64 0)).setCell ⟨w.heap.size, 4, none⟩ (.int .i64 0)).setCell ⟨w.heap.size, 5, none⟩ (.slice none 0 0)).setCell ⟨w.heap.size, 6, none⟩ (.slice none 0 0))) := put7_below _ _ _ _ _ _ _ BB (Nat.le_refl _)
  have L5 := L4.out
  rw [S1.out] at L5
  obtain ⟨l0, l1, l2, l3, l4, l5, l6⟩ := L5
  clear hw4 bl4 BB L4
  go_enter Try.func22, Try.ntmps22
  go_upto_region 1 with fail
  rw [← HW.out]
  go_wp2_with fail
  refine HN.out.mono ?_
  rintro x w' ⟨rfl, hw⟩; subst w'
  go_upto_region 3 with fail
  rw [← HW4.out]
  go_wp2_with fail
  generalize World.setCell _ _ _ = wz at FX FL ⊢
  obtain ⟨z0, z1, z2, z3, z4, z5, z6⟩ := FX.out
  refine bodyPost_ret (v := .tuple #[pkv ⟨0, 0, 0, 0, 0, [], []⟩ (.slice none 0 0) (.slice none 0 0), .bool false]) (by simp [results, Try.results22, go_sem, pkv, z0, z1, z2, z3, z4, z5, z6]) rfl ⟨rfl, FL.out⟩

end Go.Proofs.Ytgajajpcjbpalaa.Pkd
