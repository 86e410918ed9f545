/- At within its grid: the model. -/
import Derived.Test.YtnnljjkooookoaaAtN
namespace Go.Proofs.Ytnnljjkooookoaa.Gd
open Go.ChangeShapes Go.WideShapes Go.ChangeAt Go.RowKit
open Go.Proofs.Ytnnljjkooookoaa.Flt

set_option maxRecDepth 20000 in
set_option maxHeartbeats 4000000 in
theorem sat_in (r c s ws st : Int) (L : List Nat) (v : Value) (lat lon : Int) (w : World) (hL : Fls.Reads w v L) (hb : ∀ z ∈ L, z < 18446744073709551616) (h : okAt r c s ws st L.length lat lon = true) :
    Calls Try.prog 4 #[gv r c s ws st, v, .int .i64 lat, .int .i64 lon] w fun e w' => ∃ x, e = .returned (.float .f64 x) ∧ cn x = atIn c st (cellOf (lat - s) st r) (cellOf (lon - ws) st c) (lat - s - cellOf (lat - s) st r * st) (lon - ws - cellOf (lon - ws) st c * st) L ∧ Below w.heap.size w w' := by
  have hG := geo h
  have hR : right r c s ws st L.length = true ∧ inn lat s (s + (r - 1) * st) = true ∧ inn lon ws (ws + (c - 1) * st) = true := by unfold okAt at h; simpa only [Bool.and_eq_true] using h
  obtain ⟨w0, hw0⟩ : ∃ w0, w0 = w.alloc (Obj.cells #[.int .i64 r, .int .i64 c, .int .i64 s, .int .i64 ws, .int .i64 st] 27) := ⟨_, rfl⟩
  have HW : Hid (w0 = w.alloc (Obj.cells #[.int .i64 r, .int .i64 c, .int .i64 s, .int .i64 ws, .int .i64 st] 27)) := hw0
  have B0 : Hid (Below w.heap.size w w0) := (by show Below _ _ _; rw [hw0]; exact (Below.refl _ _).alloc (Nat.le_refl _) _)
  have S0 : Hid (w0.heap.size = w.heap.size + 1) := (by show _ = _; rw [hw0]; simp)
  have G0 : Hid (Gx w0 w.heap.size r c s ws st) := (by show Gx _ _ _ _ _ _ _; rw [hw0]; unfold Gx; simp [go_sem])
  clear hw0
  obtain ⟨bl, o, hcel, hv⟩ := reads_at hL
  have hn4 : 0 < L.length := by have := hG.n0.1; have := prod_le2 hG.r0 hG.c0; omega
  obtain ⟨hbl, cap, rfl⟩ := hv hn4
  have RI : Hid (Calls Try.prog 10 #[gv r c s ws st, .int .i64 (L.length : Int)] w0 fun e w' => e = .returned (.bool true) ∧ Below w0.heap.size w0 w') := (by have := sright_any r c s ws st L.length w0; rwa [hR.1] at this)
  have I1 : Hid (∀ w, Calls Try.prog 11 #[.int .i64 lat, .int .i64 s, .int .i64 (s + (r - 1) * st)] w fun e w' => e = .returned (.bool true) ∧ w' = w) := fun w => by have := s_in lat s (s + (r - 1) * st) w; rwa [hR.2.1] at this
  have I2 : Hid (∀ w, Calls Try.prog 11 #[.int .i64 lon, .int .i64 ws, .int .i64 (ws + (c - 1) * st)] w fun e w' => e = .returned (.bool true) ∧ w' = w) := fun w => by have := s_in lon ws (ws + (c - 1) * st) w; rwa [hR.2.2] at this
  have CL1 : Hid (∀ w, Calls Try.prog 13 #[.int .i64 s, .int .i64 st, .int .i64 r, .int .i64 lat] w fun e w' => e = .returned (.int .i64 (cellOf (lat - s) st r)) ∧ w' = w) := fun w => cell_any s st r lat w (by have := hG.s0; omega) hG.st0 hG.r0 (by have := hG.y0; omega)
  have CL2 : Hid (∀ w, Calls Try.prog 13 #[.int .i64 ws, .int .i64 st, .int .i64 c, .int .i64 lon] w fun e w' => e = .returned (.int .i64 (cellOf (lon - ws) st c)) ∧ w' = w) := fun w => cell_any ws st c lon w (by have := hG.ws0; omega) hG.st0 hG.c0 (by have := hG.x0; omega)
  obtain ⟨i, hi⟩ : ∃ i, i = cellOf (lat - s) st r := ⟨_, rfl⟩
  obtain ⟨j, hj⟩ : ∃ j, j = cellOf (lon - ws) st c := ⟨_, rfl⟩
  rw [← hi] at hG CL1 ⊢
  rw [← hj] at hG CL2 ⊢
  clear hi hj hR h
  obtain ⟨⟨r0, r1⟩, ⟨c0, c1⟩, ⟨t0, t1⟩, ⟨s0, s1⟩, ⟨e0, e1⟩, ⟨n0, n1⟩, ⟨i0, i1⟩, ⟨j0, j1⟩, ⟨y0, y1, y2⟩, ⟨x0, x1, x2⟩, ⟨p0, p1⟩, ⟨q0, q1, q2⟩, ⟨u0, u1, u2⟩⟩ := hG
  obtain ⟨k, hk⟩ : ∃ k : Nat, i * c + j = (k : Int) := ⟨(i * c + j).toNat, by omega⟩
  obtain ⟨k2, hk2⟩ : ∃ k2 : Nat, (k : Int) + c = (k2 : Int) := ⟨((k : Int) + c).toNat, by omega⟩
  rw [atIn_nat hk hk2]
  have AP : Hid (∀ z, z < L.length → L.getD z 0 < 18446744073709551616) := fun z hz => hb _ (by simp [List.getD_eq_getElem?_getD, hz])
  obtain ⟨y, hy⟩ : ∃ y, y = i * st := ⟨_, rfl⟩
  obtain ⟨x, hx⟩ : ∃ x, x = j * st := ⟨_, rfl⟩
  obtain ⟨p, hp⟩ : ∃ p, p = i * c := ⟨_, rfl⟩
  obtain ⟨q, hq⟩ : ∃ q, q = (r - 1) * st := ⟨_, rfl⟩
  obtain ⟨u, hu⟩ : ∃ u, u = (c - 1) * st := ⟨_, rfl⟩
  have w1y : wrap64 (i * st) = y := by rw [hy]; exact IntWalk.wrap64_in _ (by omega)
  have w1x : wrap64 (j * st) = x := by rw [hx]; exact IntWalk.wrap64_in _ (by omega)
  have w1p : wrap64 (i * c) = p := by rw [hp]; exact IntWalk.wrap64_in _ (by omega)
  have w1q : wrap64 ((r - 1) * st) = q := by rw [hq]; exact IntWalk.wrap64_in _ (by omega)
  have w1u : wrap64 ((c - 1) * st) = u := by rw [hu]; exact IntWalk.wrap64_in _ (by omega)
  have w2p : wrap64 ((i + 1) * c) = p + c := by rw [hp, Int.add_mul, Int.one_mul]; exact IntWalk.wrap64_in _ (by omega)
  rw [← hy] at y0 y1 y2 ⊢
  rw [← hx] at x0 x1 x2 ⊢
  rw [← hp] at p0 p1 hk
  rw [← hq] at q0 q1 q2 I1
  rw [← hu] at u0 u1 u2 I2
  have VV : Hid (V4 w bl o k k2 (L.getD k 0) (L.getD (k + 1) 0) (L.getD k2 0) (L.getD (k2 + 1) 0)) := ⟨hcel k (by omega), hcel (k + 1) (by omega), hcel k2 (by omega), hcel (k2 + 1) (by omega)⟩
  have l0 := AP.out k (by omega)
  have l1 := AP.out (k + 1) (by omega)
  have l2 := AP.out k2 (by omega)
  have l3 := AP.out (k2 + 1) (by omega)
  obtain ⟨n, hn⟩ : ∃ n, n = L.length := ⟨_, rfl⟩
  rw [← hn] at n0 n1 p1 hn4 RI ⊢
  have z1 : (0 : Int) ≤ (k : Int) := by omega
  have z2 : (k : Int) < (n : Int) := by omega
  have z3 : (k : Int) + 1 < (n : Int) := by omega
  have z4 : (0 : Int) ≤ (k : Int) + 1 := by omega
  have z5 : (0 : Int) ≤ (k2 : Int) := by omega
  have z6 : (k2 : Int) < (n : Int) := by omega
  have z7 : (k2 : Int) + 1 < (n : Int) := by omega
  have z8 : (0 : Int) ≤ (k2 : Int) + 1 := by omega
  have NR : Hid ((if st < 2 * (lat - s - y) then k2 else k) + (if st < 2 * (lon - ws - x) then 1 else 0) = if st < 2 * (lat - s - y) then (if st < 2 * (lon - ws - x) then k2 + 1 else k2) else (if st < 2 * (lon - ws - x) then k + 1 else k)) := (by show _ = _; split <;> split <;> rfl)
  obtain ⟨RS, hRS⟩ : ∃ RS, RS = if kn (L.getD k 0) && (kn (L.getD (k + 1) 0) && (kn (L.getD k2 0) && kn (L.getD (k2 + 1) 0))) then
      ble (ble (cn (L.getD k 0)) (cn (L.getD (k + 1) 0)) (opF .quo (cn (fi (lon - ws - x))) (cn (fi st)))) (ble (cn (L.getD k2 0)) (cn (L.getD (k2 + 1) 0)) (opF .quo (cn (fi (lon - ws - x))) (cn (fi st)))) (opF .quo (cn (fi (lat - s - y))) (cn (fi st)))
    else cn (L.getD ((if st < 2 * (lat - s - y) then k2 else k) + (if st < 2 * (lon - ws - x) then 1 else 0)) 0) := ⟨_, rfl⟩
  rw [← hRS]
  rw [NR.out] at hRS
  have E2 : RS = if kn (L.getD k 0) && (kn (L.getD (k + 1) 0) && (kn (L.getD k2 0) && kn (L.getD (k2 + 1) 0))) then
      ble (ble (cn (L.getD k 0)) (cn (L.getD (k + 1) 0)) (opF .quo (cn (fi (lon - ws - x))) (cn (fi st)))) (ble (cn (L.getD k2 0)) (cn (L.getD (k2 + 1) 0)) (opF .quo (cn (fi (lon - ws - x))) (cn (fi st)))) (opF .quo (cn (fi (lat - s - y))) (cn (fi st)))
    else cn (if st < 2 * (lat - s - y) then (if st < 2 * (lon - ws - x) then L.getD (k2 + 1) 0 else L.getD k2 0) else (if st < 2 * (lon - ws - x) then L.getD (k + 1) 0 else L.getD k 0)) := by
    rw [hRS]
    congr 2
    split <;> split <;> rfl
  have HE : Hid (RS = if kn (L.getD k 0) && (kn (L.getD (k + 1) 0) && (kn (L.getD k2 0) && kn (L.getD (k2 + 1) 0))) then
      ble (ble (cn (L.getD k 0)) (cn (L.getD (k + 1) 0)) (opF .quo (cn (fi (lon - ws - x))) (cn (fi st)))) (ble (cn (L.getD k2 0)) (cn (L.getD (k2 + 1) 0)) (opF .quo (cn (fi (lon - ws - x))) (cn (fi st)))) (opF .quo (cn (fi (lat - s - y))) (cn (fi st)))
    else cn (if st < 2 * (lat - s - y) then (if st < 2 * (lon - ws - x) then L.getD (k2 + 1) 0 else L.getD k2 0) else (if st < 2 * (lon - ws - x) then L.getD (k + 1) 0 else L.getD k 0))) := E2
  clear hRS E2 NR hcel hb AP hy hx hp hq hu hn n0
  generalize L.getD k 0 = v0 at *
  generalize L.getD (k + 1) 0 = v1 at *
  generalize L.getD k2 0 = v2 at *
  generalize L.getD (k2 + 1) 0 = v3 at *
  have hA : ∀ x y w, (binOp .add 25 (.float .f64 x) (.float .f64 y)).run Try.prog w = .ok (.float .f64 (opB .add x y w)) (w.drewN (opD .add x y)) := fun x y w => run_op Try.prog .add arAdd 25 x y w
  have hS : ∀ x y w, (binOp .sub 25 (.float .f64 x) (.float .f64 y)).run Try.prog w = .ok (.float .f64 (opB .sub x y w)) (w.drewN (opD .sub x y)) := fun x y w => run_op Try.prog .sub arSub 25 x y w
  have hM : ∀ x y w, (binOp .mul 25 (.float .f64 x) (.float .f64 y)).run Try.prog w = .ok (.float .f64 (opB .mul x y w)) (w.drewN (opD .mul x y)) := fun x y w => run_op Try.prog .mul arMul 25 x y w
  have hQ : ∀ x y w, (binOp .quo 25 (.float .f64 x) (.float .f64 y)).run Try.prog w = .ok (.float .f64 (opB .quo x y w)) (w.drewN (opD .quo x y)) := fun x y w => run_op Try.prog .quo arQuo 25 x y w
  have K0 : Hid (∀ w, Calls Try.prog 14 #[.float .f64 v0] w fun e w' => e = .returned (.bool (kn v0)) ∧ ∃ m, w' = w.drewN m) := fun w => sknown v0 w
  have K1 : Hid (∀ w, Calls Try.prog 14 #[.float .f64 v1] w fun e w' => e = .returned (.bool (kn v1)) ∧ ∃ m, w' = w.drewN m) := fun w => sknown v1 w
  have K2 : Hid (∀ w, Calls Try.prog 14 #[.float .f64 v2] w fun e w' => e = .returned (.bool (kn v2)) ∧ ∃ m, w' = w.drewN m) := fun w => sknown v2 w
  have K3 : Hid (∀ w, Calls Try.prog 14 #[.float .f64 v3] w fun e w' => e = .returned (.bool (kn v3)) ∧ ∃ m, w' = w.drewN m) := fun w => sknown v3 w
  generalize kn v0 = f0 at K0 HE
  generalize kn v1 = f1 at K1 HE
  generalize kn v2 = f2 at K2 HE
  generalize kn v3 = f3 at K3 HE
  go_enter Try.func4, Try.ntmps4
  go_wp2_with fail
  rw [← HW.out]
  refine RI.out.mono ?_
  rintro e w1 ⟨rfl, b1⟩
  have B1 : Hid (Below w.heap.size w w1) := B0.out.trans (b1.mono B0.out.size)
  obtain ⟨g0, g1, g2, g3, g4⟩ := G0.out.on b1 (by rw [S0.out]; exact Nat.lt_succ_self _)
  obtain ⟨a0, a1, a2, a3⟩ := VV.out
  replace a0 := (B1.out.cell (p := ⟨bl, o + k, none⟩) hbl).trans a0
  replace a1 := (B1.out.cell (p := ⟨bl, o + (k + 1), none⟩) hbl).trans a1
  replace a2 := (B1.out.cell (p := ⟨bl, o + k2, none⟩) hbl).trans a2
  replace a3 := (B1.out.cell (p := ⟨bl, o + (k2 + 1), none⟩) hbl).trans a3
  clear b1 HW VV
  go_wp2_with fail
  refine (I1.out _).mono ?_
  rintro e w2 ⟨rfl, hw⟩
  have hw' := hw.symm
  subst hw'
  go_wp2_with fail
  refine (I2.out _).mono ?_
  rintro e w3 ⟨rfl, hw⟩
  have hw2 := hw.symm
  subst hw2
  go_wp2_with fail
  refine (CL1.out _).mono ?_
  rintro e w4 ⟨rfl, hw⟩
  have hw3 := hw.symm
  subst hw3
  go_wp2_with fail
  refine (CL2.out _).mono ?_
  rintro e w5 ⟨rfl, hw⟩
  have hw4 := hw.symm
  subst hw4
  clear I1 I2 CL1 CL2 RI w1q w1u
  go_wp2_with fail
  clear w1y w1x w1p w2p B0 S0 G0 hL hv
  refine (K0.out _).mono ?_
  rintro e x0 ⟨rfl, m0, hw⟩
  have ng0 : x0.cell? ⟨w.heap.size, 0, none⟩ = some (.int .i64 r) := by rw [hw]; exact g0
  have ng1 : x0.cell? ⟨w.heap.size, 1, none⟩ = some (.int .i64 c) := by rw [hw]; exact g1
  have ng2 : x0.cell? ⟨w.heap.size, 2, none⟩ = some (.int .i64 s) := by rw [hw]; exact g2
  have ng3 : x0.cell? ⟨w.heap.size, 3, none⟩ = some (.int .i64 ws) := by rw [hw]; exact g3
  have ng4 : x0.cell? ⟨w.heap.size, 4, none⟩ = some (.int .i64 st) := by rw [hw]; exact g4
  have na0 : x0.cell? ⟨bl, o + k, none⟩ = some (.float .f64 v0) := by rw [hw]; exact a0
  have na1 : x0.cell? ⟨bl, o + (k + 1), none⟩ = some (.float .f64 v1) := by rw [hw]; exact a1
  have na2 : x0.cell? ⟨bl, o + k2, none⟩ = some (.float .f64 v2) := by rw [hw]; exact a2
  have na3 : x0.cell? ⟨bl, o + (k2 + 1), none⟩ = some (.float .f64 v3) := by rw [hw]; exact a3
  have Bx0 : Hid (Below w.heap.size w x0) := (by show Below _ _ _; rw [hw]; exact below_drewN B1.out _)
  clear hw g0 g1 g2 g3 g4 a0 a1 a2 a3
  have g0 := ng0
  have g1 := ng1
  have g2 := ng2
  have g3 := ng3
  have g4 := ng4
  have a0 := na0
  have a1 := na1
  have a2 := na2
  have a3 := na3
  clear ng0 ng1 ng2 ng3 ng4 na0 na1 na2 na3
  cases f0
  · have HT : Hid (RS = cn (if st < 2 * (lat - s - y) then (if st < 2 * (lon - ws - x) then v3 else v2) else (if st < 2 * (lon - ws - x) then v1 else v0))) := (by show _ = _; rw [HE.out]; rfl)
    clear HE
    by_cases d1 : st < 2 * (lat - s - y)
    · by_cases d2 : st < 2 * (lon - ws - x)
      · have HU : Hid (RS = cn v3) := (by show _ = _; rw [HT.out, if_pos d1, if_pos d2])
        go_wp2_with fail
        go_ret
        exact ⟨v3, rfl, HU.out.symm, Bx0.out⟩
      · have HU : Hid (RS = cn v2) := (by show _ = _; rw [HT.out, if_pos d1, if_neg d2])
        go_wp2_with fail
        go_ret
        exact ⟨v2, rfl, HU.out.symm, Bx0.out⟩
    · by_cases d2 : st < 2 * (lon - ws - x)
      · have HU : Hid (RS = cn v1) := (by show _ = _; rw [HT.out, if_neg d1, if_pos d2])
        go_wp2_with fail
        go_ret
        exact ⟨v1, rfl, HU.out.symm, Bx0.out⟩
      · have HU : Hid (RS = cn v0) := (by show _ = _; rw [HT.out, if_neg d1, if_neg d2])
        go_wp2_with fail
        go_ret
        exact ⟨v0, rfl, HU.out.symm, Bx0.out⟩
  · go_wp2_with fail
    refine (K1.out _).mono ?_
    rintro e x1 ⟨rfl, m1, hw⟩
    have ng0 : x1.cell? ⟨w.heap.size, 0, none⟩ = some (.int .i64 r) := by rw [hw]; exact g0
    have ng1 : x1.cell? ⟨w.heap.size, 1, none⟩ = some (.int .i64 c) := by rw [hw]; exact g1
    have ng2 : x1.cell? ⟨w.heap.size, 2, none⟩ = some (.int .i64 s) := by rw [hw]; exact g2
    have ng3 : x1.cell? ⟨w.heap.size, 3, none⟩ = some (.int .i64 ws) := by rw [hw]; exact g3
    have ng4 : x1.cell? ⟨w.heap.size, 4, none⟩ = some (.int .i64 st) := by rw [hw]; exact g4
    have na0 : x1.cell? ⟨bl, o + k, none⟩ = some (.float .f64 v0) := by rw [hw]; exact a0
    have na1 : x1.cell? ⟨bl, o + (k + 1), none⟩ = some (.float .f64 v1) := by rw [hw]; exact a1
    have na2 : x1.cell? ⟨bl, o + k2, none⟩ = some (.float .f64 v2) := by rw [hw]; exact a2
    have na3 : x1.cell? ⟨bl, o + (k2 + 1), none⟩ = some (.float .f64 v3) := by rw [hw]; exact a3
    have Bx1 : Hid (Below w.heap.size w x1) := (by show Below _ _ _; rw [hw]; exact below_drewN Bx0.out _)
    clear hw g0 g1 g2 g3 g4 a0 a1 a2 a3
    have g0 := ng0
    have g1 := ng1
    have g2 := ng2
    have g3 := ng3
    have g4 := ng4
    have a0 := na0
    have a1 := na1
    have a2 := na2
    have a3 := na3
    clear ng0 ng1 ng2 ng3 ng4 na0 na1 na2 na3
    cases f1
    · have HT : Hid (RS = cn (if st < 2 * (lat - s - y) then (if st < 2 * (lon - ws - x) then v3 else v2) else (if st < 2 * (lon - ws - x) then v1 else v0))) := (by show _ = _; rw [HE.out]; rfl)
      clear HE
      by_cases d1 : st < 2 * (lat - s - y)
      · by_cases d2 : st < 2 * (lon - ws - x)
        · have HU : Hid (RS = cn v3) := (by show _ = _; rw [HT.out, if_pos d1, if_pos d2])
          go_wp2_with fail
          go_ret
          exact ⟨v3, rfl, HU.out.symm, Bx1.out⟩
        · have HU : Hid (RS = cn v2) := (by show _ = _; rw [HT.out, if_pos d1, if_neg d2])
          go_wp2_with fail
          go_ret
          exact ⟨v2, rfl, HU.out.symm, Bx1.out⟩
      · by_cases d2 : st < 2 * (lon - ws - x)
        · have HU : Hid (RS = cn v1) := (by show _ = _; rw [HT.out, if_neg d1, if_pos d2])
          go_wp2_with fail
          go_ret
          exact ⟨v1, rfl, HU.out.symm, Bx1.out⟩
        · have HU : Hid (RS = cn v0) := (by show _ = _; rw [HT.out, if_neg d1, if_neg d2])
          go_wp2_with fail
          go_ret
          exact ⟨v0, rfl, HU.out.symm, Bx1.out⟩
    · go_wp2_with fail
      refine (K2.out _).mono ?_
      rintro e x2 ⟨rfl, m2, hw⟩
      have ng0 : x2.cell? ⟨w.heap.size, 0, none⟩ = some (.int .i64 r) := by rw [hw]; exact g0
      have ng1 : x2.cell? ⟨w.heap.size, 1, none⟩ = some (.int .i64 c) := by rw [hw]; exact g1
      have ng2 : x2.cell? ⟨w.heap.size, 2, none⟩ = some (.int .i64 s) := by rw [hw]; exact g2
      have ng3 : x2.cell? ⟨w.heap.size, 3, none⟩ = some (.int .i64 ws) := by rw [hw]; exact g3
      have ng4 : x2.cell? ⟨w.heap.size, 4, none⟩ = some (.int .i64 st) := by rw [hw]; exact g4
      have na0 : x2.cell? ⟨bl, o + k, none⟩ = some (.float .f64 v0) := by rw [hw]; exact a0
      have na1 : x2.cell? ⟨bl, o + (k + 1), none⟩ = some (.float .f64 v1) := by rw [hw]; exact a1
      have na2 : x2.cell? ⟨bl, o + k2, none⟩ = some (.float .f64 v2) := by rw [hw]; exact a2
      have na3 : x2.cell? ⟨bl, o + (k2 + 1), none⟩ = some (.float .f64 v3) := by rw [hw]; exact a3
      have Bx2 : Hid (Below w.heap.size w x2) := (by show Below _ _ _; rw [hw]; exact below_drewN Bx1.out _)
      clear hw g0 g1 g2 g3 g4 a0 a1 a2 a3
      have g0 := ng0
      have g1 := ng1
      have g2 := ng2
      have g3 := ng3
      have g4 := ng4
      have a0 := na0
      have a1 := na1
      have a2 := na2
      have a3 := na3
      clear ng0 ng1 ng2 ng3 ng4 na0 na1 na2 na3
      cases f2
      · have HT : Hid (RS = cn (if st < 2 * (lat - s - y) then (if st < 2 * (lon - ws - x) then v3 else v2) else (if st < 2 * (lon - ws - x) then v1 else v0))) := (by show _ = _; rw [HE.out]; rfl)
        clear HE
        by_cases d1 : st < 2 * (lat - s - y)
        · by_cases d2 : st < 2 * (lon - ws - x)
          · have HU : Hid (RS = cn v3) := (by show _ = _; rw [HT.out, if_pos d1, if_pos d2])
            go_wp2_with fail
            go_ret
            exact ⟨v3, rfl, HU.out.symm, Bx2.out⟩
          · have HU : Hid (RS = cn v2) := (by show _ = _; rw [HT.out, if_pos d1, if_neg d2])
            go_wp2_with fail
            go_ret
            exact ⟨v2, rfl, HU.out.symm, Bx2.out⟩
        · by_cases d2 : st < 2 * (lon - ws - x)
          · have HU : Hid (RS = cn v1) := (by show _ = _; rw [HT.out, if_neg d1, if_pos d2])
            go_wp2_with fail
            go_ret
            exact ⟨v1, rfl, HU.out.symm, Bx2.out⟩
          · have HU : Hid (RS = cn v0) := (by show _ = _; rw [HT.out, if_neg d1, if_neg d2])
            go_wp2_with fail
            go_ret
            exact ⟨v0, rfl, HU.out.symm, Bx2.out⟩
      · go_wp2_with fail
        refine (K3.out _).mono ?_
        rintro e x3 ⟨rfl, m3, hw⟩
        have ng0 : x3.cell? ⟨w.heap.size, 0, none⟩ = some (.int .i64 r) := by rw [hw]; exact g0
        have ng1 : x3.cell? ⟨w.heap.size, 1, none⟩ = some (.int .i64 c) := by rw [hw]; exact g1
        have ng2 : x3.cell? ⟨w.heap.size, 2, none⟩ = some (.int .i64 s) := by rw [hw]; exact g2
        have ng3 : x3.cell? ⟨w.heap.size, 3, none⟩ = some (.int .i64 ws) := by rw [hw]; exact g3
        have ng4 : x3.cell? ⟨w.heap.size, 4, none⟩ = some (.int .i64 st) := by rw [hw]; exact g4
        have na0 : x3.cell? ⟨bl, o + k, none⟩ = some (.float .f64 v0) := by rw [hw]; exact a0
        have na1 : x3.cell? ⟨bl, o + (k + 1), none⟩ = some (.float .f64 v1) := by rw [hw]; exact a1
        have na2 : x3.cell? ⟨bl, o + k2, none⟩ = some (.float .f64 v2) := by rw [hw]; exact a2
        have na3 : x3.cell? ⟨bl, o + (k2 + 1), none⟩ = some (.float .f64 v3) := by rw [hw]; exact a3
        have Bx3 : Hid (Below w.heap.size w x3) := (by show Below _ _ _; rw [hw]; exact below_drewN Bx2.out _)
        clear hw g0 g1 g2 g3 g4 a0 a1 a2 a3
        have g0 := ng0
        have g1 := ng1
        have g2 := ng2
        have g3 := ng3
        have g4 := ng4
        have a0 := na0
        have a1 := na1
        have a2 := na2
        have a3 := na3
        clear ng0 ng1 ng2 ng3 ng4 na0 na1 na2 na3
        cases f3
        · have HT : Hid (RS = cn (if st < 2 * (lat - s - y) then (if st < 2 * (lon - ws - x) then v3 else v2) else (if st < 2 * (lon - ws - x) then v1 else v0))) := (by show _ = _; rw [HE.out]; rfl)
          clear HE
          by_cases d1 : st < 2 * (lat - s - y)
          · by_cases d2 : st < 2 * (lon - ws - x)
            · have HU : Hid (RS = cn v3) := (by show _ = _; rw [HT.out, if_pos d1, if_pos d2])
              go_wp2_with fail
              go_ret
              exact ⟨v3, rfl, HU.out.symm, Bx3.out⟩
            · have HU : Hid (RS = cn v2) := (by show _ = _; rw [HT.out, if_pos d1, if_neg d2])
              go_wp2_with fail
              go_ret
              exact ⟨v2, rfl, HU.out.symm, Bx3.out⟩
          · by_cases d2 : st < 2 * (lon - ws - x)
            · have HU : Hid (RS = cn v1) := (by show _ = _; rw [HT.out, if_neg d1, if_pos d2])
              go_wp2_with fail
              go_ret
              exact ⟨v1, rfl, HU.out.symm, Bx3.out⟩
            · have HU : Hid (RS = cn v0) := (by show _ = _; rw [HT.out, if_neg d1, if_neg d2])
              go_wp2_with fail
              go_ret
              exact ⟨v0, rfl, HU.out.symm, Bx3.out⟩
        · have HT : Hid (RS = ble (ble (cn v0) (cn v1) (opF .quo (cn (fi (lon - ws - x))) (cn (fi st)))) (ble (cn v2) (cn v3) (opF .quo (cn (fi (lon - ws - x))) (cn (fi st)))) (opF .quo (cn (fi (lat - s - y))) (cn (fi st)))) := (by show _ = _; rw [HE.out]; rfl)
          clear HE
          go_wp2_with fail
          go_ret
          exact ⟨_, rfl, by rw [HT.out]; simp only [cn_op]; rfl, below_drewN Bx3.out _⟩
end Go.Proofs.Ytnnljjkooookoaa.Gd
