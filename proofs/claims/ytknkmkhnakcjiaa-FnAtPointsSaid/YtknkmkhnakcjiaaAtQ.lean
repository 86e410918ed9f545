/- At within its grid: the program. -/
import Derived.Test.YtknkmkhnakcjiaaAtN
namespace Go.Proofs.Ytknkmkhnakcjiaa.Gd
open Go.ChangeShapes Go.WideShapes Go.ChangeAt Go.RowKit
open Go.Proofs.Ytknkmkhnakcjiaa.Flt

set_option maxRecDepth 20000 in
set_option maxHeartbeats 4000000 in
theorem iat_in (r c s ws st : Int) (L : List Nat) (v : Value) (lat lon : Int) (w : World) (hL : Fls.Reads w v L) (hb : ∀ z ∈ L, z < 18446744073709551616) (h : okAt r c s ws st L.length lat lon = true) :
    Calls Try.prog 7 #[gv r c s ws st, v, .int .i64 lat, .int .i64 lon] w fun e w' => ∃ x, e = .returned (.float .f64 x) ∧ cn x = atIn c st (cellOf (lat - s) st r) (cellOf (lon - ws) st c) (lat - s - cellOf (lat - s) st r * st) (lon - ws - cellOf (lon - ws) st c * st) L ∧ Below w.heap.size w w' := by
  have hG := geo h
  have hR : right r c s ws st L.length = true ∧ inn lat s (s + (r - 1) * st) = true ∧ inn lon ws (ws + (c - 1) * st) = true := by unfold okAt at h; simpa only [Bool.and_eq_true] using h
  obtain ⟨w0, hw0⟩ : ∃ w0, w0 = w.alloc (Obj.cells #[.int .i64 r, .int .i64 c, .int .i64 s, .int .i64 ws, .int .i64 st] 25) := ⟨_, rfl⟩
  have HW : Hid (w0 = w.alloc (Obj.cells #[.int .i64 r, .int .i64 c, .int .i64 s, .int .i64 ws, .int .i64 st] 25)) := hw0
  have B0 : Hid (Below w.heap.size w w0) := (by show Below _ _ _; rw [hw0]; exact (Below.refl _ _).alloc (Nat.le_refl _) _)
  have S0 : Hid (w0.heap.size = w.heap.size + 1) := (by show _ = _; rw [hw0]; simp)
  have G0 : Hid (Gx w0 w.heap.size r c s ws st) := (by show Gx _ _ _ _ _ _ _; rw [hw0]; unfold Gx; simp [go_sem])
  clear hw0
  obtain ⟨bl, o, hcel, hv⟩ := reads_at hL
  have hn4 : 0 < L.length := by have := hG.n0.1; have := prod_le2 hG.r0 hG.c0; omega
  obtain ⟨hbl, cap, rfl⟩ := hv hn4
  have RI : Hid (Calls Try.prog 13 #[gv r c s ws st, .slice (some ⟨bl, o, none⟩) L.length cap] w0 fun e w' => e = .returned (.bool true) ∧ Below w0.heap.size w0 w') := (by have := ifield_any r c s ws st (some ⟨bl, o, none⟩) L.length cap w0; rwa [hR.1] at this)
  have I1 : Hid (∀ w, Calls Try.prog 14 #[.int .i64 lat, .int .i64 s, .int .i64 (s + (r - 1) * st)] w fun e w' => e = .returned (.bool true) ∧ w' = w) := fun w => by have := i_in lat s (s + (r - 1) * st) w; rwa [hR.2.1] at this
  have I2 : Hid (∀ w, Calls Try.prog 14 #[.int .i64 lon, .int .i64 ws, .int .i64 (ws + (c - 1) * st)] w fun e w' => e = .returned (.bool true) ∧ w' = w) := fun w => by have := i_in lon ws (ws + (c - 1) * st) w; rwa [hR.2.2] at this
  have CL1 : Hid (∀ w, Calls Try.prog 16 #[.int .i64 (lat - s), .int .i64 st, .int .i64 r] w fun e w' => e = .returned (.tuple #[.int .i64 (cellOf (lat - s) st r), .int .i64 (lat - s - cellOf (lat - s) st r * st)]) ∧ w' = w) := fun w => line_any (lat - s) st r w hG.st0 hG.r0 (by have := hG.y0; omega) (by have := hG.q1; omega)
  have CL2 : Hid (∀ w, Calls Try.prog 16 #[.int .i64 (lon - ws), .int .i64 st, .int .i64 c] w fun e w' => e = .returned (.tuple #[.int .i64 (cellOf (lon - ws) st c), .int .i64 (lon - ws - cellOf (lon - ws) st c * st)]) ∧ w' = w) := fun w => line_any (lon - ws) st c w hG.st0 hG.c0 (by have := hG.x0; omega) (by have := hG.q2; omega)
  obtain ⟨i, hi⟩ : ∃ i, i = cellOf (lat - s) st r := ⟨_, rfl⟩
  obtain ⟨j, hj⟩ : ∃ j, j = cellOf (lon - ws) st c := ⟨_, rfl⟩
  rw [← hi] at hG CL1 ⊢
  rw [← hj] at hG CL2 ⊢
  clear hi hj hR h
  obtain ⟨⟨r0, r1⟩, ⟨c0, c1⟩, ⟨t0, t1⟩, ⟨s0, s1⟩, ⟨e0, e1⟩, ⟨n0, n1⟩, ⟨i0, i1⟩, ⟨j0, j1⟩, ⟨y0, y1, y2⟩, ⟨x0, x1, x2⟩, ⟨p0, p1⟩, ⟨q0, q1, q2⟩, ⟨u0, u1, u2⟩⟩ := hG
  obtain ⟨k, hk⟩ : ∃ k : Nat, i * c + j = (k : Int) := ⟨(i * c + j).toNat, by omega⟩
  obtain ⟨k2, hk2⟩ : ∃ k2 : Nat, (k : Int) + c = (k2 : Int) := ⟨((k : Int) + c).toNat, by omega⟩
  rw [atIn_nat hk hk2]
  have AP : Hid (∀ z, z < L.length → L.getD z 0 < 18446744073709551616) := fun z hz => hb _ (by simp [List.getD_eq_getElem?_getD, hz])
  obtain ⟨y, hy⟩ : ∃ y, y = i * st := ⟨_, rfl⟩
  obtain ⟨x, hx⟩ : ∃ x, x = j * st := ⟨_, rfl⟩
  obtain ⟨p, hp⟩ : ∃ p, p = i * c := ⟨_, rfl⟩
  obtain ⟨q, hq⟩ : ∃ q, q = (r - 1) * st := ⟨_, rfl⟩
  obtain ⟨u, hu⟩ : ∃ u, u = (c - 1) * st := ⟨_, rfl⟩
  have w1y : wrap64 (i * st) = y := by rw [hy]; exact IntWalk.wrap64_in _ (by omega)
  have w1x : wrap64 (j * st) = x := by rw [hx]; exact IntWalk.wrap64_in _ (by omega)
  have w1p : wrap64 (i * c) = p := by rw [hp]; exact IntWalk.wrap64_in _ (by omega)
  have w1q : wrap64 ((r - 1) * st) = q := by rw [hq]; exact IntWalk.wrap64_in _ (by omega)
  have w1u : wrap64 ((c - 1) * st) = u := by rw [hu]; exact IntWalk.wrap64_in _ (by omega)
  have w2p : wrap64 ((i + 1) * c) = p + c := by rw [hp, Int.add_mul, Int.one_mul]; exact IntWalk.wrap64_in _ (by omega)
  rw [← hy] at y0 y1 y2 CL1 ⊢
  rw [← hx] at x0 x1 x2 CL2 ⊢
  rw [← hp] at p0 p1 hk
  rw [← hq] at q0 q1 q2 I1
  rw [← hu] at u0 u1 u2 I2
  have VV : Hid (V4 w bl o k k2 (L.getD k 0) (L.getD (k + 1) 0) (L.getD k2 0) (L.getD (k2 + 1) 0)) := ⟨hcel k (by omega), hcel (k + 1) (by omega), hcel k2 (by omega), hcel (k2 + 1) (by omega)⟩
  have l0 := AP.out k (by omega)
  have l1 := AP.out (k + 1) (by omega)
  have l2 := AP.out k2 (by omega)
  have l3 := AP.out (k2 + 1) (by omega)
  obtain ⟨n, hn⟩ : ∃ n, n = L.length := ⟨_, rfl⟩
  rw [← hn] at n0 n1 p1 hn4 RI ⊢
  have z1 : (0 : Int) ≤ (k : Int) := by omega
  have z2 : (k : Int) < (n : Int) := by omega
  have z3 : (k : Int) + 1 < (n : Int) := by omega
  have z4 : (0 : Int) ≤ (k : Int) + 1 := by omega
  have z5 : (0 : Int) ≤ (k2 : Int) := by omega
  have z6 : (k2 : Int) < (n : Int) := by omega
  have z7 : (k2 : Int) + 1 < (n : Int) := by omega
  have z8 : (0 : Int) ≤ (k2 : Int) + 1 := by omega
  have NR : Hid ((if st < 2 * (lat - s - y) then k2 else k) + (if st < 2 * (lon - ws - x) then 1 else 0) = if st < 2 * (lat - s - y) then (if st < 2 * (lon - ws - x) then k2 + 1 else k2) else (if st < 2 * (lon - ws - x) then k + 1 else k)) := (by show _ = _; split <;> split <;> rfl)
  obtain ⟨RS, hRS⟩ : ∃ RS, RS = if kn (L.getD k 0) && (kn (L.getD (k + 1) 0) && (kn (L.getD k2 0) && kn (L.getD (k2 + 1) 0))) then
      ble (ble (cn (L.getD k 0)) (cn (L.getD (k + 1) 0)) (opF .quo (cn (fi (lon - ws - x))) (cn (fi st)))) (ble (cn (L.getD k2 0)) (cn (L.getD (k2 + 1) 0)) (opF .quo (cn (fi (lon - ws - x))) (cn (fi st)))) (opF .quo (cn (fi (lat - s - y))) (cn (fi st)))
    else cn (L.getD ((if st < 2 * (lat - s - y) then k2 else k) + (if st < 2 * (lon - ws - x) then 1 else 0)) 0) := ⟨_, rfl⟩
  rw [← hRS]
  rw [NR.out] at hRS
  have E2 : RS = if kn (L.getD k 0) && (kn (L.getD (k + 1) 0) && (kn (L.getD k2 0) && kn (L.getD (k2 + 1) 0))) then
      ble (ble (cn (L.getD k 0)) (cn (L.getD (k + 1) 0)) (opF .quo (cn (fi (lon - ws - x))) (cn (fi st)))) (ble (cn (L.getD k2 0)) (cn (L.getD (k2 + 1) 0)) (opF .quo (cn (fi (lon - ws - x))) (cn (fi st)))) (opF .quo (cn (fi (lat - s - y))) (cn (fi st)))
    else cn (if st < 2 * (lat - s - y) then (if st < 2 * (lon - ws - x) then L.getD (k2 + 1) 0 else L.getD k2 0) else (if st < 2 * (lon - ws - x) then L.getD (k + 1) 0 else L.getD k 0)) := by
    rw [hRS]
    congr 2
    split <;> split <;> rfl
  have HE : Hid (RS = if kn (L.getD k 0) && (kn (L.getD (k + 1) 0) && (kn (L.getD k2 0) && kn (L.getD (k2 + 1) 0))) then
      ble (ble (cn (L.getD k 0)) (cn (L.getD (k + 1) 0)) (opF .quo (cn (fi (lon - ws - x))) (cn (fi st)))) (ble (cn (L.getD k2 0)) (cn (L.getD (k2 + 1) 0)) (opF .quo (cn (fi (lon - ws - x))) (cn (fi st)))) (opF .quo (cn (fi (lat - s - y))) (cn (fi st)))
    else cn (if st < 2 * (lat - s - y) then (if st < 2 * (lon - ws - x) then L.getD (k2 + 1) 0 else L.getD k2 0) else (if st < 2 * (lon - ws - x) then L.getD (k + 1) 0 else L.getD k 0))) := E2
  clear hRS E2 NR hcel hb AP hy hx hp hq hu hn n0
  generalize L.getD k 0 = v0 at *
  generalize L.getD (k + 1) 0 = v1 at *
  generalize L.getD k2 0 = v2 at *
  generalize L.getD (k2 + 1) 0 = v3 at *
  have hA : ∀ x y w, (binOp .add 30 (.float .f64 x) (.float .f64 y)).run Try.prog w = .ok (.float .f64 (opB .add x y w)) (w.drewN (opD .add x y)) := fun x y w => run_op Try.prog .add arAdd 25 x y w
  have hS : ∀ x y w, (binOp .sub 30 (.float .f64 x) (.float .f64 y)).run Try.prog w = .ok (.float .f64 (opB .sub x y w)) (w.drewN (opD .sub x y)) := fun x y w => run_op Try.prog .sub arSub 25 x y w
  have hM : ∀ x y w, (binOp .mul 30 (.float .f64 x) (.float .f64 y)).run Try.prog w = .ok (.float .f64 (opB .mul x y w)) (w.drewN (opD .mul x y)) := fun x y w => run_op Try.prog .mul arMul 25 x y w
  have hQ : ∀ x y w, (binOp .quo 30 (.float .f64 x) (.float .f64 y)).run Try.prog w = .ok (.float .f64 (opB .quo x y w)) (w.drewN (opD .quo x y)) := fun x y w => run_op Try.prog .quo arQuo 25 x y w
  have K0 : Hid (∀ w, Calls Try.prog 17 #[.float .f64 v0] w fun e w' => e = .returned (.bool (kn v0)) ∧ w' = w) := fun w => iknown v0 w l0
  have K1 : Hid (∀ w, Calls Try.prog 17 #[.float .f64 v1] w fun e w' => e = .returned (.bool (kn v1)) ∧ w' = w) := fun w => iknown v1 w l1
  have K2 : Hid (∀ w, Calls Try.prog 17 #[.float .f64 v2] w fun e w' => e = .returned (.bool (kn v2)) ∧ w' = w) := fun w => iknown v2 w l2
  have K3 : Hid (∀ w, Calls Try.prog 17 #[.float .f64 v3] w fun e w' => e = .returned (.bool (kn v3)) ∧ w' = w) := fun w => iknown v3 w l3
  generalize kn v0 = f0 at K0 HE
  generalize kn v1 = f1 at K1 HE
  generalize kn v2 = f2 at K2 HE
  generalize kn v3 = f3 at K3 HE
  have N1 : Hid (∀ w, Calls Try.prog 19 #[.int .i64 i, .int .i64 (lat - s - y), .int .i64 st] w fun e w' => e = .returned (.int .i64 (i + if st < 2 * (lat - s - y) then 1 else 0)) ∧ w' = w) := fun w => near_any i (lat - s - y) st w ⟨i0, by omega⟩ ⟨by omega, by omega⟩ ⟨t0, t1⟩
  have N2 : Hid (∀ w, Calls Try.prog 19 #[.int .i64 j, .int .i64 (lon - ws - x), .int .i64 st] w fun e w' => e = .returned (.int .i64 (j + if st < 2 * (lon - ws - x) then 1 else 0)) ∧ w' = w) := fun w => near_any j (lon - ws - x) st w ⟨j0, by omega⟩ ⟨by omega, by omega⟩ ⟨t0, t1⟩
  have hk3 : p + c + j = (k2 : Int) := by omega
  have hk4 : p + (j + 1) = (k : Int) + 1 := by omega
  have hk5 : p + c + (j + 1) = (k2 : Int) + 1 := by omega
  go_enter Try.func7, Try.ntmps7
  go_wp2_with fail
  rw [← HW.out]
  refine RI.out.mono ?_
  rintro e w1 ⟨rfl, b1⟩
  have B1 : Hid (Below w.heap.size w w1) := B0.out.trans (b1.mono B0.out.size)
  obtain ⟨g0, g1, g2, g3, g4⟩ := G0.out.on b1 (by rw [S0.out]; exact Nat.lt_succ_self _)
  obtain ⟨a0, a1, a2, a3⟩ := VV.out
  replace a0 := (B1.out.cell (p := ⟨bl, o + k, none⟩) hbl).trans a0
  replace a1 := (B1.out.cell (p := ⟨bl, o + (k + 1), none⟩) hbl).trans a1
  replace a2 := (B1.out.cell (p := ⟨bl, o + k2, none⟩) hbl).trans a2
  replace a3 := (B1.out.cell (p := ⟨bl, o + (k2 + 1), none⟩) hbl).trans a3
  clear b1 HW VV
  go_wp2_with fail
  refine (I1.out _).mono ?_
  rintro e w2 ⟨rfl, hw⟩
  have hw' := hw.symm
  subst hw'
  go_wp2_with fail
  refine (I2.out _).mono ?_
  rintro e w3 ⟨rfl, hw⟩
  have hw2 := hw.symm
  subst hw2
  go_wp2_with fail
  refine (CL1.out _).mono ?_
  rintro e w4 ⟨rfl, hw⟩
  have hw3 := hw.symm
  subst hw3
  go_wp2_with fail
  refine (CL2.out _).mono ?_
  rintro e w5 ⟨rfl, hw⟩
  have hw4 := hw.symm
  subst hw4
  clear I1 I2 CL1 CL2 RI w1q w1u
  go_wp2_with fail
  go_quiet (fail)
  obtain ⟨y1w, hw⟩ : ∃ y1w, y1w = w1.drewN nq := ⟨_, rfl⟩
  rw [← hw]
  have ng0 : y1w.cell? ⟨w.heap.size, 0, none⟩ = some (.int .i64 r) := by rw [hw]; exact g0
  have ng1 : y1w.cell? ⟨w.heap.size, 1, none⟩ = some (.int .i64 c) := by rw [hw]; exact g1
  have ng2 : y1w.cell? ⟨w.heap.size, 2, none⟩ = some (.int .i64 s) := by rw [hw]; exact g2
  have ng3 : y1w.cell? ⟨w.heap.size, 3, none⟩ = some (.int .i64 ws) := by rw [hw]; exact g3
  have ng4 : y1w.cell? ⟨w.heap.size, 4, none⟩ = some (.int .i64 st) := by rw [hw]; exact g4
  have na0 : y1w.cell? ⟨bl, o + k, none⟩ = some (.float .f64 v0) := by rw [hw]; exact a0
  have na1 : y1w.cell? ⟨bl, o + (k + 1), none⟩ = some (.float .f64 v1) := by rw [hw]; exact a1
  have na2 : y1w.cell? ⟨bl, o + k2, none⟩ = some (.float .f64 v2) := by rw [hw]; exact a2
  have na3 : y1w.cell? ⟨bl, o + (k2 + 1), none⟩ = some (.float .f64 v3) := by rw [hw]; exact a3
  have By1w : Hid (Below w.heap.size w y1w) := (by show Below _ _ _; rw [hw]; exact below_drewN B1.out _)
  clear hw g0 g1 g2 g3 g4 a0 a1 a2 a3
  have g0 := ng0
  have g1 := ng1
  have g2 := ng2
  have g3 := ng3
  have g4 := ng4
  have a0 := na0
  have a1 := na1
  have a2 := na2
  have a3 := na3
  clear ng0 ng1 ng2 ng3 ng4 na0 na1 na2 na3
  go_wp2_with fail
  go_quiet (fail)
  obtain ⟨y2w, hw⟩ : ∃ y2w, y2w = y1w.drewN nq := ⟨_, rfl⟩
  rw [← hw]
  have ng0 : y2w.cell? ⟨w.heap.size, 0, none⟩ = some (.int .i64 r) := by rw [hw]; exact g0
  have ng1 : y2w.cell? ⟨w.heap.size, 1, none⟩ = some (.int .i64 c) := by rw [hw]; exact g1
  have ng2 : y2w.cell? ⟨w.heap.size, 2, none⟩ = some (.int .i64 s) := by rw [hw]; exact g2
  have ng3 : y2w.cell? ⟨w.heap.size, 3, none⟩ = some (.int .i64 ws) := by rw [hw]; exact g3
  have ng4 : y2w.cell? ⟨w.heap.size, 4, none⟩ = some (.int .i64 st) := by rw [hw]; exact g4
  have na0 : y2w.cell? ⟨bl, o + k, none⟩ = some (.float .f64 v0) := by rw [hw]; exact a0
  have na1 : y2w.cell? ⟨bl, o + (k + 1), none⟩ = some (.float .f64 v1) := by rw [hw]; exact a1
  have na2 : y2w.cell? ⟨bl, o + k2, none⟩ = some (.float .f64 v2) := by rw [hw]; exact a2
  have na3 : y2w.cell? ⟨bl, o + (k2 + 1), none⟩ = some (.float .f64 v3) := by rw [hw]; exact a3
  have By2w : Hid (Below w.heap.size w y2w) := (by show Below _ _ _; rw [hw]; exact below_drewN By1w.out _)
  clear hw g0 g1 g2 g3 g4 a0 a1 a2 a3
  have g0 := ng0
  have g1 := ng1
  have g2 := ng2
  have g3 := ng3
  have g4 := ng4
  have a0 := na0
  have a1 := na1
  have a2 := na2
  have a3 := na3
  clear ng0 ng1 ng2 ng3 ng4 na0 na1 na2 na3
  go_wp2_with fail
  clear w1y w1x B0 S0 G0 hL hv
  refine (K0.out _).mono ?_
  rintro e x0 ⟨rfl, hw⟩
  have hw0 := hw.symm
  subst hw0
  cases f0
  · have HT : Hid (RS = cn (if st < 2 * (lat - s - y) then (if st < 2 * (lon - ws - x) then v3 else v2) else (if st < 2 * (lon - ws - x) then v1 else v0))) := (by show _ = _; rw [HE.out]; rfl)
    clear HE
    by_cases d1 : st < 2 * (lat - s - y)
    · by_cases d2 : st < 2 * (lon - ws - x)
      · have HU : Hid (RS = cn v3) := (by show _ = _; rw [HT.out, if_pos d1, if_pos d2])
        have M1 : Hid (∀ w, Calls Try.prog 19 #[.int .i64 i, .int .i64 (lat - s - y), .int .i64 st] w fun e w' => e = .returned (.int .i64 (i + 1)) ∧ w' = w) := fun w => by have := N1.out w; rw [if_pos d1] at this; exact this
        have M2 : Hid (∀ w, Calls Try.prog 19 #[.int .i64 j, .int .i64 (lon - ws - x), .int .i64 st] w fun e w' => e = .returned (.int .i64 (j + 1)) ∧ w' = w) := fun w => by have := N2.out w; rw [if_pos d2] at this; exact this
        clear N1 N2 d1 d2 HT
        go_wp2_with fail
        go_quiet (first | (go_at_call_of 19 (Value.int IntKind.i64 i); exact Calls.quiet_of_same (M1.out _)) | (go_at_call_of 19 (Value.int IntKind.i64 j); exact Calls.quiet_of_same (M2.out _)))
        go_wp2_with fail
        go_ret
        exact ⟨v3, rfl, HU.out.symm, below_drewN By2w.out _⟩
      · have HU : Hid (RS = cn v2) := (by show _ = _; rw [HT.out, if_pos d1, if_neg d2])
        have M1 : Hid (∀ w, Calls Try.prog 19 #[.int .i64 i, .int .i64 (lat - s - y), .int .i64 st] w fun e w' => e = .returned (.int .i64 (i + 1)) ∧ w' = w) := fun w => by have := N1.out w; rw [if_pos d1] at this; exact this
        have M2 : Hid (∀ w, Calls Try.prog 19 #[.int .i64 j, .int .i64 (lon - ws - x), .int .i64 st] w fun e w' => e = .returned (.int .i64 (j)) ∧ w' = w) := fun w => by have := N2.out w; rw [if_neg d2] at this; rwa [Int.add_zero] at this
        clear N1 N2 d1 d2 HT
        go_wp2_with fail
        go_quiet (first | (go_at_call_of 19 (Value.int IntKind.i64 i); exact Calls.quiet_of_same (M1.out _)) | (go_at_call_of 19 (Value.int IntKind.i64 j); exact Calls.quiet_of_same (M2.out _)))
        go_wp2_with fail
        go_ret
        exact ⟨v2, rfl, HU.out.symm, below_drewN By2w.out _⟩
    · by_cases d2 : st < 2 * (lon - ws - x)
      · have HU : Hid (RS = cn v1) := (by show _ = _; rw [HT.out, if_neg d1, if_pos d2])
        have M1 : Hid (∀ w, Calls Try.prog 19 #[.int .i64 i, .int .i64 (lat - s - y), .int .i64 st] w fun e w' => e = .returned (.int .i64 (i)) ∧ w' = w) := fun w => by have := N1.out w; rw [if_neg d1] at this; rwa [Int.add_zero] at this
        have M2 : Hid (∀ w, Calls Try.prog 19 #[.int .i64 j, .int .i64 (lon - ws - x), .int .i64 st] w fun e w' => e = .returned (.int .i64 (j + 1)) ∧ w' = w) := fun w => by have := N2.out w; rw [if_pos d2] at this; exact this
        clear N1 N2 d1 d2 HT
        go_wp2_with fail
        go_quiet (first | (go_at_call_of 19 (Value.int IntKind.i64 i); exact Calls.quiet_of_same (M1.out _)) | (go_at_call_of 19 (Value.int IntKind.i64 j); exact Calls.quiet_of_same (M2.out _)))
        go_wp2_with fail
        go_ret
        exact ⟨v1, rfl, HU.out.symm, below_drewN By2w.out _⟩
      · have HU : Hid (RS = cn v0) := (by show _ = _; rw [HT.out, if_neg d1, if_neg d2])
        have M1 : Hid (∀ w, Calls Try.prog 19 #[.int .i64 i, .int .i64 (lat - s - y), .int .i64 st] w fun e w' => e = .returned (.int .i64 (i)) ∧ w' = w) := fun w => by have := N1.out w; rw [if_neg d1] at this; rwa [Int.add_zero] at this
        have M2 : Hid (∀ w, Calls Try.prog 19 #[.int .i64 j, .int .i64 (lon - ws - x), .int .i64 st] w fun e w' => e = .returned (.int .i64 (j)) ∧ w' = w) := fun w => by have := N2.out w; rw [if_neg d2] at this; rwa [Int.add_zero] at this
        clear N1 N2 d1 d2 HT
        go_wp2_with fail
        go_quiet (first | (go_at_call_of 19 (Value.int IntKind.i64 i); exact Calls.quiet_of_same (M1.out _)) | (go_at_call_of 19 (Value.int IntKind.i64 j); exact Calls.quiet_of_same (M2.out _)))
        go_wp2_with fail
        go_ret
        exact ⟨v0, rfl, HU.out.symm, below_drewN By2w.out _⟩
  · go_wp2_with fail
    refine (K1.out _).mono ?_
    rintro e x1 ⟨rfl, hw⟩
    have hw1 := hw.symm
    subst hw1
    cases f1
    · have HT : Hid (RS = cn (if st < 2 * (lat - s - y) then (if st < 2 * (lon - ws - x) then v3 else v2) else (if st < 2 * (lon - ws - x) then v1 else v0))) := (by show _ = _; rw [HE.out]; rfl)
      clear HE
      by_cases d1 : st < 2 * (lat - s - y)
      · by_cases d2 : st < 2 * (lon - ws - x)
        · have HU : Hid (RS = cn v3) := (by show _ = _; rw [HT.out, if_pos d1, if_pos d2])
          have M1 : Hid (∀ w, Calls Try.prog 19 #[.int .i64 i, .int .i64 (lat - s - y), .int .i64 st] w fun e w' => e = .returned (.int .i64 (i + 1)) ∧ w' = w) := fun w => by have := N1.out w; rw [if_pos d1] at this; exact this
          have M2 : Hid (∀ w, Calls Try.prog 19 #[.int .i64 j, .int .i64 (lon - ws - x), .int .i64 st] w fun e w' => e = .returned (.int .i64 (j + 1)) ∧ w' = w) := fun w => by have := N2.out w; rw [if_pos d2] at this; exact this
          clear N1 N2 d1 d2 HT
          go_wp2_with fail
          go_quiet (first | (go_at_call_of 19 (Value.int IntKind.i64 i); exact Calls.quiet_of_same (M1.out _)) | (go_at_call_of 19 (Value.int IntKind.i64 j); exact Calls.quiet_of_same (M2.out _)))
          go_wp2_with fail
          go_ret
          exact ⟨v3, rfl, HU.out.symm, below_drewN By2w.out _⟩
        · have HU : Hid (RS = cn v2) := (by show _ = _; rw [HT.out, if_pos d1, if_neg d2])
          have M1 : Hid (∀ w, Calls Try.prog 19 #[.int .i64 i, .int .i64 (lat - s - y), .int .i64 st] w fun e w' => e = .returned (.int .i64 (i + 1)) ∧ w' = w) := fun w => by have := N1.out w; rw [if_pos d1] at this; exact this
          have M2 : Hid (∀ w, Calls Try.prog 19 #[.int .i64 j, .int .i64 (lon - ws - x), .int .i64 st] w fun e w' => e = .returned (.int .i64 (j)) ∧ w' = w) := fun w => by have := N2.out w; rw [if_neg d2] at this; rwa [Int.add_zero] at this
          clear N1 N2 d1 d2 HT
          go_wp2_with fail
          go_quiet (first | (go_at_call_of 19 (Value.int IntKind.i64 i); exact Calls.quiet_of_same (M1.out _)) | (go_at_call_of 19 (Value.int IntKind.i64 j); exact Calls.quiet_of_same (M2.out _)))
          go_wp2_with fail
          go_ret
          exact ⟨v2, rfl, HU.out.symm, below_drewN By2w.out _⟩
      · by_cases d2 : st < 2 * (lon - ws - x)
        · have HU : Hid (RS = cn v1) := (by show _ = _; rw [HT.out, if_neg d1, if_pos d2])
          have M1 : Hid (∀ w, Calls Try.prog 19 #[.int .i64 i, .int .i64 (lat - s - y), .int .i64 st] w fun e w' => e = .returned (.int .i64 (i)) ∧ w' = w) := fun w => by have := N1.out w; rw [if_neg d1] at this; rwa [Int.add_zero] at this
          have M2 : Hid (∀ w, Calls Try.prog 19 #[.int .i64 j, .int .i64 (lon - ws - x), .int .i64 st] w fun e w' => e = .returned (.int .i64 (j + 1)) ∧ w' = w) := fun w => by have := N2.out w; rw [if_pos d2] at this; exact this
          clear N1 N2 d1 d2 HT
          go_wp2_with fail
          go_quiet (first | (go_at_call_of 19 (Value.int IntKind.i64 i); exact Calls.quiet_of_same (M1.out _)) | (go_at_call_of 19 (Value.int IntKind.i64 j); exact Calls.quiet_of_same (M2.out _)))
          go_wp2_with fail
          go_ret
          exact ⟨v1, rfl, HU.out.symm, below_drewN By2w.out _⟩
        · have HU : Hid (RS = cn v0) := (by show _ = _; rw [HT.out, if_neg d1, if_neg d2])
          have M1 : Hid (∀ w, Calls Try.prog 19 #[.int .i64 i, .int .i64 (lat - s - y), .int .i64 st] w fun e w' => e = .returned (.int .i64 (i)) ∧ w' = w) := fun w => by have := N1.out w; rw [if_neg d1] at this; rwa [Int.add_zero] at this
          have M2 : Hid (∀ w, Calls Try.prog 19 #[.int .i64 j, .int .i64 (lon - ws - x), .int .i64 st] w fun e w' => e = .returned (.int .i64 (j)) ∧ w' = w) := fun w => by have := N2.out w; rw [if_neg d2] at this; rwa [Int.add_zero] at this
          clear N1 N2 d1 d2 HT
          go_wp2_with fail
          go_quiet (first | (go_at_call_of 19 (Value.int IntKind.i64 i); exact Calls.quiet_of_same (M1.out _)) | (go_at_call_of 19 (Value.int IntKind.i64 j); exact Calls.quiet_of_same (M2.out _)))
          go_wp2_with fail
          go_ret
          exact ⟨v0, rfl, HU.out.symm, below_drewN By2w.out _⟩
    · go_wp2_with fail
      refine (K2.out _).mono ?_
      rintro e x2 ⟨rfl, hw⟩
      have hw2 := hw.symm
      subst hw2
      cases f2
      · have HT : Hid (RS = cn (if st < 2 * (lat - s - y) then (if st < 2 * (lon - ws - x) then v3 else v2) else (if st < 2 * (lon - ws - x) then v1 else v0))) := (by show _ = _; rw [HE.out]; rfl)
        clear HE
        by_cases d1 : st < 2 * (lat - s - y)
        · by_cases d2 : st < 2 * (lon - ws - x)
          · have HU : Hid (RS = cn v3) := (by show _ = _; rw [HT.out, if_pos d1, if_pos d2])
            have M1 : Hid (∀ w, Calls Try.prog 19 #[.int .i64 i, .int .i64 (lat - s - y), .int .i64 st] w fun e w' => e = .returned (.int .i64 (i + 1)) ∧ w' = w) := fun w => by have := N1.out w; rw [if_pos d1] at this; exact this
            have M2 : Hid (∀ w, Calls Try.prog 19 #[.int .i64 j, .int .i64 (lon - ws - x), .int .i64 st] w fun e w' => e = .returned (.int .i64 (j + 1)) ∧ w' = w) := fun w => by have := N2.out w; rw [if_pos d2] at this; exact this
            clear N1 N2 d1 d2 HT
            go_wp2_with fail
            go_quiet (first | (go_at_call_of 19 (Value.int IntKind.i64 i); exact Calls.quiet_of_same (M1.out _)) | (go_at_call_of 19 (Value.int IntKind.i64 j); exact Calls.quiet_of_same (M2.out _)))
            go_wp2_with fail
            go_ret
            exact ⟨v3, rfl, HU.out.symm, below_drewN By2w.out _⟩
          · have HU : Hid (RS = cn v2) := (by show _ = _; rw [HT.out, if_pos d1, if_neg d2])
            have M1 : Hid (∀ w, Calls Try.prog 19 #[.int .i64 i, .int .i64 (lat - s - y), .int .i64 st] w fun e w' => e = .returned (.int .i64 (i + 1)) ∧ w' = w) := fun w => by have := N1.out w; rw [if_pos d1] at this; exact this
            have M2 : Hid (∀ w, Calls Try.prog 19 #[.int .i64 j, .int .i64 (lon - ws - x), .int .i64 st] w fun e w' => e = .returned (.int .i64 (j)) ∧ w' = w) := fun w => by have := N2.out w; rw [if_neg d2] at this; rwa [Int.add_zero] at this
            clear N1 N2 d1 d2 HT
            go_wp2_with fail
            go_quiet (first | (go_at_call_of 19 (Value.int IntKind.i64 i); exact Calls.quiet_of_same (M1.out _)) | (go_at_call_of 19 (Value.int IntKind.i64 j); exact Calls.quiet_of_same (M2.out _)))
            go_wp2_with fail
            go_ret
            exact ⟨v2, rfl, HU.out.symm, below_drewN By2w.out _⟩
        · by_cases d2 : st < 2 * (lon - ws - x)
          · have HU : Hid (RS = cn v1) := (by show _ = _; rw [HT.out, if_neg d1, if_pos d2])
            have M1 : Hid (∀ w, Calls Try.prog 19 #[.int .i64 i, .int .i64 (lat - s - y), .int .i64 st] w fun e w' => e = .returned (.int .i64 (i)) ∧ w' = w) := fun w => by have := N1.out w; rw [if_neg d1] at this; rwa [Int.add_zero] at this
            have M2 : Hid (∀ w, Calls Try.prog 19 #[.int .i64 j, .int .i64 (lon - ws - x), .int .i64 st] w fun e w' => e = .returned (.int .i64 (j + 1)) ∧ w' = w) := fun w => by have := N2.out w; rw [if_pos d2] at this; exact this
            clear N1 N2 d1 d2 HT
            go_wp2_with fail
            go_quiet (first | (go_at_call_of 19 (Value.int IntKind.i64 i); exact Calls.quiet_of_same (M1.out _)) | (go_at_call_of 19 (Value.int IntKind.i64 j); exact Calls.quiet_of_same (M2.out _)))
            go_wp2_with fail
            go_ret
            exact ⟨v1, rfl, HU.out.symm, below_drewN By2w.out _⟩
          · have HU : Hid (RS = cn v0) := (by show _ = _; rw [HT.out, if_neg d1, if_neg d2])
            have M1 : Hid (∀ w, Calls Try.prog 19 #[.int .i64 i, .int .i64 (lat - s - y), .int .i64 st] w fun e w' => e = .returned (.int .i64 (i)) ∧ w' = w) := fun w => by have := N1.out w; rw [if_neg d1] at this; rwa [Int.add_zero] at this
            have M2 : Hid (∀ w, Calls Try.prog 19 #[.int .i64 j, .int .i64 (lon - ws - x), .int .i64 st] w fun e w' => e = .returned (.int .i64 (j)) ∧ w' = w) := fun w => by have := N2.out w; rw [if_neg d2] at this; rwa [Int.add_zero] at this
            clear N1 N2 d1 d2 HT
            go_wp2_with fail
            go_quiet (first | (go_at_call_of 19 (Value.int IntKind.i64 i); exact Calls.quiet_of_same (M1.out _)) | (go_at_call_of 19 (Value.int IntKind.i64 j); exact Calls.quiet_of_same (M2.out _)))
            go_wp2_with fail
            go_ret
            exact ⟨v0, rfl, HU.out.symm, below_drewN By2w.out _⟩
      · go_wp2_with fail
        refine (K3.out _).mono ?_
        rintro e x3 ⟨rfl, hw⟩
        have hw3 := hw.symm
        subst hw3
        cases f3
        · have HT : Hid (RS = cn (if st < 2 * (lat - s - y) then (if st < 2 * (lon - ws - x) then v3 else v2) else (if st < 2 * (lon - ws - x) then v1 else v0))) := (by show _ = _; rw [HE.out]; rfl)
          clear HE
          by_cases d1 : st < 2 * (lat - s - y)
          · by_cases d2 : st < 2 * (lon - ws - x)
            · have HU : Hid (RS = cn v3) := (by show _ = _; rw [HT.out, if_pos d1, if_pos d2])
              have M1 : Hid (∀ w, Calls Try.prog 19 #[.int .i64 i, .int .i64 (lat - s - y), .int .i64 st] w fun e w' => e = .returned (.int .i64 (i + 1)) ∧ w' = w) := fun w => by have := N1.out w; rw [if_pos d1] at this; exact this
              have M2 : Hid (∀ w, Calls Try.prog 19 #[.int .i64 j, .int .i64 (lon - ws - x), .int .i64 st] w fun e w' => e = .returned (.int .i64 (j + 1)) ∧ w' = w) := fun w => by have := N2.out w; rw [if_pos d2] at this; exact this
              clear N1 N2 d1 d2 HT
              go_wp2_with fail
              go_quiet (first | (go_at_call_of 19 (Value.int IntKind.i64 i); exact Calls.quiet_of_same (M1.out _)) | (go_at_call_of 19 (Value.int IntKind.i64 j); exact Calls.quiet_of_same (M2.out _)))
              go_wp2_with fail
              go_ret
              exact ⟨v3, rfl, HU.out.symm, below_drewN By2w.out _⟩
            · have HU : Hid (RS = cn v2) := (by show _ = _; rw [HT.out, if_pos d1, if_neg d2])
              have M1 : Hid (∀ w, Calls Try.prog 19 #[.int .i64 i, .int .i64 (lat - s - y), .int .i64 st] w fun e w' => e = .returned (.int .i64 (i + 1)) ∧ w' = w) := fun w => by have := N1.out w; rw [if_pos d1] at this; exact this
              have M2 : Hid (∀ w, Calls Try.prog 19 #[.int .i64 j, .int .i64 (lon - ws - x), .int .i64 st] w fun e w' => e = .returned (.int .i64 (j)) ∧ w' = w) := fun w => by have := N2.out w; rw [if_neg d2] at this; rwa [Int.add_zero] at this
              clear N1 N2 d1 d2 HT
              go_wp2_with fail
              go_quiet (first | (go_at_call_of 19 (Value.int IntKind.i64 i); exact Calls.quiet_of_same (M1.out _)) | (go_at_call_of 19 (Value.int IntKind.i64 j); exact Calls.quiet_of_same (M2.out _)))
              go_wp2_with fail
              go_ret
              exact ⟨v2, rfl, HU.out.symm, below_drewN By2w.out _⟩
          · by_cases d2 : st < 2 * (lon - ws - x)
            · have HU : Hid (RS = cn v1) := (by show _ = _; rw [HT.out, if_neg d1, if_pos d2])
              have M1 : Hid (∀ w, Calls Try.prog 19 #[.int .i64 i, .int .i64 (lat - s - y), .int .i64 st] w fun e w' => e = .returned (.int .i64 (i)) ∧ w' = w) := fun w => by have := N1.out w; rw [if_neg d1] at this; rwa [Int.add_zero] at this
              have M2 : Hid (∀ w, Calls Try.prog 19 #[.int .i64 j, .int .i64 (lon - ws - x), .int .i64 st] w fun e w' => e = .returned (.int .i64 (j + 1)) ∧ w' = w) := fun w => by have := N2.out w; rw [if_pos d2] at this; exact this
              clear N1 N2 d1 d2 HT
              go_wp2_with fail
              go_quiet (first | (go_at_call_of 19 (Value.int IntKind.i64 i); exact Calls.quiet_of_same (M1.out _)) | (go_at_call_of 19 (Value.int IntKind.i64 j); exact Calls.quiet_of_same (M2.out _)))
              go_wp2_with fail
              go_ret
              exact ⟨v1, rfl, HU.out.symm, below_drewN By2w.out _⟩
            · have HU : Hid (RS = cn v0) := (by show _ = _; rw [HT.out, if_neg d1, if_neg d2])
              have M1 : Hid (∀ w, Calls Try.prog 19 #[.int .i64 i, .int .i64 (lat - s - y), .int .i64 st] w fun e w' => e = .returned (.int .i64 (i)) ∧ w' = w) := fun w => by have := N1.out w; rw [if_neg d1] at this; rwa [Int.add_zero] at this
              have M2 : Hid (∀ w, Calls Try.prog 19 #[.int .i64 j, .int .i64 (lon - ws - x), .int .i64 st] w fun e w' => e = .returned (.int .i64 (j)) ∧ w' = w) := fun w => by have := N2.out w; rw [if_neg d2] at this; rwa [Int.add_zero] at this
              clear N1 N2 d1 d2 HT
              go_wp2_with fail
              go_quiet (first | (go_at_call_of 19 (Value.int IntKind.i64 i); exact Calls.quiet_of_same (M1.out _)) | (go_at_call_of 19 (Value.int IntKind.i64 j); exact Calls.quiet_of_same (M2.out _)))
              go_wp2_with fail
              go_ret
              exact ⟨v0, rfl, HU.out.symm, below_drewN By2w.out _⟩
        · have HT : Hid (RS = ble (ble (cn v0) (cn v1) (opF .quo (cn (fi (lon - ws - x))) (cn (fi st)))) (ble (cn v2) (cn v3) (opF .quo (cn (fi (lon - ws - x))) (cn (fi st)))) (opF .quo (cn (fi (lat - s - y))) (cn (fi st)))) := (by show _ = _; rw [HE.out]; rfl)
          clear HE N1 N2
          go_wp2_with fail
          refine (blend_any _ _ _ _).mono ?_
          rintro e u1w ⟨z21, rfl, hz1, m1, hw⟩
          have HZ1 : Hid _ := hz1
          have ng0 : u1w.cell? ⟨w.heap.size, 0, none⟩ = some (.int .i64 r) := by rw [hw]; exact g0
          have ng1 : u1w.cell? ⟨w.heap.size, 1, none⟩ = some (.int .i64 c) := by rw [hw]; exact g1
          have ng2 : u1w.cell? ⟨w.heap.size, 2, none⟩ = some (.int .i64 s) := by rw [hw]; exact g2
          have ng3 : u1w.cell? ⟨w.heap.size, 3, none⟩ = some (.int .i64 ws) := by rw [hw]; exact g3
          have ng4 : u1w.cell? ⟨w.heap.size, 4, none⟩ = some (.int .i64 st) := by rw [hw]; exact g4
          have na0 : u1w.cell? ⟨bl, o + k, none⟩ = some (.float .f64 v0) := by rw [hw]; exact a0
          have na1 : u1w.cell? ⟨bl, o + (k + 1), none⟩ = some (.float .f64 v1) := by rw [hw]; exact a1
          have na2 : u1w.cell? ⟨bl, o + k2, none⟩ = some (.float .f64 v2) := by rw [hw]; exact a2
          have na3 : u1w.cell? ⟨bl, o + (k2 + 1), none⟩ = some (.float .f64 v3) := by rw [hw]; exact a3
          have Bu1w : Hid (Below w.heap.size w u1w) := (by show Below _ _ _; rw [hw]; exact below_drewN (below_drewN By2w.out _) _)
          clear hw g0 g1 g2 g3 g4 a0 a1 a2 a3
          have g0 := ng0
          have g1 := ng1
          have g2 := ng2
          have g3 := ng3
          have g4 := ng4
          have a0 := na0
          have a1 := na1
          have a2 := na2
          have a3 := na3
          clear ng0 ng1 ng2 ng3 ng4 na0 na1 na2 na3
          clear hz1
          go_wp2_with fail
          refine (blend_any _ _ _ _).mono ?_
          rintro e u2w ⟨z22, rfl, hz2, m2, hw⟩
          have HZ2 : Hid _ := hz2
          have ng0 : u2w.cell? ⟨w.heap.size, 0, none⟩ = some (.int .i64 r) := by rw [hw]; exact g0
          have ng1 : u2w.cell? ⟨w.heap.size, 1, none⟩ = some (.int .i64 c) := by rw [hw]; exact g1
          have ng2 : u2w.cell? ⟨w.heap.size, 2, none⟩ = some (.int .i64 s) := by rw [hw]; exact g2
          have ng3 : u2w.cell? ⟨w.heap.size, 3, none⟩ = some (.int .i64 ws) := by rw [hw]; exact g3
          have ng4 : u2w.cell? ⟨w.heap.size, 4, none⟩ = some (.int .i64 st) := by rw [hw]; exact g4
          have na0 : u2w.cell? ⟨bl, o + k, none⟩ = some (.float .f64 v0) := by rw [hw]; exact a0
          have na1 : u2w.cell? ⟨bl, o + (k + 1), none⟩ = some (.float .f64 v1) := by rw [hw]; exact a1
          have na2 : u2w.cell? ⟨bl, o + k2, none⟩ = some (.float .f64 v2) := by rw [hw]; exact a2
          have na3 : u2w.cell? ⟨bl, o + (k2 + 1), none⟩ = some (.float .f64 v3) := by rw [hw]; exact a3
          have Bu2w : Hid (Below w.heap.size w u2w) := (by show Below _ _ _; rw [hw]; exact below_drewN Bu1w.out _)
          clear hw g0 g1 g2 g3 g4 a0 a1 a2 a3
          have g0 := ng0
          have g1 := ng1
          have g2 := ng2
          have g3 := ng3
          have g4 := ng4
          have a0 := na0
          have a1 := na1
          have a2 := na2
          have a3 := na3
          clear ng0 ng1 ng2 ng3 ng4 na0 na1 na2 na3
          clear hz2
          go_wp2_with fail
          refine (blend_any _ _ _ _).mono ?_
          rintro e u3w ⟨z23, rfl, hz3, m3, hw⟩
          have HZ3 : Hid _ := hz3
          have Bu3w : Hid (Below w.heap.size w u3w) := (by show Below _ _ _; rw [hw]; exact below_drewN Bu2w.out _)
          clear hw
          clear hz3
          go_wp2_with fail
          go_ret
          exact ⟨_, rfl, by rw [HT.out, HZ3.out, HZ1.out, HZ2.out]; simp only [cn_op]; rfl, Bu3w.out⟩
end Go.Proofs.Ytknkmkhnakcjiaa.Gd
