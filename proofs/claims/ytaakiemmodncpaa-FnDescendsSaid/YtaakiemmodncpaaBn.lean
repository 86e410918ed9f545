/- The best move: the program. -/
import Derived.Test.YtaakiemmodncpaaBm
namespace Go.Proofs.Ytaakiemmodncpaa.Bm
open Go.ChangeShapes Go.WideShapes Go.ChangeAt Go.RowKit
open Go.Proofs.Ytaakiemmodncpaa.Lists Go.Proofs.Ytaakiemmodncpaa.Al Go.Proofs.Ytaakiemmodncpaa.Su Go.Proofs.Ytaakiemmodncpaa.Po Go.Proofs.Ytaakiemmodncpaa.Cs Go.Proofs.Ytaakiemmodncpaa.Cf Go.Proofs.Ytaakiemmodncpaa.Dp

set_option maxHeartbeats 1000000 in
theorem up_any (a b : Int) (w : World) (h0 : 0 ≤ a + b - 1) (hb : 1 ≤ b) (h1 : a + b ≤ 1000000000000) (h2 : b ≤ 1000000000000) :
    Calls Try.prog 53 #[.int .i64 a, .int .i64 b] w fun e w' => e = .returned (.int .i64 ((a + b - 1) / b)) ∧ w' = w := by
  have e1 : IntKind.i64.wrap (a + b) = a + b := IntWalk.i64_in _ (by omega)
  have e2 : IntKind.i64.wrap (a + b - 1) = a + b - 1 := IntWalk.i64_in _ (by omega)
  have e3 : (a + b - 1).tdiv b = (a + b - 1) / b := Int.tdiv_eq_ediv_of_nonneg h0
  have q0 : 0 ≤ (a + b - 1) / b := Int.ediv_nonneg h0 (by omega)
  have q1 : (a + b - 1) / b ≤ a + b - 1 := Int.ediv_le_self _ h0
  have e4 : IntKind.i64.wrap ((a + b - 1) / b) = (a + b - 1) / b := IntWalk.i64_in _ (by omega)
  have b0 : ¬ b = 0 := by omega
  clear q0 q1
  generalize (a + b - 1) / b = q at *
  go_enter Try.func53, Try.ntmps53
  go_wp2_with fail
  go_ret
  exact ⟨rfl, rfl⟩

set_option maxHeartbeats 1000000 in
theorem ibest_any (G T : List Int) (R : Rw.Ls) (X : List Int) (nn i : Nat) (O : Ok nn G T R) (PX : Pt nn X) (hi : i < nn) (vg vt vr vx : Value) (w : World) (hG : Lists.Reads w vg G) (hT : Lists.Reads w vt T) (hR : Rw.Reads w vr R) (hX : Lists.Reads w vx X) :
    Calls Try.prog 34 #[Pb.pv nn vg vt vr, vx, .int .i64 (i : Int)] w fun e w' => e = .returned (.int .i64 (bs G T R X nn i)) ∧ Below w.heap.size w w' := by
  have n6 : nn ≤ 6 := by have := O.n6; omega
  have nG := O.nG
  have nT := O.nT
  have hX0 := hX
  obtain ⟨bg, og, cg, rfl, bgl, hcg⟩ := at_of hG (show G.length = nn by omega) (by omega)
  obtain ⟨bt, ot, ct', rfl, btl, hct⟩ := at_of hT (show T.length = nn by omega) (by omega)
  obtain ⟨bx, ox, cx, rfl, bxl, hcx⟩ := at_of hX PX.len (by omega)
  obtain ⟨W, hW⟩ : ∃ W, W = ((w.alloc (Obj.cells #[.int .i64 (nn : Int), .slice (some ⟨bg, og, none⟩) nn cg, .slice (some ⟨bt, ot, none⟩) nn ct', vr] 32)).alloc (Obj.cells #[.slice (some ⟨bx, ox, none⟩) nn cx] 22)).alloc (Obj.cells #[.int .i64 (i : Int)] 2) := ⟨_, rfl⟩
  have HW : Hid (W = ((w.alloc (Obj.cells #[.int .i64 (nn : Int), .slice (some ⟨bg, og, none⟩) nn cg, .slice (some ⟨bt, ot, none⟩) nn ct', vr] 32)).alloc (Obj.cells #[.slice (some ⟨bx, ox, none⟩) nn cx] 22)).alloc (Obj.cells #[.int .i64 (i : Int)] 2)) := hW
  have B0 : Below w.heap.size w W := (by rw [hW]; exact (((Below.refl _ _).alloc (Nat.le_refl _) _).alloc (by simp) _).alloc (by simp; omega) _)
  have zW : W.heap.size = w.heap.size + 3 := by rw [hW]; simp
  have d0 : W.cell? ⟨w.heap.size, 0, none⟩ = some (.int .i64 (nn : Int)) := by rw [hW]; simp [go_sem]
  have d1 : W.cell? ⟨w.heap.size, 1, none⟩ = some (.slice (some ⟨bg, og, none⟩) nn cg) := by rw [hW]; simp [go_sem]
  have d2 : W.cell? ⟨w.heap.size, 2, none⟩ = some (.slice (some ⟨bt, ot, none⟩) nn ct') := by rw [hW]; simp [go_sem]
  have d3 : W.cell? ⟨w.heap.size, 3, none⟩ = some vr := by rw [hW]; simp [go_sem]
  have d4 : W.cell? ⟨w.heap.size + 1, 0, none⟩ = some (.slice (some ⟨bx, ox, none⟩) nn cx) := by rw [hW]; simp [go_sem]
  have d5 : W.cell? ⟨w.heap.size + 1 + 1, 0, none⟩ = some (.int .i64 (i : Int)) := by rw [hW]; simp [go_sem]
  have d6 : W.cell? ⟨bg, og + i, none⟩ = some (.int .i64 (G.getD i 0)) := (B0.cell (p := ⟨bg, og + i, none⟩) bgl).trans (hcg i hi)
  have d7 : W.cell? ⟨bt, ot + i, none⟩ = some (.int .i64 (T.getD i 0)) := (B0.cell (p := ⟨bt, ot + i, none⟩) btl).trans (hct i hi)
  have d8 : W.cell? ⟨bx, ox + i, none⟩ = some (.int .i64 (X.getD i 0)) := (B0.cell (p := ⟨bx, ox + i, none⟩) bxl).trans (hcx i hi)
  obtain ⟨ar, cr', er⟩ := hR.form
  subst er
  have HCS : Hid (∀ w', Below W.heap.size W w' → (w'.cell? ⟨w.heap.size, 0, none⟩ = some (.int .i64 (nn : Int)) ∧ w'.cell? ⟨w.heap.size, 1, none⟩ = some (.slice (some ⟨bg, og, none⟩) nn cg) ∧ w'.cell? ⟨w.heap.size, 2, none⟩ = some (.slice (some ⟨bt, ot, none⟩) nn ct') ∧ w'.cell? ⟨w.heap.size, 3, none⟩ = some (.slice ar R.length cr') ∧ w'.cell? ⟨w.heap.size + 1, 0, none⟩ = some (.slice (some ⟨bx, ox, none⟩) nn cx) ∧ w'.cell? ⟨w.heap.size + 1 + 1, 0, none⟩ = some (.int .i64 (i : Int)) ∧ w'.cell? ⟨bg, og + i, none⟩ = some (.int .i64 (G.getD i 0)) ∧ w'.cell? ⟨bt, ot + i, none⟩ = some (.int .i64 (T.getD i 0)) ∧ w'.cell? ⟨bx, ox + i, none⟩ = some (.int .i64 (X.getD i 0)))) := fun w' hb =>
    ⟨(hb.cell (p := ⟨w.heap.size, 0, none⟩) (by show w.heap.size < _; omega)).trans d0, (hb.cell (p := ⟨w.heap.size, 1, none⟩) (by show w.heap.size < _; omega)).trans d1, (hb.cell (p := ⟨w.heap.size, 2, none⟩) (by show w.heap.size < _; omega)).trans d2, (hb.cell (p := ⟨w.heap.size, 3, none⟩) (by show w.heap.size < _; omega)).trans d3, (hb.cell (p := ⟨w.heap.size + 1, 0, none⟩) (by show w.heap.size + 1 < _; omega)).trans d4, (hb.cell (p := ⟨w.heap.size + 1 + 1, 0, none⟩) (by show w.heap.size + 1 + 1 < _; omega)).trans d5, (hb.cell (p := ⟨bg, og + i, none⟩) (by show bg < _; omega)).trans d6, (hb.cell (p := ⟨bt, ot + i, none⟩) (by show bt < _; omega)).trans d7, (hb.cell (p := ⟨bx, ox + i, none⟩) (by show bx < _; omega)).trans d8⟩
  have O1 : Hid (∀ w', Below W.heap.size W w' → Calls Try.prog 48 #[Pb.pv nn (.slice (some ⟨bg, og, none⟩) nn cg) (.slice (some ⟨bt, ot, none⟩) nn ct') (.slice ar R.length cr'), .func (.func 49) #[] #[.pointer (some ⟨w.heap.size + 1 + 1, 0, none⟩)]] w' fun e w'' => e = .returned (.int .i64 (sm R.length fun k => Rw.cz R k 2 * ((Rw.cl R k).getD i 0 * (Rw.cl R k).getD i 0))) ∧ Below w'.heap.size w' w'') := fun w' hb =>
    over49 G T R nn i O hi (w.heap.size + 1 + 1) nn _ _ _ w' (hR.on (B0.trans (hb.mono (by omega)))) (by have := hb.size; omega) ((hb.cell (p := ⟨w.heap.size + 1 + 1, 0, none⟩) (by show w.heap.size + 1 + 1 < _; omega)).trans d5)
  have O2 : Hid (∀ w', Below W.heap.size W w' → Calls Try.prog 48 #[Pb.pv nn (.slice (some ⟨bg, og, none⟩) nn cg) (.slice (some ⟨bt, ot, none⟩) nn ct') (.slice ar R.length cr'), .func (.func 51) #[] #[.pointer (some ⟨w.heap.size + 1 + 1, 0, none⟩), .pointer (some ⟨w.heap.size + 1, 0, none⟩)]] w' fun e w'' => e = .returned (.int .i64 (sm R.length fun k => Rw.cz R k 2 * (Rw.cl R k).getD i 0 * dev R X nn k)) ∧ Below w'.heap.size w' w'') := fun w' hb =>
    over51 G T R nn i O hi (w.heap.size + 1 + 1) X PX (w.heap.size + 1) _ nn _ _ _ w' (hR.on (B0.trans (hb.mono (by omega)))) (hX0.on (B0.trans (hb.mono (by omega)))) (by have := hb.size; omega) ((hb.cell (p := ⟨w.heap.size + 1, 0, none⟩) (by show w.heap.size + 1 < _; omega)).trans d4) (by have := hb.size; omega) ((hb.cell (p := ⟨w.heap.size + 1 + 1, 0, none⟩) (by show w.heap.size + 1 + 1 < _; omega)).trans d5)
  have HB : Hid (∀ w', Below W.heap.size W w' → Below w.heap.size w w') := fun w' hb => B0.trans (hb.mono (by omega))
  have HD : Hid (∀ w', Below W.heap.size W w' → Below W.heap.size W w'.drew) := fun w' hb => below_drewN hb 1
  have s1 := sm_bound (n := R.length) (f := fun k => Rw.cz R k 2 * ((Rw.cl R k).getD i 0 * (Rw.cl R k).getD i 0)) (M := 125) (fun k hk => by have := bt_b O hk hi; omega) _ (Nat.le_refl _)
  have s0 : 0 ≤ sm R.length (fun k => Rw.cz R k 2 * ((Rw.cl R k).getD i 0 * (Rw.cl R k).getD i 0)) := sm_nn fun k hk => (bt_b O hk hi).2.2.1
  have s2 := sm_bound (n := R.length) (f := fun k => Rw.cz R k 2 * (Rw.cl R k).getD i 0 * dev R X nn k) (M := 750012500) (fun k hk => by have := st_b O PX hk hi; omega) _ (Nat.le_refl _)
  have nR := O.nR
  have gb := O.gb i (by omega)
  have tb := O.tb i (by omega)
  have xb := PX.b i hi
  have m1 := mul_abs (a := T.getD i 0) (b := X.getD i 0 - G.getD i 0) (A := 5) (B := 1000500) (by omega) (by omega)
  have HR : Hid (bs G T R X nn i = bst (T.getD i 0 + sm R.length fun k => Rw.cz R k 2 * ((Rw.cl R k).getD i 0 * (Rw.cl R k).getD i 0)) (T.getD i 0 * (X.getD i 0 - G.getD i 0) + sm R.length fun k => Rw.cz R k 2 * (Rw.cl R k).getD i 0 * dev R X nn k)) := rfl
  generalize hS1 : (sm R.length fun k => Rw.cz R k 2 * ((Rw.cl R k).getD i 0 * (Rw.cl R k).getD i 0)) = S1 at *
  generalize hS2 : (sm R.length fun k => Rw.cz R k 2 * (Rw.cl R k).getD i 0 * dev R X nn k) = S2 at *
  obtain ⟨ans, hans⟩ : ∃ ans, bs G T R X nn i = ans := ⟨_, rfl⟩
  rw [hans] at HR ⊢
  clear hans hS1 hS2 hX0 hG hT hR hX O PX hcg hct hcx B0 zW hW bgl btl bxl nG nT n6 d0 d1 d2 d3 d4 d5 d6 d7 d8
  generalize G.getD i 0 = g at *
  generalize T.getD i 0 = t at *
  generalize X.getD i 0 = x at *
  generalize R.length = lr at *
  obtain ⟨b, hb⟩ : ∃ b, t + S1 = b := ⟨_, rfl⟩
  obtain ⟨y, hy⟩ : ∃ y, t * (x - g) = y := ⟨_, rfl⟩
  obtain ⟨s, hs⟩ : ∃ s, y + S2 = s := ⟨_, rfl⟩
  have w1 : IntKind.i64.wrap (t + S1) = b := by rw [hb]; exact IntWalk.i64_in _ (by omega)
  have w2 : IntKind.i64.wrap (x - g) = x - g := IntWalk.i64_in _ (by omega)
  have w3 : IntKind.i64.wrap (t * (x - g)) = y := by rw [hy] at m1 ⊢; exact IntWalk.i64_in _ (by omega)
  have w4 : IntKind.i64.wrap (y + S2) = s := by rw [hs]; exact IntWalk.i64_in _ (by omega)
  rw [hy] at HR m1
  rw [hs, hb] at HR
  have bb : 1 ≤ b ∧ b ≤ 2505 := by omega
  have ss : -20000000000 ≤ s ∧ s ≤ 20000000000 := by omega
  obtain ⟨b1, b2⟩ := bb
  obtain ⟨ss1, ss2⟩ := ss
  have i1 : (0 : Int) ≤ (i : Int) := by omega
  have i2 : (i : Int) < (nn : Int) := by omega
  have R0 : Hid (Below W.heap.size W W) := Below.refl _ _
  obtain ⟨d0, d1, d2, d3, d4, d5, d6, d7, d8⟩ := HCS.out W (Below.refl _ _)
  clear s1 s0 s2 nR gb tb xb m1 hb hy hs
  go_enter Try.func34, Try.ntmps34
  go_wp2_with fail
  rw [← HW.out]
  go_region_held3 (fun w' => w'.cell? ⟨w.heap.size, 0, none⟩ = some (.int .i64 (nn : Int)) ∧ w'.cell? ⟨w.heap.size, 1, none⟩ = some (.slice (some ⟨bg, og, none⟩) nn cg) ∧ w'.cell? ⟨w.heap.size, 2, none⟩ = some (.slice (some ⟨bt, ot, none⟩) nn ct') ∧ w'.cell? ⟨w.heap.size, 3, none⟩ = some (.slice ar lr cr') ∧ w'.cell? ⟨w.heap.size + 1 + 1, 0, none⟩ = some (.int .i64 (i : Int)) ∧ w'.cell? ⟨bt, ot + i, none⟩ = some (.int .i64 t)) (go_keep)
    ((go_at_call 48; refine (Calls.mono (O1.out _ (HD.out _ R0.out))) ?_; rintro e w5 ⟨rfl, hb⟩; have R5 : Hid (Below W.heap.size W w5) := (HD.out _ R0.out).trans (hb.mono (HD.out _ R0.out).size); have cs := HCS.out w5 R5.out; obtain ⟨p0, p1, p2, p3, p4, p5, p6, p7, p8⟩ := cs; clear hb))
  clear d0 d1 d2 d3 d4 d5 d6 d7 d8 w1
  go_wp2_with fail
  go_region_held3 (fun w' => w'.cell? ⟨w.heap.size, 0, none⟩ = some (.int .i64 (nn : Int)) ∧ w'.cell? ⟨w.heap.size, 1, none⟩ = some (.slice (some ⟨bg, og, none⟩) nn cg) ∧ w'.cell? ⟨w.heap.size, 2, none⟩ = some (.slice (some ⟨bt, ot, none⟩) nn ct') ∧ w'.cell? ⟨w.heap.size, 3, none⟩ = some (.slice ar lr cr') ∧ w'.cell? ⟨w.heap.size + 1, 0, none⟩ = some (.slice (some ⟨bx, ox, none⟩) nn cx) ∧ w'.cell? ⟨w.heap.size + 1 + 1, 0, none⟩ = some (.int .i64 (i : Int)) ∧ w'.cell? ⟨bg, og + i, none⟩ = some (.int .i64 g) ∧ w'.cell? ⟨bt, ot + i, none⟩ = some (.int .i64 t) ∧ w'.cell? ⟨bx, ox + i, none⟩ = some (.int .i64 x)) (go_keep)
    ((go_at_call 48; refine (Calls.mono (O2.out _ (HD.out _ R5.out))) ?_; rintro e w6 ⟨rfl, hb⟩; have R6 : Hid (Below W.heap.size W w6) := (HD.out _ R5.out).trans (hb.mono (HD.out _ R5.out).size); have cs := HCS.out w6 R6.out; obtain ⟨r0, r1, r2, r3, r4, r5, r6, r7, r8⟩ := cs; clear hb))
  clear p0 p1 p2 p3 p4 p5 p6 p7 p8 r0 r1 r2 r3 r4 r5 r6 r7 r8 w2 w3 w4
  have BE : Hid (Below w.heap.size w w6) := HB.out w6 R6.out
  have z1 : IntKind.i64.wrap (-s) = -s := IntWalk.i64_in _ (by omega)
  have z2 : IntKind.i64.wrap (2 * b) = 2 * b := IntWalk.i64_in _ (by omega)
  by_cases h0 : 0 < s
  · have HA : Hid (ans = -((2 * s - b + 2 * b - 1) / (2 * b))) := (by show _ = _; rw [HR.out]; unfold bst; rw [if_pos h0]; congr 2; omega)
    have U : Hid (∀ w, Calls Try.prog 53 #[.int .i64 (2 * s - b), .int .i64 (2 * b)] w fun e w' => e = .returned (.int .i64 ((2 * s - b + 2 * b - 1) / (2 * b))) ∧ w' = w) := fun w => up_any _ _ w (by omega) (by omega) (by omega) (by omega)
    have q0 : 0 ≤ (2 * s - b + 2 * b - 1) / (2 * b) := Int.ediv_nonneg (by omega) (by omega)
    have q1 : (2 * s - b + 2 * b - 1) / (2 * b) ≤ 2 * s - b + 2 * b - 1 := Int.ediv_le_self _ (by omega)
    have z3 : IntKind.i64.wrap (2 * s) = 2 * s := IntWalk.i64_in _ (by omega)
    have z4 : IntKind.i64.wrap (2 * s - b) = 2 * s - b := IntWalk.i64_in _ (by omega)
    have z5 : IntKind.i64.wrap (-((2 * s - b + 2 * b - 1) / (2 * b))) = -((2 * s - b + 2 * b - 1) / (2 * b)) := IntWalk.i64_in _ (by omega)
    have h1 : -s ≤ s := by omega
    have h2 : ¬ s < -s := by omega
    generalize (2 * s - b + 2 * b - 1) / (2 * b) = Q at *
    go_wp2_with fail
    refine (U.out _).mono ?_
    rintro e w7 ⟨rfl, h7⟩
    have h7' := h7.symm
    subst h7'
    go_wp2_with fail
    go_ret
    exact ⟨by rw [HA.out]; rfl, BE.out⟩
  · have HA : Hid (ans = (2 * (-s) - b + 2 * b - 1) / (2 * b)) := (by show _ = _; rw [HR.out]; unfold bst; rw [if_neg h0]; congr 1; omega)
    have U : Hid (∀ w, Calls Try.prog 53 #[.int .i64 (2 * (-s) - b), .int .i64 (2 * b)] w fun e w' => e = .returned (.int .i64 ((2 * (-s) - b + 2 * b - 1) / (2 * b))) ∧ w' = w) := fun w => up_any _ _ w (by omega) (by omega) (by omega) (by omega)
    have z3 : IntKind.i64.wrap (2 * (-s)) = 2 * (-s) := IntWalk.i64_in _ (by omega)
    have z4 : IntKind.i64.wrap (2 * (-s) - b) = 2 * (-s) - b := IntWalk.i64_in _ (by omega)
    generalize (2 * (-s) - b + 2 * b - 1) / (2 * b) = Q at *
    by_cases h5 : s = 0
    · subst h5
      have z6 : IntKind.i64.wrap (-b) = -b := IntWalk.i64_in _ (by omega)
      have U2 : Hid (∀ w, Calls Try.prog 53 #[.int .i64 (-b), .int .i64 (2 * b)] w fun e w' => e = .returned (.int .i64 Q) ∧ w' = w) := fun w => by have := U.out w; simpa using this
      clear U z1 z3 z4 ss1 ss2
      go_wp2_with fail
      refine (U2.out _).mono ?_
      rintro e w7 ⟨rfl, h7⟩
      have h7' := h7.symm
      subst h7'
      go_wp2_with fail
      go_ret
      exact ⟨by rw [HA.out]; rfl, BE.out⟩
    generalize hm : -s = m at *
    have h4 : ¬ m ≤ s := by omega
    have h6 : s < m := by omega
    go_wp2_with fail
    refine (U.out _).mono ?_
    rintro e w7 ⟨rfl, h7⟩
    have h7' := h7.symm
    subst h7'
    go_wp2_with fail
    go_ret
    exact ⟨by rw [HA.out]; rfl, BE.out⟩
end Go.Proofs.Ytaakiemmodncpaa.Bm
