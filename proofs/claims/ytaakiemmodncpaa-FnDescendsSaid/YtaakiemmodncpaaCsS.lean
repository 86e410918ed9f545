/- The cost of a point: the model. -/
import Derived.Test.YtaakiemmodncpaaCsI
namespace Go.Proofs.Ytaakiemmodncpaa.Cs
open Go.ChangeShapes Go.WideShapes Go.ChangeAt Go.RowKit
open Go.Proofs.Ytaakiemmodncpaa.Lists Go.Proofs.Ytaakiemmodncpaa.Al Go.Proofs.Ytaakiemmodncpaa.Su Go.Proofs.Ytaakiemmodncpaa.Po

theorem mul3_b {a b : Int} (ha : 1 ≤ a ∧ a ≤ 5) (hb : -30000500 ≤ b ∧ b ≤ 30000500) : -150002500 ≤ a * b ∧ a * b ≤ 150002500 := by
  have := mul_abs (A := 5) (B := 30000500) (a := a) (b := b) (by omega) hb
  omega

set_option maxHeartbeats 2000000 in
set_option maxRecDepth 20000 in
theorem scost_any (G T : List Int) (R : Rw.Ls) (X : List Int) (nn : Nat) (O : Ok nn G T R) (PX : Pt nn X) (vg vt vr vx : Value) (w : World) (hG : Lists.Reads w vg G) (hT : Lists.Reads w vt T) (hR : Rw.Reads w vr R) (hX : Lists.Reads w vx X) :
    Calls Try.prog 28 #[Pb.pv nn vg vt vr, vx] w fun e w' => e = .returned (.int .i64 (cost G T R X nn)) ∧ Below w.heap.size w w' := by
  have n1 := O.n1
  have n6 := O.n6
  have nG := O.nG
  have nT := O.nT
  obtain ⟨bg, og, cg, rfl, bgl, hcg⟩ := at_of hG (show G.length = nn by omega) (by omega)
  obtain ⟨bt, ot, ct', rfl, btl, hct⟩ := at_of hT (show T.length = nn by omega) (by omega)
  obtain ⟨bx, ox, cx, rfl, bxl, hcx⟩ := at_of hX PX.len (by omega)
  obtain ⟨br, or, hcr, hvr⟩ := rows_at hR
  obtain ⟨ar, ac, er⟩ := hR.form
  subst er
  obtain ⟨W, hW⟩ : ∃ W, W = w.alloc (Obj.cells #[.int .i64 (nn : Int), .slice (some ⟨bg, og, none⟩) nn cg, .slice (some ⟨bt, ot, none⟩) nn ct', .slice ar R.length ac] 32) := ⟨_, rfl⟩
  have HW : Hid (W = w.alloc (Obj.cells #[.int .i64 (nn : Int), .slice (some ⟨bg, og, none⟩) nn cg, .slice (some ⟨bt, ot, none⟩) nn ct', .slice ar R.length ac] 32)) := hW
  have B0 : Below w.heap.size w W := (by rw [hW]; exact (Below.refl _ _).alloc (Nat.le_refl _) _)
  have d0 : ∀ m, (W.drewN m).cell? ⟨w.heap.size, 0, none⟩ = some (.int .i64 (nn : Int)) := fun m => by show W.cell? _ = _; rw [hW]; simp [go_sem]
  have d1 : ∀ m, (W.drewN m).cell? ⟨w.heap.size, 1, none⟩ = some (.slice (some ⟨bg, og, none⟩) nn cg) := fun m => by show W.cell? _ = _; rw [hW]; simp [go_sem]
  have d2 : ∀ m, (W.drewN m).cell? ⟨w.heap.size, 2, none⟩ = some (.slice (some ⟨bt, ot, none⟩) nn ct') := fun m => by show W.cell? _ = _; rw [hW]; simp [go_sem]
  have d3 : ∀ m, (W.drewN m).cell? ⟨w.heap.size, 3, none⟩ = some (.slice ar R.length ac) := fun m => by show W.cell? _ = _; rw [hW]; simp [go_sem]
  have HCG : Hid (∀ i, i < nn → ∀ m, (W.drewN m).cell? ⟨bg, og + i, none⟩ = some (.int .i64 (G.getD i 0))) := fun i hi m => (B0.cell (p := ⟨bg, og + i, none⟩) bgl).trans (hcg i hi)
  have HCT : Hid (∀ i, i < nn → ∀ m, (W.drewN m).cell? ⟨bt, ot + i, none⟩ = some (.int .i64 (T.getD i 0))) := fun i hi m => (B0.cell (p := ⟨bt, ot + i, none⟩) btl).trans (hct i hi)
  have HCX : Hid (∀ i, i < nn → ∀ m, (W.drewN m).cell? ⟨bx, ox + i, none⟩ = some (.int .i64 (X.getD i 0))) := fun i hi m => (B0.cell (p := ⟨bx, ox + i, none⟩) bxl).trans (hcx i hi)
  have HCR : Hid (∀ k, k < R.length → (∀ m, (W.drewN m).cell? ⟨br, or + k * 3 + 1, none⟩ = some (.int .i64 (Rw.cz R k 1))) ∧ (∀ m, (W.drewN m).cell? ⟨br, or + k * 3 + 2, none⟩ = some (.int .i64 (Rw.cz R k 2))) ∧ ∃ bh oh ch, (∀ m, (W.drewN m).cell? ⟨br, or + k * 3, none⟩ = some (.slice (some ⟨bh, oh, none⟩) nn ch)) ∧ ∀ i, i < nn → ∀ m, (W.drewN m).cell? ⟨bh, oh + i, none⟩ = some (.int .i64 ((Rw.cl R k).getD i 0))) := fun k hk => by
    obtain ⟨h1, c, h2⟩ := hvr (by omega)
    obtain ⟨c1, c2, u, c0, ru⟩ := hcr k hk
    have e1 := O.nH k hk
    obtain ⟨bh, oh, ch, rfl, bhl, hch⟩ := at_of ru (show (Rw.cl R k).length = nn by omega) (by omega)
    exact ⟨fun m => (B0.cell (p := ⟨br, or + k * 3 + 1, none⟩) h1).trans c1, fun m => (B0.cell (p := ⟨br, or + k * 3 + 2, none⟩) h1).trans c2, bh, oh, ch, fun m => (B0.cell (p := ⟨br, or + k * 3, none⟩) h1).trans c0, fun i hi m => (B0.cell (p := ⟨bh, oh + i, none⟩) bhl).trans (hch i hi)⟩
  have HVR : Hid (0 < R.length → ar = some ⟨br, or, none⟩) := fun hi => by
    obtain ⟨h1, c, h2⟩ := hvr hi
    simp at h2
    exact h2.1
  have HO : Hid (Ok nn G T R) := O
  have HP : Hid (Pt nn X) := PX
  have HB : Hid (Below w.heap.size w W) := B0
  have HC : Hid (cost G T R X nn = ct G T X nn + cr R X nn R.length) := rfl
  have nR := O.nR
  obtain ⟨nr, hnr⟩ : ∃ nr, nr = R.length := ⟨_, rfl⟩
  have HN : Hid (nr = R.length) := hnr
  rw [← hnr] at HW d3 nR ⊢
  clear hG hT hR hX hW B0 hcg hct hcx hcr hvr O PX bgl btl bxl nG nT hnr
  go_enter Try.func28, Try.ntmps28
  go_wp2_with fail
  rw [← HW.out]
  go_loopw [5, 6] (fun s i wr => ∃ j : Nat, j ≤ nn ∧ i = .int .i64 j ∧ s = .int .i64 (ct G T X j) ∧ ∃ m, wr = W.drewN m) (fun _ i _ => nn - (intOf i).toNat)
  case atStart => exact ⟨0, Nat.zero_le _, rfl, rfl, 0, rfl⟩
  case round =>
    obtain ⟨j, hj, rfl, rfl, m, rfl⟩ := hrel
    by_cases hlt : j < nn
    · have O := HO.out
      have PX := HP.out
      have qg := HCG.out j hlt
      have qt := HCT.out j hlt
      have qx := HCX.out j hlt
      have i1 : (0 : Int) ≤ (j : Int) := by omega
      have i2 : (j : Int) < (nn : Int) := by omega
      have a := O.gb j (by have := O.nG; omega)
      have b := O.tb j (by have := O.nT; omega)
      have c := PX.b j hlt
      have x1 : -1000500 ≤ X.getD j 0 - G.getD j 0 ∧ X.getD j 0 - G.getD j 0 ≤ 1000500 := by omega
      have x2 := mul_abs (a := T.getD j 0) (b := X.getD j 0 - G.getD j 0) (A := 5) (B := 1000500) (by omega) x1
      have e := ctm_b O PX j hlt
      have s0 := ct_b O PX j (by omega)
      have E1 : Hid (ct G T X (j + 1) = ct G T X j + T.getD j 0 * (X.getD j 0 - G.getD j 0) * (X.getD j 0 - G.getD j 0)) := (by show _ = _; rw [Int.mul_assoc]; rfl)
      unfold ctm at e
      rw [← Int.mul_assoc] at e
      have w1 : IntKind.i64.wrap (X.getD j 0 - G.getD j 0) = X.getD j 0 - G.getD j 0 := IntWalk.i64_in _ (by omega)
      have w2 : IntKind.i64.wrap (T.getD j 0 * (X.getD j 0 - G.getD j 0)) = T.getD j 0 * (X.getD j 0 - G.getD j 0) := IntWalk.i64_in _ (by omega)
      have w3 : IntKind.i64.wrap (T.getD j 0 * (X.getD j 0 - G.getD j 0) * (X.getD j 0 - G.getD j 0)) = T.getD j 0 * (X.getD j 0 - G.getD j 0) * (X.getD j 0 - G.getD j 0) := IntWalk.i64_in _ (by omega)
      have w4 : IntKind.i64.wrap (ct G T X j + T.getD j 0 * (X.getD j 0 - G.getD j 0) * (X.getD j 0 - G.getD j 0)) = ct G T X j + T.getD j 0 * (X.getD j 0 - G.getD j 0) * (X.getD j 0 - G.getD j 0) := IntWalk.i64_in _ (by omega)
      clear O PX a b c x1 x2 e s0
      generalize ct G T X j = s at *
      generalize G.getD j 0 = g at *
      generalize T.getD j 0 = t at *
      generalize X.getD j 0 = x at *
      go_wp2_with fail
      go_quiet (fail)
      go_wp2_with fail
      go_roundw
      case rel => exact ⟨j + 1, by omega, by go_num, by rw [E1.out], m + nq, rfl⟩
      case measure => simp [intOf]; omega
    · have hjn : j = nn := by omega
      subst hjn
      go_wp2_with fail
      go_loopw [5, 7] (fun s i wr => ∃ k : Nat, k ≤ nr ∧ i = .int .i64 k ∧ s = .int .i64 (ct G T X j + cr R X j k) ∧ ∃ m, wr = W.drewN m) (fun _ i _ => nr - (intOf i).toNat)
      case atStart => exact ⟨0, Nat.zero_le _, rfl, by show _ = Value.int .i64 (ct G T X j + 0); rw [Int.add_zero], m, rfl⟩
      case round =>
        obtain ⟨k, hk, rfl, rfl, m', rfl⟩ := hrel
        by_cases hkt : k < nr
        · have hkl : k < R.length := by have := HN.out; omega
          have ha := HVR.out (by omega)
          subst ha
          obtain ⟨c1, c2, bh, oh, ch, c0, hch⟩ := HCR.out k hkl
          have HCH : Hid (∀ i, i < j → ∀ m, (W.drewN m).cell? ⟨bh, oh + i, none⟩ = some (.int .i64 ((Rw.cl R k).getD i 0))) := hch
          have i1 : (0 : Int) ≤ (k : Int) := by omega
          have i2 : (k : Int) < (nr : Int) := by omega
          have yb := HO.out.yb k hkl
          have wy : IntKind.i64.wrap (-(Rw.cz R k 1)) = -(Rw.cz R k 1) := IntWalk.i64_in _ (by omega)
          clear hch yb
          go_wp2_with fail
          go_loopw [8, 9] (fun d i wr => ∃ q : Nat, q ≤ j ∧ i = .int .i64 q ∧ d = .int .i64 (-(Rw.cz R k 1) + hx (Rw.cl R k) X q) ∧ ∃ m, wr = W.drewN m) (fun _ i _ => j - (intOf i).toNat)
          case atStart => exact ⟨0, Nat.zero_le _, rfl, by show _ = Value.int .i64 (-(Rw.cz R k 1) + 0); rw [Int.add_zero], m', rfl⟩
          case round =>
            obtain ⟨q, hq, rfl, rfl, m2, rfl⟩ := hrel
            by_cases hqt : q < j
            · have qh := HCH.out q hqt
              have qx := HCX.out q hqt
              have j1 : (0 : Int) ≤ (q : Int) := by omega
              have j2 : (q : Int) < (j : Int) := by omega
              have t0 := hx_b HO.out HP.out hkl q hqt
              have t1 := hxs_b HO.out HP.out hkl q (by omega)
              have t2 := HO.out.yb k hkl
              have E2 : Hid (-(Rw.cz R k 1) + hx (Rw.cl R k) X (q + 1) = -(Rw.cz R k 1) + hx (Rw.cl R k) X q + (Rw.cl R k).getD q 0 * X.getD q 0) := (by show _ = _; rw [Int.add_assoc]; rfl)
              have w1 : IntKind.i64.wrap ((Rw.cl R k).getD q 0 * X.getD q 0) = (Rw.cl R k).getD q 0 * X.getD q 0 := IntWalk.i64_in _ (by omega)
              have w2 : IntKind.i64.wrap (-(Rw.cz R k 1) + hx (Rw.cl R k) X q + (Rw.cl R k).getD q 0 * X.getD q 0) = -(Rw.cz R k 1) + hx (Rw.cl R k) X q + (Rw.cl R k).getD q 0 * X.getD q 0 := IntWalk.i64_in _ (by omega)
              clear t0 t1 t2
              generalize -(Rw.cz R k 1) + hx (Rw.cl R k) X q = s at *
              generalize (Rw.cl R k).getD q 0 = p at *
              generalize X.getD q 0 = x at *
              go_wp2_with fail
              go_quiet (fail)
              go_wp2_with fail
              go_roundw
              case rel => exact ⟨q + 1, by omega, by go_num, by rw [E2.out], m2 + nq, rfl⟩
              case measure => simp [intOf]; omega
            · have hqj : q = j := by omega
              subst hqj
              have ed : -(Rw.cz R k 1) + hx (Rw.cl R k) X q = dev R X q k := by unfold dev; omega
              have t1 := dev_b HO.out HP.out hkl
              have t2 := HO.out.wb k hkl
              have t3 := mul3_b t2 t1
              have t4 := crm_b HO.out HP.out hkl
              have t5 := ct_b HO.out HP.out q (Nat.le_refl _)
              have t6 := cr_b HO.out HP.out k (by omega)
              have E3 : Hid (ct G T X q + cr R X q (k + 1) = ct G T X q + cr R X q k + Rw.cz R k 2 * dev R X q k * dev R X q k) := (by show _ = _; rw [Int.mul_assoc, Int.add_assoc]; rfl)
              unfold crm at t4
              rw [← Int.mul_assoc] at t4
              have w1 : IntKind.i64.wrap (Rw.cz R k 2 * dev R X q k) = Rw.cz R k 2 * dev R X q k := IntWalk.i64_in _ (by omega)
              have w2 : IntKind.i64.wrap (Rw.cz R k 2 * dev R X q k * dev R X q k) = Rw.cz R k 2 * dev R X q k * dev R X q k := IntWalk.i64_in _ (by omega)
              have w3 : IntKind.i64.wrap (ct G T X q + cr R X q k + Rw.cz R k 2 * dev R X q k * dev R X q k) = ct G T X q + cr R X q k + Rw.cz R k 2 * dev R X q k * dev R X q k := IntWalk.i64_in _ (by omega)
              rw [ed]
              clear ed t1 t2 t3 t4 t5 t6 wy
              generalize ct G T X q + cr R X q k = s at *
              generalize dev R X q k = d at *
              generalize Rw.cz R k 2 = wt at *
              go_wp2_with fail
              go_roundw
              case rel => exact ⟨k + 1, by omega, by go_num, by rw [E3.out], _, rfl⟩
              case measure => simp [intOf]; omega
        · have hkr : k = R.length := by have := HN.out; omega
          have E4 : Hid (ct G T X j + cr R X j k = cost G T R X j) := (by show _ = _; rw [HC.out, hkr])
          rw [E4.out]
          generalize hZ : cost G T R X j = Z at *
          have HZ : Hid (cost G T R X j = Z) := hZ
          clear hkr hZ
          go_wp2_with fail
          go_ret
          exact ⟨by rw [HZ.out]; rfl, below_drewN HB.out _⟩
end Go.Proofs.Ytaakiemmodncpaa.Cs
