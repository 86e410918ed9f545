/- The best move: the model. -/
import Derived.Test.YtaakiemmodncpaaDp
namespace Go.Proofs.Ytaakiemmodncpaa.Bt
open Go.ChangeShapes Go.WideShapes Go.ChangeAt Go.RowKit
open Go.Proofs.Ytaakiemmodncpaa.Lists Go.Proofs.Ytaakiemmodncpaa.Al Go.Proofs.Ytaakiemmodncpaa.Su Go.Proofs.Ytaakiemmodncpaa.Po Go.Proofs.Ytaakiemmodncpaa.Cs Go.Proofs.Ytaakiemmodncpaa.Cf Go.Proofs.Ytaakiemmodncpaa.Dp

/-- what the search by halves keeps -/
def Sea (f t step : Int) : Prop := (∃ j : Nat, j ≤ 17 ∧ step = 2 ^ j ∧ t ≤ f ∧ f ≤ t + 2 * 2 ^ j - 1) ∨ (step = 0 ∧ f = t)
theorem sea_start {f : Int} (h0 : 0 ≤ f) (h : f ≤ 200001) : Sea f 0 131072 := .inl ⟨17, Nat.le_refl _, by decide, h0, by omega⟩
theorem sea_pos {f t step : Int} (h : Sea f t step) (hs : 0 < step) : 1 ≤ step ∧ step ≤ 131072 := by
  rcases h with ⟨j, hj, rfl, _, _⟩ | ⟨rfl, _⟩
  · have h1 : (2 : Int) ^ j ≤ 2 ^ 17 := by have := Nat.pow_le_pow_right (n := 2) (by decide) hj; exact_mod_cast this
    omega
  · omega
theorem sea_end {f t step : Int} (h : Sea f t step) (hs : ¬ 0 < step) : f = t := by
  rcases h with ⟨j, hj, rfl, _, _⟩ | ⟨_, h⟩
  · exact absurd (Int.pow_pos (by omega)) hs
  · exact h
theorem sea_half {f t step : Int} (h : Sea f t step) (hs : 0 < step) : (t + step ≤ f → Sea f (t + step) (step / 2)) ∧ (¬ t + step ≤ f → Sea f t (step / 2)) := by
  rcases h with ⟨j, hj, rfl, h0, h⟩ | ⟨rfl, _⟩
  · cases j with
    | zero =>
      have e : (2 : Int) ^ 0 / 2 = 0 := by decide
      have e1 : (2 : Int) ^ 0 = 1 := by decide
      rw [e, e1] at *
      exact ⟨fun h1 => .inr ⟨rfl, by omega⟩, fun h1 => .inr ⟨rfl, by omega⟩⟩
    | succ j =>
      have e : (2 : Int) ^ (j + 1) = 2 * 2 ^ j := by rw [Int.pow_succ, Int.mul_comm]
      have e2 : (2 : Int) ^ (j + 1) / 2 = 2 ^ j := by rw [e]; omega
      rw [e2]
      rw [e] at h ⊢
      exact ⟨fun h1 => .inl ⟨j, by omega, rfl, by omega, by omega⟩, fun h1 => .inl ⟨j, by omega, rfl, by omega, by omega⟩⟩
  · omega

/-- best and least behind the sides -/
def Bst (f1 f2 : Int) : Nat → Int
  | 0 => 0
  | 1 => f1
  | _ => if 1 ≤ f1 then f1 else -f2

set_option maxHeartbeats 2000000 in
set_option maxRecDepth 20000 in
theorem sbest_any (G T : List Int) (R : Rw.Ls) (X : List Int) (nn i : Nat) (O : Ok nn G T R) (WX : Dp.Way nn G T R X) (hi : i < nn) (vg vt vr vx : Value) (w : World) (hG : Lists.Reads w vg G) (hT : Lists.Reads w vt T) (hR : Rw.Reads w vr R) (hX : Lists.Reads w vx X) :
    Calls Try.prog 27 #[Pb.pv nn vg vt vr, vx, .int .i64 (i : Int)] w fun e w' => e = .returned (.int .i64 (bs G T R X nn i)) ∧ Below w.heap.size w w' := by
  have n6 : nn ≤ 6 := by have := O.n6; omega
  have hX0 := hX
  obtain ⟨bx, ox, cx, rfl, bxl, hcx⟩ := at_of hX WX.len (by omega)
  obtain ⟨W, hW⟩ : ∃ W, W = w.alloc (Obj.cells #[.int .i64 (nn : Int), vg, vt, vr] 32) := ⟨_, rfl⟩
  have HW : Hid (W = w.alloc (Obj.cells #[.int .i64 (nn : Int), vg, vt, vr] 32)) := hW
  have B0 : Below w.heap.size w W := (by rw [hW]; exact (Below.refl _ _).alloc (Nat.le_refl _) _)
  have zW : W.heap.size = w.heap.size + 1 := by rw [hW]; simp
  have K0 : Pb.Box W w.heap.size (.int .i64 (nn : Int)) vg vt vr := by rw [hW]; unfold Pb.Box; simp [go_sem]
  have hb := bd_pos O hi
  have e1 : bs G T R X nn i = bst (bd T R i) (sl G T R X nn i) := rfl
  have e2 := bst_far (bd T R i) (sl G T R X nn i) hb
  have f1b := WX.far_le O hi (σ := 1) (.inl rfl)
  have f2b := WX.far_le O hi (σ := -1) (.inr rfl)
  have f1n := far_nn (b := bd T R i) (s := sl G T R X nn i) (σ := 1) hb
  have f2n := far_nn (b := bd T R i) (s := sl G T R X nn i) (σ := -1) hb
  have HF : Hid (∀ σ t : Int, (σ = 1 ∨ σ = -1) → 1 ≤ t → (cost G T R (mv X i (σ * t)) nn < cost G T R (mv X i (σ * t - σ)) nn ↔ t ≤ far (bd T R i) (sl G T R X nn i) σ)) := fun σ t hσ ht => by
    rw [cost_mv WX.len hi, cost_mv WX.len hi, ← fall_iff hb ht hσ]
    constructor <;> intro h <;> omega
  have HZ : Hid (cost G T R (mv X i 0) nn = cost G T R X nn) := (by show _ = _; rw [mv_zero' WX.len hi])
  have HL : Hid (∀ σ : Int, (σ = 1 ∨ σ = -1) → 1 ≤ far (bd T R i) (sl G T R X nn i) σ → cost G T R (mv X i (σ * far (bd T R i) (sl G T R X nn i) σ)) nn < cost G T R X nn) := fun σ hσ hf => by
    have a := far_low hb hσ hf
    rw [cost_mv WX.len hi]
    have := Int.mul_nonneg (show (0 : Int) ≤ bd T R i by omega) (Int.mul_nonneg (show (0 : Int) ≤ far (bd T R i) (sl G T R X nn i) σ by omega) (show (0 : Int) ≤ far (bd T R i) (sl G T R X nn i) σ - 1 by omega))
    omega
  have HO1 : Hid (1 ≤ far (bd T R i) (sl G T R X nn i) 1 → far (bd T R i) (sl G T R X nn i) (-1) = 0) := far_one
  have MM : Hid (∀ w', Below W.heap.size W w' → ∀ u : Int, -700000 ≤ u → u ≤ 700000 → Calls Try.prog 44 #[.slice (some ⟨bx, ox, none⟩) nn cx, .int .i64 (i : Int), .int .i64 u] w' fun e w'' => ∃ v', e = .returned v' ∧ Lists.Reads w'' v' (mv X i u) ∧ Below w'.heap.size w' w'') := fun w' hb u u1 u2 => by
    have hb2 : Below w.heap.size w w' := B0.trans (hb.mono (by omega))
    refine (moved_any w' bx ox nn cx i u X WX.len (by omega) (Nat.lt_of_lt_of_le bxl hb2.size) (fun j hj => (hb2.cell (p := ⟨bx, ox + j, none⟩) bxl).trans (hcx j hj)) hi (IntWalk.i64_in _ (by have := WX.near O i hi; omega))).mono ?_
    rintro e w'' ⟨v', rfl, h1, h2⟩
    have e1 : (mv X i u).length = nn := (mv_len X i u).trans WX.len
    rw [← e1] at h1
    exact ⟨v', rfl, Lists.reads_row h1, h2⟩
  have CC : Hid (∀ w', Below W.heap.size W w' → ∀ u : Int, -700000 ≤ u → u ≤ 700000 → ∀ vy, Lists.Reads w' vy (mv X i u) → Calls Try.prog 28 #[Pb.pv nn vg vt vr, vy] w' fun e w'' => e = .returned (.int .i64 (cost G T R (mv X i u) nn)) ∧ Below w'.heap.size w' w'') := fun w' hb u u1 u2 vy hy => by
    have hb2 : Below w.heap.size w w' := B0.trans (hb.mono (by omega))
    exact scost_any G T R (mv X i u) nn O (WX.ptm O hi ⟨u1, u2⟩) vg vt vr vy w' (hG.on hb2) (hT.on hb2) (hR.on hb2) hy
  have C0 : Hid (Calls Try.prog 28 #[Pb.pv nn vg vt vr, .slice (some ⟨bx, ox, none⟩) nn cx] W fun e w'' => e = .returned (.int .i64 (cost G T R X nn)) ∧ Below W.heap.size W w'') := scost_any G T R X nn O (WX.pt O) vg vt vr _ W (hG.on B0) (hT.on B0) (hR.on B0) (hX0.on B0)
  obtain ⟨ag, kg, rfl⟩ := hG.form
  obtain ⟨at', kt, rfl⟩ := hT.form
  obtain ⟨ar, kr, rfl⟩ := hR.form
  have HK : Hid (∀ w', Below W.heap.size W w' → Pb.Box w' w.heap.size (.int .i64 (nn : Int)) (.slice ag G.length kg) (.slice at' T.length kt) (.slice ar R.length kr)) := fun w' hb => K0.on hb (by omega)
  have HB : Hid (∀ w', Below W.heap.size W w' → Below w.heap.size w w') := fun w' hb => B0.trans (hb.mono (by omega))
  obtain ⟨F, hF⟩ : ∃ F : Int → Int, F = fun u => cost G T R (mv X i u) nn := ⟨_, rfl⟩
  have HFe : ∀ u, cost G T R (mv X i u) nn = F u := fun u => by rw [hF]
  simp only [HFe] at HF HZ HL CC
  have HY : Hid (∀ u, Lists.Reads w (.slice none 0 0) [] → mv X i u = mv X i u) := fun _ _ => rfl
  rw [e1, e2]
  clear e1 e2 hb hX hX0 hG hT hR hW B0 K0 hcx bxl O WX n6 hF HFe HY
  generalize cost G T R X nn = c0 at *
  generalize hf1 : far (bd T R i) (sl G T R X nn i) 1 = f1 at *
  generalize hf2 : far (bd T R i) (sl G T R X nn i) (-1) = f2 at *
  have HF1 : Hid (∀ t : Int, 1 ≤ t → (F t < F (t - 1) ↔ t ≤ f1)) := fun t ht => by have := HF.out 1 t (.inl rfl) ht; rw [hf1] at this; simpa using this
  have HF2 : Hid (∀ t : Int, 1 ≤ t → (F (-t) < F (-t + 1) ↔ t ≤ f2)) := fun t ht => by have := HF.out (-1) t (.inr rfl) ht; rw [hf2] at this; simpa using this
  have HL1 : Hid (1 ≤ f1 → F f1 < c0) := fun h => by have := HL.out 1 (.inl rfl) (by rw [hf1]; exact h); rw [hf1] at this; simpa using this
  have HL2 : Hid (1 ≤ f2 → F (-f2) < c0) := fun h => by have := HL.out (-1) (.inr rfl) (by rw [hf2]; exact h); rw [hf2] at this; simpa using this
  clear HF HL hf1 hf2
  obtain ⟨ans, hans⟩ : ∃ ans, (if 1 ≤ f1 then f1 else -f2) = ans := ⟨_, rfl⟩
  have HANS : Hid (Bst f1 f2 2 = ans) := hans
  rw [hans]
  clear hans
  generalize G.length = lg at *
  generalize T.length = lt at *
  generalize R.length = lr at *
  obtain ⟨Y, hY⟩ : ∃ Y : Int → List Int, Y = fun u => mv X i u := ⟨_, rfl⟩
  have HYe : ∀ u, mv X i u = Y u := fun u => by rw [hY]
  simp only [HYe] at MM CC
  clear hY HYe
  -- the rounds of the two sides are alike
  have R0 : Hid (Below W.heap.size W W) := Below.refl _ _
  have LS : Hid (w.heap.size < W.heap.size) := (by show _ < _; omega)
  obtain ⟨k0, k1, k2, k3⟩ := HK.out W R0.out
  go_enter Try.func27, Try.ntmps27
  go_wp2_with fail
  rw [← HW.out]
  refine (Calls.mono C0.out) ?_
  rintro e w1 ⟨rfl, hb1⟩
  have B1 : Hid (Below W.heap.size W w1) := hb1
  clear hb1 k0 k1 k2 k3 C0
  go_wp2_with fail
  go_loopw [7, 8, 9] (fun best least side wr => ∃ q : Nat, q ≤ 2 ∧ side = .int .i64 (1 - 2 * (q : Int)) ∧ best = .int .i64 (Bst f1 f2 q) ∧ (∃ z : Int, least = .int .i64 z ∧ Hid ((q = 0 → z = c0) ∧ (q = 1 → z = F f1))) ∧ Hid (Below W.heap.size W wr)) (fun _ _ side _ => (intOf side + 3).toNat)
  case atStart => exact ⟨0, by omega, rfl, rfl, ⟨_, rfl, fun _ => rfl, fun h => by omega⟩, B1⟩
  case round =>
    obtain ⟨q, hq, rfl, rfl, ⟨z, rfl, HZq⟩, BR⟩ := hrel
    by_cases hq2 : q < 2
    · obtain ⟨σ, hσ⟩ : ∃ σ : Int, 1 - 2 * (q : Int) = σ := ⟨_, rfl⟩
      have sg : σ = 1 ∨ σ = -1 := by omega
      obtain ⟨f, hf⟩ : ∃ f : Int, f = if σ = 1 then f1 else f2 := ⟨_, rfl⟩
      have fb : 0 ≤ f ∧ f ≤ 200001 := by rw [hf]; split <;> omega
      have HFσ : Hid (∀ t : Int, 1 ≤ t → (F (σ * t) < F (σ * t - σ) ↔ t ≤ f)) := fun t ht => by
        rcases sg with rfl | rfl
        · rw [hf, if_pos rfl]; simpa using HF1.out t ht
        · rw [hf, if_neg (by decide)]; simpa using HF2.out t ht
      have HQ : Hid (1 - 2 * (q : Int) = σ) := hσ
      have HFF : Hid (f = if σ = 1 then f1 else f2) := hf
      have s1 : -1 ≤ σ := by omega
      obtain ⟨fb0, fb1⟩ := fb
      obtain ⟨bb, hbb⟩ : ∃ bb, Bst f1 f2 q = bb := ⟨_, rfl⟩
      have HBB : Hid (Bst f1 f2 q = bb) := hbb
      rw [hσ, hbb]
      clear hσ hbb hf
      go_wp2_with fail
      go_loopw [10, 11] (fun t step wr => ∃ tt ss : Int, t = .int .i64 tt ∧ step = .int .i64 ss ∧ 0 ≤ tt ∧ tt ≤ 200001 ∧ 0 ≤ ss ∧ Hid (Sea f tt ss) ∧ Hid (Below W.heap.size W wr)) (fun _ step _ => (intOf step).toNat)
      case atStart => exact ⟨0, 131072, rfl, rfl, by omega, by omega, by omega, sea_start fb0 fb1, BR⟩
      case round =>
        obtain ⟨tt, ss, rfl, rfl, t0, t1, ss0, SE, BQ⟩ := hrel
        by_cases hs : 0 < ss
        · obtain ⟨sb0, sb1⟩ := sea_pos SE.out hs
          have g1 := (sea_half SE.out hs).1
          have g2 := (sea_half SE.out hs).2
          have gu := HFσ.out (tt + ss) (by omega)
          have G1 : Hid (F (σ * (tt + ss)) < F (σ * (tt + ss) - σ) → tt + ss ≤ 200001 ∧ Sea f (tt + ss) (ss / 2)) := fun h => ⟨by have := gu.1 h; omega, g1 (gu.1 h)⟩
          have G2 : Hid (¬ F (σ * (tt + ss)) < F (σ * (tt + ss) - σ) → Sea f tt (ss / 2)) := fun h => g2 (fun x => h (gu.2 x))
          have ub : -400000 ≤ σ * (tt + ss) ∧ σ * (tt + ss) ≤ 400000 := by rcases sg with rfl | rfl <;> omega
          obtain ⟨ub0, ub1⟩ := ub
          have w1 : IntKind.i64.wrap (tt + ss) = tt + ss := IntWalk.i64_in _ (by omega)
          have w2 : IntKind.i64.wrap (σ * (tt + ss)) = σ * (tt + ss) := IntWalk.i64_in _ (by omega)
          have w3 : IntKind.i64.wrap (σ * (tt + ss) - σ) = σ * (tt + ss) - σ := IntWalk.i64_in _ (by rcases sg with rfl | rfl <;> omega)
          have w4 : ss.tdiv 2 = ss / 2 := Int.tdiv_eq_ediv_of_nonneg (by omega)
          have w5 : IntKind.i64.wrap (ss / 2) = ss / 2 := IntWalk.i64_in _ (by omega)
          have BD : Hid (Below W.heap.size W wr.drew) := below_drewN BQ.out 1
          have ub2 : -700000 ≤ σ * (tt + ss) - σ ∧ σ * (tt + ss) - σ ≤ 700000 := by rcases sg with rfl | rfl <;> omega
          have M1 : Hid (∀ w', Below W.heap.size W w' → Calls Try.prog 44 #[.slice (some ⟨bx, ox, none⟩) nn cx, .int .i64 (i : Int), .int .i64 (σ * (tt + ss))] w' fun e w'' => ∃ v', e = .returned v' ∧ Lists.Reads w'' v' (Y (σ * (tt + ss))) ∧ Below w'.heap.size w' w'') := fun w' hb => MM.out w' hb _ (by omega) (by omega)
          have M2 : Hid (∀ w', Below W.heap.size W w' → Calls Try.prog 44 #[.slice (some ⟨bx, ox, none⟩) nn cx, .int .i64 (i : Int), .int .i64 (σ * (tt + ss) - σ)] w' fun e w'' => ∃ v', e = .returned v' ∧ Lists.Reads w'' v' (Y (σ * (tt + ss) - σ)) ∧ Below w'.heap.size w' w'') := fun w' hb => MM.out w' hb _ ub2.1 ub2.2
          have N1 : Hid (∀ w', Below W.heap.size W w' → ∀ vy, Lists.Reads w' vy (Y (σ * (tt + ss))) → Calls Try.prog 28 #[Pb.pv nn (.slice ag lg kg) (.slice at' lt kt) (.slice ar lr kr), vy] w' fun e w'' => e = .returned (.int .i64 (F (σ * (tt + ss)))) ∧ Below w'.heap.size w' w'') := fun w' hb vy hy => CC.out w' hb _ (by omega) (by omega) vy hy
          have N2 : Hid (∀ w', Below W.heap.size W w' → ∀ vy, Lists.Reads w' vy (Y (σ * (tt + ss) - σ)) → Calls Try.prog 28 #[Pb.pv nn (.slice ag lg kg) (.slice at' lt kt) (.slice ar lr kr), vy] w' fun e w'' => e = .returned (.int .i64 (F (σ * (tt + ss) - σ))) ∧ Below w'.heap.size w' w'') := fun w' hb vy hy => CC.out w' hb _ ub2.1 ub2.2 vy hy
          have HKq : Hid (∀ w', Below W.heap.size W w' → Pb.Box w' w.heap.size (.int .i64 (nn : Int)) (.slice ag lg kg) (.slice at' lt kt) (.slice ar lr kr)) := HK
          obtain ⟨k0, k1, k2, k3⟩ := HK.out wr BQ.out
          clear g1 g2 gu ub2
          generalize hF1 : F (σ * (tt + ss)) = Fa at *
          generalize hF2 : F (σ * (tt + ss) - σ) = Fb at *
          generalize hY1 : Y (σ * (tt + ss)) = Ya at *
          generalize hY2 : Y (σ * (tt + ss) - σ) = Yb at *
          clear hF1 hF2 hY1 hY2
          go_wp2_with fail
          go_region_held3 (fun w' => w'.cell? ⟨w.heap.size, 0, none⟩ = some (.int .i64 (nn : Int)) ∧ w'.cell? ⟨w.heap.size, 1, none⟩ = some (.slice ag lg kg) ∧ w'.cell? ⟨w.heap.size, 2, none⟩ = some (.slice at' lt kt) ∧ w'.cell? ⟨w.heap.size, 3, none⟩ = some (.slice ar lr kr)) (go_keep)
            (first
            | (go_at_call 44; (with_reducible refine (Calls.mono (M1.out _ BD.out) ?_)); rintro e w5 ⟨v5, rfl, r5, b5⟩; have R5 : Hid (Lists.Reads w5 v5 Ya) := r5; have B5 : Hid (Below W.heap.size W w5) := BD.out.trans (b5.mono BD.out.size); have K5 := HKq.out w5 B5.out; clear b5 r5; obtain ⟨a0, a1, a2, a3⟩ := K5)
            | (go_at_call 28; (with_reducible refine (Calls.mono (N1.out _ B5.out _ R5.out) ?_)); rintro e w6 ⟨rfl, b6⟩; have B6 : Hid (Below W.heap.size W w6) := B5.out.trans (b6.mono B5.out.size); have K6 := HKq.out w6 B6.out; clear b6; obtain ⟨c0', c1', c2', c3'⟩ := K6)
            | (go_at_call 44; (with_reducible refine (Calls.mono (M2.out _ B6.out) ?_)); rintro e w7 ⟨v7, rfl, r7, b7⟩; have R7 : Hid (Lists.Reads w7 v7 Yb) := r7; have B7 : Hid (Below W.heap.size W w7) := B6.out.trans (b7.mono B6.out.size); have K7 := HKq.out w7 B7.out; clear b7 r7; obtain ⟨e0, e1, e2, e3⟩ := K7)
            | (go_at_call 28; (with_reducible refine (Calls.mono (N2.out _ B7.out _ R7.out) ?_)); rintro e w8 ⟨rfl, b8⟩; have B8 : Hid (Below W.heap.size W w8) := B7.out.trans (b8.mono B7.out.size); have K8 := HKq.out w8 B8.out; clear b8; obtain ⟨h0', h1', h2', h3'⟩ := K8))
          by_cases hlt : Fa < Fb
          · have G3 := G1.out hlt
            obtain ⟨g3, g4⟩ := G3
            have G4 : Hid (Sea f (tt + ss) (ss / 2)) := g4
            clear g4
            go_wp2_with fail
            go_roundw
            case rel => exact ⟨tt + ss, ss / 2, rfl, rfl, by omega, g3, by omega, G4, B8⟩
            case measure => simp [intOf]; omega
          · have G4 : Hid (Sea f tt (ss / 2)) := G2.out (Int.not_lt.1 hlt)
            go_wp2_with fail
            go_roundw
            case rel => exact ⟨tt, ss / 2, rfl, rfl, by omega, t1, by omega, G4, B8⟩
            case measure => simp [intOf]; omega
        · have ee := sea_end SE.out hs
          have EE : Hid (f = tt) := ee
          have ub : -400000 ≤ σ * tt ∧ σ * tt ≤ 400000 := by rcases sg with rfl | rfl <;> omega
          obtain ⟨ub0, ub1⟩ := ub
          have w2 : IntKind.i64.wrap (σ * tt) = σ * tt := IntWalk.i64_in _ (by omega)
          have w3 : IntKind.i64.wrap (σ - 2) = σ - 2 := IntWalk.i64_in _ (by omega)
          have BD : Hid (Below W.heap.size W wr.drew) := below_drewN BQ.out 1
          have M1 : Hid (∀ w', Below W.heap.size W w' → Calls Try.prog 44 #[.slice (some ⟨bx, ox, none⟩) nn cx, .int .i64 (i : Int), .int .i64 (σ * tt)] w' fun e w'' => ∃ v', e = .returned v' ∧ Lists.Reads w'' v' (Y (σ * tt)) ∧ Below w'.heap.size w' w'') := fun w' hb => MM.out w' hb _ (by omega) (by omega)
          have N1 : Hid (∀ w', Below W.heap.size W w' → ∀ vy, Lists.Reads w' vy (Y (σ * tt)) → Calls Try.prog 28 #[Pb.pv nn (.slice ag lg kg) (.slice at' lt kt) (.slice ar lr kr), vy] w' fun e w'' => e = .returned (.int .i64 (F (σ * tt))) ∧ Below w'.heap.size w' w'') := fun w' hb vy hy => CC.out w' hb _ (by omega) (by omega) vy hy
          have HKq : Hid (∀ w', Below W.heap.size W w' → Pb.Box w' w.heap.size (.int .i64 (nn : Int)) (.slice ag lg kg) (.slice at' lt kt) (.slice ar lr kr)) := HK
          obtain ⟨k0, k1, k2, k3⟩ := HK.out wr BQ.out
          have NX : Hid ((F (σ * tt) < z → Bst f1 f2 (q + 1) = σ * tt ∧ (q + 1 = 0 → F (σ * tt) = c0) ∧ (q + 1 = 1 → F (σ * tt) = F f1)) ∧ (¬ F (σ * tt) < z → Bst f1 f2 (q + 1) = bb ∧ (q + 1 = 0 → z = c0) ∧ (q + 1 = 1 → z = F f1))) := (by
            show _ ∧ _
            have a1 := HQ.out
            have a2 := HFF.out
            have a3 := HBB.out
            have a4 := HZq.out
            have a5 := HZ.out
            have a6 := HL1.out
            have a7 := HL2.out
            have a8 := HO1.out
            have b1 : f = tt := ee
            rcases (show q = 0 ∨ q = 1 by omega) with rfl | rfl
            · have hs1 : σ = 1 := by omega
              subst hs1
              rw [if_pos rfl] at a2
              have b2 : 1 * tt = f1 := by omega
              have b3 := a4.1 rfl
              have b4 : bb = 0 := by rw [← a3]; rfl
              have b5 : Bst f1 f2 (0 + 1) = f1 := rfl
              rw [b2, b5]
              refine ⟨fun h => ⟨rfl, fun h => by omega, fun _ => rfl⟩, fun h => ?_⟩
              by_cases h1 : 1 ≤ f1
              · exact absurd (a6 h1) (by rw [← b3]; exact h)
              · have h0 : f1 = 0 := by omega
                exact ⟨by rw [h0, b4], fun h => by omega, fun _ => by rw [h0, a5, b3]⟩
            · have hs1 : σ = -1 := by omega
              subst hs1
              rw [if_neg (by decide)] at a2
              have b2 : -1 * tt = -f2 := by omega
              have b3 := a4.2 rfl
              have b4 : bb = f1 := by rw [← a3]; rfl
              have b5 : Bst f1 f2 (1 + 1) = if 1 ≤ f1 then f1 else -f2 := rfl
              rw [b2, b5, b4]
              by_cases h1 : 1 ≤ f1
              · rw [if_pos h1]
                have h2 := a8 h1
                have h3 := a6 h1
                refine ⟨fun h => ?_, fun h => ⟨rfl, fun h => by omega, fun h => by omega⟩⟩
                rw [h2] at h
                have h4 : F (-0) = c0 := a5
                rw [h4] at h
                omega
              · rw [if_neg h1]
                have h0 : f1 = 0 := by omega
                refine ⟨fun h => ⟨rfl, fun h => by omega, fun h => by omega⟩, fun h => ⟨?_, fun h => by omega, fun h => by omega⟩⟩
                by_cases h5 : 1 ≤ f2
                · have := a7 h5
                  rw [h0, a5] at b3
                  omega
                · omega)
          have q1 : 1 - 2 * ((q + 1 : Nat) : Int) = σ - 2 := by have := HQ.out; omega
          clear ee
          generalize hF1 : F (σ * tt) = Fa at *
          generalize hY1 : Y (σ * tt) = Ya at *
          clear hF1 hY1
          go_wp2_with fail
          go_region_held3 (fun w' => w'.cell? ⟨w.heap.size, 0, none⟩ = some (.int .i64 (nn : Int)) ∧ w'.cell? ⟨w.heap.size, 1, none⟩ = some (.slice ag lg kg) ∧ w'.cell? ⟨w.heap.size, 2, none⟩ = some (.slice at' lt kt) ∧ w'.cell? ⟨w.heap.size, 3, none⟩ = some (.slice ar lr kr)) (go_keep)
            (first
            | (go_at_call 44; (with_reducible refine (Calls.mono (M1.out _ BD.out) ?_)); rintro e w5 ⟨v5, rfl, r5, b5⟩; have R5 : Hid (Lists.Reads w5 v5 Ya) := r5; have B5 : Hid (Below W.heap.size W w5) := BD.out.trans (b5.mono BD.out.size); have K5 := HKq.out w5 B5.out; clear b5 r5; obtain ⟨a0, a1, a2, a3⟩ := K5)
            | (go_at_call 28; (with_reducible refine (Calls.mono (N1.out _ B5.out _ R5.out) ?_)); rintro e w6 ⟨rfl, b6⟩; have B6 : Hid (Below W.heap.size W w6) := B5.out.trans (b6.mono B5.out.size); have K6 := HKq.out w6 B6.out; clear b6; obtain ⟨c0', c1', c2', c3'⟩ := K6))
          by_cases hlt : Fa < z
          · have N := NX.out.1 hlt
            obtain ⟨n1, n2⟩ := N
            have NN : Hid (Bst f1 f2 (q + 1) = σ * tt) := n1
            have N2 : Hid ((q + 1 = 0 → Fa = c0) ∧ (q + 1 = 1 → Fa = F f1)) := n2
            clear n1 n2
            go_wp2_with fail
            go_roundw
            case rel => exact ⟨q + 1, by omega, by rw [q1], by rw [NN.out], ⟨_, rfl, N2⟩, B6⟩
            case measure => simp [intOf]; omega
          · have N := NX.out.2 (Int.not_lt.1 hlt)
            obtain ⟨n1, n2⟩ := N
            have NN : Hid (Bst f1 f2 (q + 1) = bb) := n1
            have N2 : Hid ((q + 1 = 0 → z = c0) ∧ (q + 1 = 1 → z = F f1)) := n2
            clear n1 n2
            go_wp2_with fail
            go_roundw
            case rel => exact ⟨q + 1, by omega, by rw [q1], by rw [NN.out], ⟨_, rfl, N2⟩, B6⟩
            case measure => simp [intOf]; omega
    · have hq' : q = 2 := by omega
      subst hq'
      have BE : Hid (Below w.heap.size w wr) := HB.out wr BR.out
      have qn : ¬ (-1 : Int) ≤ 1 - 2 * ((2 : Nat) : Int) := by omega
      rw [HANS.out]
      go_wp2_with fail
      go_ret
      exact ⟨rfl, BE.out⟩
end Go.Proofs.Ytaakiemmodncpaa.Bt
