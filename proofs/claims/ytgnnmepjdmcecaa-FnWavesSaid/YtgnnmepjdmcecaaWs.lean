/- Waves: sums; the model. -/
import Derived.Test.YtgnnmepjdmcecaaWp
import Derived.Deep.RegionWith
import Derived.Deep.RegionHeld3
import Derived.Deep.DrawnRows
import Derived.Deep.Cut
import Derived.Deep.DeepCutAuto
import Derived.Deep.DeepMust
import Derived.Maps.AppendAt
namespace Go.Proofs.Ytgnnmepjdmcecaa.Wv
open Go.ChangeShapes Go.WideShapes Go.ChangeAt Go.RowKit
open Go.Proofs.Ytgnnmepjdmcecaa.Flt Go.Proofs.Ytgnnmepjdmcecaa.Wa Go.Proofs.Ytgnnmepjdmcecaa.Pr Go.Proofs.Ytgnnmepjdmcecaa.Wl Go.Proofs.Ytgnnmepjdmcecaa.Lg

attribute [local go_sem] Flt.run_store_float
attribute [local go_sem ↓] Go.wp_at_zero Go.wp_at_succ
theorem one_two (a b : Nat) : ∀ u ∈ [Value.float .f64 a, Value.float .f64 b], u.oneCell' = true := by intro u hu; simp at hu; rcases hu with rfl | rfl <;> rfl
theorem keepE {W w' : World} {g b j : Nat} {a c z y : Value} (hb : Below W.heap.size W w') (hg : g < W.heap.size) (hbb : b < W.heap.size) (h0 : W.cell? ⟨g, 0, none⟩ = some a) (h1 : W.cell? ⟨g, 1, none⟩ = some c) (f0 : W.frozen? ⟨g, 0, none⟩ = false) (f1 : W.frozen? ⟨g, 1, none⟩ = false) (h2 : W.cell? ⟨b, j, none⟩ = some z) (h3 : W.cell? ⟨b, j + 1, none⟩ = some y) :
    w'.cell? ⟨g, 0, none⟩ = some a ∧ w'.cell? ⟨g, 1, none⟩ = some c ∧ w'.frozen? ⟨g, 0, none⟩ = false ∧ w'.frozen? ⟨g, 1, none⟩ = false ∧ w'.cell? ⟨b, j, none⟩ = some z ∧ w'.cell? ⟨b, j + 1, none⟩ = some y ∧ g < w'.heap.size ∧ b < w'.heap.size :=
  ⟨(hb.cell (p := ⟨g, 0, none⟩) hg).trans h0, (hb.cell (p := ⟨g, 1, none⟩) hg).trans h1, (hb.frozen (p := ⟨g, 0, none⟩) hg).trans f0, (hb.frozen (p := ⟨g, 1, none⟩) hg).trans f1, (hb.cell (p := ⟨b, j, none⟩) hbb).trans h2, (hb.cell (p := ⟨b, j + 1, none⟩) hbb).trans h3, Nat.lt_of_lt_of_le hg hb.size, Nat.lt_of_lt_of_le hbb hb.size⟩

set_option maxRecDepth 20000 in
set_option maxHeartbeats 4000000 in
theorem ssums (L : Pr.Ls) (by_ : Int) (v : Value) (w : World) (hL : Pr.Reads w v L) (hlg : Lg.lg L.length = true) (hby : by_ = 1 ∨ by_ = -1) :
    Calls Try.prog 15 #[v, .int .i64 by_] w fun e w' => ∃ v' C, e = .returned v' ∧ Wl.Tells C (wf L by_ L.length) L.length ∧ Pr.Row w' w.heap.size v' C ∧ Below w.heap.size w w' := by
  obtain ⟨n1, n36⟩ := Lg.lg_le hlg
  obtain ⟨i0, hi, hz0, hz1, hz2⟩ := info_parts Pr.Try.infoE
  obtain ⟨b, o, cap, rfl, hb, hcell⟩ := at_of hL (by omega)
  have HC : Hid (∀ w' i, Below w.heap.size w w' → i < L.length → Pr.Cs w' b o L i) := fun w' i h hi => (hcell i hi).below h hb
  have HT : Hid (∀ k w, Calls Try.prog 25 #[.int .i64 k] w fun e w' => ∃ a b, e = .returned (pr a b) ∧ cn a = sine ((k + 9) % 36) ∧ cn b = sine (k % 36) ∧ Below w.heap.size w w') := fun k w => sturn k w
  have HM : Hid (∀ a b c d w, Calls Try.prog 24 #[pr a b, pr c d] w fun e w' => ∃ x y, e = .returned (pr x y) ∧ cn x = mre (cn a) (cn b) (cn c) (cn d) ∧ cn y = mim (cn a) (cn b) (cn c) (cn d) ∧ Below w.heap.size w w') := fun a b c d w => smul a b c d w
  have HA : Hid (∀ a b c d w, Calls Try.prog 23 #[pr a b, pr c d] w fun e w' => ∃ x y, e = .returned (pr x y) ∧ cn x = opF .add (cn a) (cn c) ∧ cn y = opF .add (cn b) (cn d) ∧ Below w.heap.size w w') := fun a b c d w => sadd a b c d w
  have hbb : -1 ≤ by_ ∧ by_ ≤ 1 := by rcases hby with rfl | rfl <;> decide
  have HAI : Hid (∀ i k, i < L.length → k < L.length → IntKind.i64.wrap ((36 : Int) / (L.length : Int)) = (36 : Int) / (L.length : Int) ∧ IntKind.i64.wrap (by_ * ((36 : Int) / (L.length : Int))) = by_ * ((36 : Int) / (L.length : Int)) ∧ IntKind.i64.wrap (by_ * ((36 : Int) / (L.length : Int)) * (i : Int)) = by_ * ((36 : Int) / (L.length : Int)) * (i : Int) ∧ IntKind.i64.wrap (by_ * ((36 : Int) / (L.length : Int)) * (i : Int) * (k : Int)) = by_ * ((36 : Int) / (L.length : Int)) * (i : Int) * (k : Int)) := fun i k h1 h2 => ang_in hbb n1 n36 h1 h2
  have E2 : (36 : Int).tdiv (L.length : Int) = (36 : Int) / (L.length : Int) := Int.tdiv_eq_ediv_of_nonneg (by omega)
  have E5 : Hid (∀ i k : Nat, ang by_ L.length i k = by_ * ((36 : Int) / (L.length : Int)) * (i : Int) * (k : Int)) := fun i k => rfl
  have g1 : ((L.length : Int) == 0) = false := by rw [beq_eq_false_iff_ne]; omega
  have g0 : ¬ (L.length : Int) = 0 := by omega
  obtain ⟨n, hn⟩ : ∃ n, n = L.length := ⟨_, rfl⟩
  rw [← hn] at HC HAI E2 E5 g1 g0 n1 n36 ⊢
  clear hL hcell hlg hn hby hbb
  obtain ⟨W0, hW0⟩ : ∃ W0, W0 = w.alloc (Obj.cells #[] 29) := ⟨_, rfl⟩
  have HW0 : Hid (W0 = w.alloc (Obj.cells #[] 29)) := hW0
  have BW0 : Hid (Below w.heap.size w W0) := (by rw [hW0]; exact (Below.refl _ _).alloc (Nat.le_refl _) _)
  have RW0 : Hid (Pr.Row W0 w.heap.size (.slice (some ⟨w.heap.size, 0, none⟩) 0 0) []) := (by rw [hW0]; exact ⟨[], World.ownsRow_lit w #[] 0 (Nat.le_refl _) (Nat.zero_le _) rfl, fun i hi => absurd hi (by simp)⟩)
  clear hW0
  go_enter Try.func15, Try.ntmps15
  go_wp2_with fail
  rw [← HW0.out]
  go_loopw [5, 7] (fun u i wr => ∃ k : Nat, k ≤ n ∧ i = .int .i64 k ∧ Hid (∃ D, Wl.Tells D (wf L by_ n) k ∧ Pr.Row wr w.heap.size u D) ∧ Hid (Below w.heap.size w wr)) (fun _ i _ => n - (intOf i).toNat)
  case atStart => exact ⟨0, by omega, rfl, ⟨[], ⟨rfl, fun i hi => absurd hi (by omega)⟩, RW0.out⟩, BW0⟩
  case round =>
    obtain ⟨k, hk, rfl, RR, BR⟩ := hrel
    obtain ⟨wo, hwo⟩ : ∃ wo, wo = wr := ⟨_, rfl⟩
    subst hwo
    obtain ⟨D, TD, RD⟩ := RR.out
    have HTD : Hid (Wl.Tells D (wf L by_ n) k) := TD
    obtain ⟨sa, sc, hv⟩ := RD.form
    have hDl : D.length = k := TD.1
    rw [hDl] at hv
    subst hv
    have HRD : Hid (Pr.Row wo w.heap.size (.slice sa k sc) D) := RD
    by_cases hlt : k < n
    · have i1 : (0 : Int) ≤ (k : Int) := by omega
      have i2 : (k : Int) < (n : Int) := by omega
      obtain ⟨V, hV⟩ : ∃ V, V = wo.alloc (Obj.cells #[.float .f64 0, .float .f64 0] 29) := ⟨_, rfl⟩
      have HV : Hid (V = wo.alloc (Obj.cells #[.float .f64 0, .float .f64 0] 29)) := hV
      have BV : Hid (Below wo.heap.size wo V) := (by rw [hV]; exact (Below.refl _ _).alloc (Nat.le_refl _) _)
      have XV : Hid (Bx V wo.heap.size (.float .f64 0) (.float .f64 0)) := (by rw [hV]; exact Bx.new wo _ _ _)
      obtain ⟨g, hg⟩ : ∃ g, g = wo.heap.size := ⟨_, rfl⟩
      have HGE : Hid (g = wo.heap.size) := hg
      rw [← hg] at XV
      clear hV hg TD RD RR hDl
      go_wp2_with fail
      rw [← HV.out, ← HGE.out]
      go_loopw [9] (fun i wi => ∃ (j a c : Nat), j ≤ n ∧ i = .int .i64 j ∧ Hid (cn a = (ws L by_ n k j).1 ∧ cn c = (ws L by_ n k j).2) ∧ Hid (Below wo.heap.size wo wi) ∧ Hid (Bx wi g (.float .f64 a) (.float .f64 c))) (fun i _ => n - (intOf i).toNat)
      case atStart => exact ⟨0, 0, 0, by omega, rfl, ⟨cn_zero, cn_zero⟩, BV, XV⟩
      case round =>
        obtain ⟨wi, hwi⟩ : ∃ wi, wi = wr := ⟨_, rfl⟩
        subst hwi
        obtain ⟨j, a, c, hj, rfl, HS, BI, YI⟩ := hrel
        by_cases hjt : j < n
        · have BIw : Hid (Below w.heap.size w wi) := BR.out.trans (BI.out.mono BR.out.size)
          obtain ⟨q0, q1⟩ := HC.out wi j BIw.out hjt
          obtain ⟨J0, J1, J2, J3⟩ := HAI.out j k hjt hlt
          have K0 : wrap64 ((36 : Int) / (n : Int)) = (36 : Int) / (n : Int) := (IntWalk.i64_left _).symm.trans J0
          have K1 : wrap64 (by_ * ((36 : Int) / (n : Int))) = by_ * ((36 : Int) / (n : Int)) := (IntWalk.i64_left _).symm.trans J1
          have K2 : wrap64 (by_ * ((36 : Int) / (n : Int)) * (j : Int)) = by_ * ((36 : Int) / (n : Int)) * (j : Int) := (IntWalk.i64_left _).symm.trans J2
          have K3 : wrap64 (by_ * ((36 : Int) / (n : Int)) * (j : Int) * (k : Int)) = by_ * ((36 : Int) / (n : Int)) * (j : Int) * (k : Int) := (IntWalk.i64_left _).symm.trans J3
          have j1 : (0 : Int) ≤ (j : Int) := by omega
          have j2 : (j : Int) < (n : Int) := by omega
          have HE : Hid (ws L by_ n k (j + 1) = (opF .add (ws L by_ n k j).1 (mre (cn (Pr.c0 L j)) (cn (Pr.c1 L j)) (sine ((ang by_ n j k + 9) % 36)) (sine (ang by_ n j k % 36))), opF .add (ws L by_ n k j).2 (mim (cn (Pr.c0 L j)) (cn (Pr.c1 L j)) (sine ((ang by_ n j k + 9) % 36)) (sine (ang by_ n j k % 36))))) := rfl
          have EA : Hid (ang by_ n j k = by_ * ((36 : Int) / (n : Int)) * (j : Int) * (k : Int)) := E5.out j k
          have bw : b < wi.heap.size := Nat.lt_of_lt_of_le hb BIw.out.size
          obtain ⟨c0, c1, f0, f1, gl⟩ := YI.out
          generalize Pr.c0 L j = z0 at *
          generalize Pr.c1 L j = z1 at *
          have HK : Hid (IntKind.i64.wrap ((36 : Int) / (n : Int)) = (36 : Int) / (n : Int) ∧ IntKind.i64.wrap (by_ * ((36 : Int) / (n : Int))) = by_ * ((36 : Int) / (n : Int)) ∧ IntKind.i64.wrap (by_ * ((36 : Int) / (n : Int)) * (j : Int)) = by_ * ((36 : Int) / (n : Int)) * (j : Int) ∧ IntKind.i64.wrap (by_ * ((36 : Int) / (n : Int)) * (j : Int) * (k : Int)) = by_ * ((36 : Int) / (n : Int)) * (j : Int) * (k : Int)) := ⟨J0, J1, J2, J3⟩
          go_wp2_with fail
          go_region_with
            (first
            | (go_at_call 25; refine (HT.out _ _).mono ?_; rintro e w1 ⟨t0, t1, rfl, ht0, ht1, hb1⟩; obtain ⟨p0, p1, p2, p3, p4, p7, p5, p6⟩ := keepE (g := g) (b := b) (j := o + j * 2) (a := .float .f64 a) (c := .float .f64 c) (z := .float .f64 z0) (y := .float .f64 z1) hb1 (by first | omega | (simp; done) | (simp; omega)) (by first | omega | (simp; done) | (simp; omega)) (by go_simp) (by go_simp) (by go_simp) (by go_simp) (by go_simp) (by go_simp))
            | (go_at_call 24; refine (HM.out _ _ _ _ _).mono ?_; rintro e w2 ⟨s0, s1, rfl, hs0, hs1, hb2⟩; obtain ⟨q0, q1, q2, q3, q4, q7, q5, q6⟩ := keepE (g := g) (b := b) (j := o + j * 2) (a := .float .f64 a) (c := .float .f64 c) (z := .float .f64 z0) (y := .float .f64 z1) hb2 (by first | omega | (simp; done) | (simp; omega)) (by first | omega | (simp; done) | (simp; omega)) (by go_simp) (by go_simp) (by go_simp) (by go_simp) (by go_simp) (by go_simp))
            | (go_at_call 23; refine (HA.out _ _ _ _ _).mono ?_; rintro e w3 ⟨x, y, rfl, hx, hy, hb3⟩; obtain ⟨r0, r1, r2, r3, r4, r7, r5, r6⟩ := keepE (g := g) (b := b) (j := o + j * 2) (a := .float .f64 a) (c := .float .f64 c) (z := .float .f64 z0) (y := .float .f64 z1) hb3 (by first | omega | (simp; done) | (simp; omega)) (by first | omega | (simp; done) | (simp; omega)) (by go_simp) (by go_simp) (by go_simp) (by go_simp) (by go_simp) (by go_simp)))
          all_goals (
            have B1 : Below wo.heap.size wo w1 := (BI.out.drew).trans (hb1.mono BI.out.size)
            have B2 : Below wo.heap.size wo w2 := B1.trans (hb2.mono B1.size)
            have B3 : Below wo.heap.size wo w3 := B2.trans (hb3.mono B2.size)
            have SS : Hid (cn x = (ws L by_ n k (j + 1)).1 ∧ cn y = (ws L by_ n k (j + 1)).2) := (by
              rw [HE.out, EA.out]
              refine ⟨?_, ?_⟩
              · show cn x = _
                rw [hx, HS.out.1, hs0, ht0, ht1]
              · show cn y = _
                rw [hy, HS.out.2, hs1, ht0, ht1])
            have gw : wo.heap.size ≤ g := by rw [HGE.out]; exact Nat.le_refl _
            have BE : Hid (Below wo.heap.size wo ((w3.setCell ⟨g, 0, none⟩ (.float .f64 x)).setCell ⟨g, 1, none⟩ (.float .f64 y))) := (B3.setCell (p := ⟨g, 0, none⟩) gw _).setCell (p := ⟨g, 1, none⟩) gw _
            have YE : Hid (Bx ((w3.setCell ⟨g, 0, none⟩ (.float .f64 x)).setCell ⟨g, 1, none⟩ (.float .f64 y)) g (.float .f64 x) (.float .f64 y)) := (by
              show Bx _ _ _ _
              unfold Bx
              simp [go_sem, r0, r1, r2, r3, r5])
            clear B1 B2 B3 hb1 hb2 hb3 gw
            go_wp2_with fail
            go_roundw)
          all_goals first
            | exact ⟨j + 1, x, y, by omega, by go_num, SS, BE, YE⟩
            | (simp [intOf]; omega)
        · have hjn : j = n := by omega
          subst hjn
          have HF2 : Hid (cn a = (wf L by_ j k).1 ∧ cn c = (wf L by_ j k).2) := HS
          have BJ : Hid (Below w.heap.size w wi) := BR.out.trans (BI.out.mono BR.out.size)
          obtain ⟨xs, O, G⟩ := HRD.out.on BI.out
          rw [HTD.out.1] at O G
          have O' : Hid (wi.ownsRow w.heap.size 29 2 (.slice sa k sc) k xs) := O
          have G' : Hid (Pr.Good xs D k) := G
          have zr := BJ.out.size
          obtain ⟨y0, y1, y2, y3, y4⟩ := YI.out
          clear O G
          go_wp2_with (at_builtin; refine wpList_append_own _ rfl _ _ 24 rfl w.heap.size 29 i0 (.agg #[.float .f64 0, .float .f64 0]) 2 16 Try.underlying24 hi hz0 hz1 hz2 rfl (by decide) _ _ _ rfl (O'.out.alloc _) ⟨wi.heap.size, 0, none⟩ 1 1 [.float .f64 a, .float .f64 c] rfl rfl (Pr.cell_news wi _ _ 29) (one_two _ _) (by unfold maxLen; omega) (by omega) (by simp; omega) ?_)
          intro v' w2 hown hgrow _
          have RE : Hid (∃ D, Wl.Tells D (wf L by_ j) (k + 1) ∧ Pr.Row w2 w.heap.size v' D) := (by
            have T2 := tells_snoc (z1 := a) (z2 := c) HTD.out HF2.out.1 HF2.out.2
            have hl := HTD.out.1
            refine ⟨D ++ [(a, c)], T2, xs ++ [.float .f64 a, .float .f64 c], ?_, ?_⟩
            · rw [T2.1]; exact hown
            · have G2 := G'.out
              rw [← hl] at G2
              exact Pr.good_snoc (z0 := a) (z1 := c) G2 (by rw [O'.out.1, hl]))
          have B5 : Hid (Below w.heap.size w w2) := (BJ.out.alloc BJ.out.size _).grown hgrow (by simp; omega) (fun b hb => (O'.out.lt b hb).1)
          clear hown hgrow
          go_wp2_with fail
          go_roundw
          case rel => exact ⟨k + 1, by omega, by go_num, RE, B5⟩
          case measure => simp [intOf]; omega
    · have hkn : k = n := by omega
      subst hkn
      clear RD RR TD
      go_wp2_with fail
      go_ret
      exact ⟨_, D, rfl, HTD.out, HRD.out, BR.out⟩
end Go.Proofs.Ytgnnmepjdmcecaa.Wv
