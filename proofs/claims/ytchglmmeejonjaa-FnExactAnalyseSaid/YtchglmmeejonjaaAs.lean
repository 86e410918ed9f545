/- Analyse: the model. -/
import Derived.Test.YtchglmmeejonjaaAn
import Derived.Deep.RegionWith
import Derived.Deep.RegionHeld3
import Derived.Deep.DrawnRows
import Derived.Deep.Cut
import Derived.Deep.DeepCutAuto
import Derived.Deep.DeepMust
namespace Go.Proofs.Ytchglmmeejonjaa.An
open Go.ChangeShapes Go.WideShapes Go.ChangeAt Go.RowKit
open Go.Proofs.Ytchglmmeejonjaa.Flt Go.Proofs.Ytchglmmeejonjaa.Wa

attribute [local go_sem] Flt.run_store_float
attribute [local go_sem ↓] Go.wp_at_zero Go.wp_at_succ
theorem keepA {W w' : World} {g b j : Nat} {a c z : Value} (hb : Below W.heap.size W w') (hg : g < W.heap.size) (hbb : b < W.heap.size) (h0 : W.cell? ⟨g, 0, none⟩ = some a) (h1 : W.cell? ⟨g, 1, none⟩ = some c) (f0 : W.frozen? ⟨g, 0, none⟩ = false) (f1 : W.frozen? ⟨g, 1, none⟩ = false) (h2 : W.cell? ⟨b, j, none⟩ = some z) :
    w'.cell? ⟨g, 0, none⟩ = some a ∧ w'.cell? ⟨g, 1, none⟩ = some c ∧ w'.frozen? ⟨g, 0, none⟩ = false ∧ w'.frozen? ⟨g, 1, none⟩ = false ∧ w'.cell? ⟨b, j, none⟩ = some z ∧ g < w'.heap.size ∧ b < w'.heap.size :=
  ⟨(hb.cell (p := ⟨g, 0, none⟩) hg).trans h0, (hb.cell (p := ⟨g, 1, none⟩) hg).trans h1, (hb.frozen (p := ⟨g, 0, none⟩) hg).trans f0, (hb.frozen (p := ⟨g, 1, none⟩) hg).trans f1, (hb.cell (p := ⟨b, j, none⟩) hbb).trans h2, Nat.lt_of_lt_of_le hg hb.size, Nat.lt_of_lt_of_le hbb hb.size⟩

set_option maxRecDepth 20000 in
set_option maxHeartbeats 2000000 in
theorem san_yes (L : List Nat) (sp : Int) (v : Value) (w : World) (hL : Fls.Reads w v L) (h36 : L.length = 36) (hsp : inn sp 1 17 = true) :
    Calls Try.prog 16 #[v, .int .i64 sp] w fun e w' => ∃ x y, e = .returned (pr x y) ∧ cn x = opF .quo (an L sp 36).1 4625759767262920704 ∧ cn y = opF .quo (an L sp 36).2 4625759767262920704 ∧ Below w.heap.size w w' := by
  obtain ⟨b, o, cap, rfl, hb, hcell⟩ := reads_at hL (by omega)
  have HC : Hid (∀ w' i, Below w.heap.size w w' → i < 36 → w'.cell? ⟨b, o + i, none⟩ = some (.float .f64 (L.getD i 0))) := fun w' i h hi => (h.cell (p := ⟨b, o + i, none⟩) hb).trans (hcell i (by omega))
  have hs := (inn_iff _ _ _).1 hsp
  have D0 : Hid (∀ w, Calls Try.prog 34 #[.int .i64 sp, .int .i64 1, .int .i64 17] w fun e w' => e = .returned (.bool true) ∧ w' = w) := fun w => by have := sin_any sp 1 17 w; rw [hsp] at this; exact this
  have HT : Hid (∀ k w, Calls Try.prog 25 #[.int .i64 k] w fun e w' => ∃ a b, e = .returned (pr a b) ∧ cn a = sine ((k + 9) % 36) ∧ cn b = sine (k % 36) ∧ Below w.heap.size w w') := fun k w => sturn k w
  have HM : Hid (∀ a b c d w, Calls Try.prog 24 #[pr a b, pr c d] w fun e w' => ∃ x y, e = .returned (pr x y) ∧ cn x = mre (cn a) (cn b) (cn c) (cn d) ∧ cn y = mim (cn a) (cn b) (cn c) (cn d) ∧ Below w.heap.size w w') := fun a b c d w => smul a b c d w
  have HA : Hid (∀ a b c d w, Calls Try.prog 35 #[pr a b, pr c d] w fun e w' => ∃ x y, e = .returned (pr x y) ∧ cn x = opF .add (cn a) (cn c) ∧ cn y = opF .add (cn b) (cn d) ∧ Below w.heap.size w w') := fun a b c d w => sadd a b c d w
  have kQ := hQ
  obtain ⟨W, hW⟩ : ∃ W, W = w.alloc (Obj.cells #[.float .f64 0, .float .f64 0] 35) := ⟨_, rfl⟩
  have HW : Hid (W = w.alloc (Obj.cells #[.float .f64 0, .float .f64 0] 35)) := hW
  have BW : Below w.heap.size w W := (by rw [hW]; exact (Below.refl _ _).alloc (Nat.le_refl _) _)
  have XW : Bx W w.heap.size (.float .f64 0) (.float .f64 0) := (by rw [hW]; exact Bx.new w _ _ _)
  have zW : W.heap.size = w.heap.size + 1 := by rw [hW]; simp
  have BV : Hid (Below w.heap.size w (W.alloc (Obj.cells #[.float .f64 0, .float .f64 0] 35))) := BW.alloc (by omega) _
  have XV : Hid (Bx (W.alloc (Obj.cells #[.float .f64 0, .float .f64 0] 35)) w.heap.size (.float .f64 0) (.float .f64 0)) := XW.alloc _
  have YV : Hid (Bx (W.alloc (Obj.cells #[.float .f64 0, .float .f64 0] 35)) W.heap.size (.float .f64 0) (.float .f64 0)) := Bx.new W _ _ _
  obtain ⟨g, hg⟩ : ∃ g, g = W.heap.size := ⟨_, rfl⟩
  have gw : w.heap.size < g := by omega
  have HGE : Hid (g = W.heap.size) := hg
  rw [← hg] at YV
  rw [h36]
  clear hL hcell h36 hsp hW BW XW zW hg
  go_enter Try.func16, Try.ntmps16
  go_wp2_with fail
  rw [← HW.out]
  refine (D0.out _).mono ?_
  rintro e w1 ⟨rfl, hw⟩
  have hw' := hw.symm
  subst hw'
  go_wp2_with fail
  rw [← HGE.out]
  go_loopw [6] (fun i wr => ∃ (k a c : Nat), k ≤ 36 ∧ i = .int .i64 k ∧ Hid (cn a = (an L sp k).1 ∧ cn c = (an L sp k).2) ∧ Hid (Below w.heap.size w wr) ∧ Hid (Bx wr w.heap.size (.float .f64 0) (.float .f64 0)) ∧ Hid (Bx wr g (.float .f64 a) (.float .f64 c))) (fun i _ => 36 - (intOf i).toNat)
  case atStart => exact ⟨0, 0, 0, by omega, rfl, ⟨cn_zero, cn_zero⟩, BV, XV, YV⟩
  case round =>
    obtain ⟨k, a, c, hk, rfl, HS, BR, XR, YR⟩ := hrel
    by_cases hlt : k < 36
    · have q : wr.cell? ⟨b, o + k, none⟩ = some (.float .f64 (L.getD k 0)) := HC.out wr k BR.out hlt
      have i1 : (0 : Int) ≤ (k : Int) := by omega
      have i2 : (k : Int) < 36 := by omega
      have m1 := Int.mul_le_mul (show sp ≤ 17 by omega) (show (k : Int) ≤ 36 by omega) (by omega) (by omega)
      have m2 := Int.mul_nonneg (show 0 ≤ sp by omega) (show (0 : Int) ≤ (k : Int) by omega)
      have J1 : IntKind.i64.wrap (sp * (k : Int)) = sp * (k : Int) := IntWalk.i64_in _ (by omega)
      have J2 : IntKind.i64.wrap (-(sp * (k : Int))) = -(sp * (k : Int)) := IntWalk.i64_in _ (by omega)
      have HE : Hid (an L sp (k + 1) = (opF .add (an L sp k).1 (mre (cn (L.getD k 0)) 0 (sine ((-(sp * (k : Int)) + 9) % 36)) (sine ((-(sp * (k : Int))) % 36))), opF .add (an L sp k).2 (mim (cn (L.getD k 0)) 0 (sine ((-(sp * (k : Int)) + 9) % 36)) (sine ((-(sp * (k : Int))) % 36))))) := rfl
      have bw : b < wr.heap.size := Nat.lt_of_lt_of_le hb BR.out.size
      obtain ⟨c0, c1, f0, f1, gl⟩ := YR.out
      clear m1 m2
      generalize hz : L.getD k 0 = z at *
      clear hz
      have HJ : Hid (IntKind.i64.wrap (sp * (k : Int)) = sp * (k : Int) ∧ IntKind.i64.wrap (-(sp * (k : Int))) = -(sp * (k : Int))) := ⟨J1, J2⟩
      go_wp2_with fail
      go_region_with
        (first
        | (go_at_call 25; refine (HT.out _ _).mono ?_; rintro e w1 ⟨t0, t1, rfl, ht0, ht1, hb1⟩; obtain ⟨p0, p1, p2, p3, p4, p5, p6⟩ := keepA (g := g) (b := b) (j := o + k) (a := .float .f64 a) (c := .float .f64 c) (z := .float .f64 z) hb1 (by first | omega | (simp; done) | (simp; omega)) (by first | omega | (simp; done) | (simp; omega)) (by go_simp) (by go_simp) (by go_simp) (by go_simp) (by go_simp))
        | (go_at_call 24; refine (HM.out _ _ _ _ _).mono ?_; rintro e w2 ⟨s0, s1, rfl, hs0, hs1, hb2⟩; obtain ⟨q0, q1, q2, q3, q4, q5, q6⟩ := keepA (g := g) (b := b) (j := o + k) (a := .float .f64 a) (c := .float .f64 c) (z := .float .f64 z) hb2 (by first | omega | (simp; done) | (simp; omega)) (by first | omega | (simp; done) | (simp; omega)) (by go_simp) (by go_simp) (by go_simp) (by go_simp) (by go_simp))
        | (go_at_call 35; refine (HA.out _ _ _ _ _).mono ?_; rintro e w3 ⟨x, y, rfl, hx, hy, hb3⟩; obtain ⟨r0, r1, r2, r3, r4, r5, r6⟩ := keepA (g := g) (b := b) (j := o + k) (a := .float .f64 a) (c := .float .f64 c) (z := .float .f64 z) hb3 (by first | omega | (simp; done) | (simp; omega)) (by first | omega | (simp; done) | (simp; omega)) (by go_simp) (by go_simp) (by go_simp) (by go_simp) (by go_simp)))
      all_goals (
        have B1 : Below w.heap.size w w1 := (BR.out.drew).trans (hb1.mono BR.out.size)
        have B2 : Below w.heap.size w w2 := B1.trans (hb2.mono B1.size)
        have B3 : Below w.heap.size w w3 := B2.trans (hb3.mono B2.size)
        have X1 : Bx w1 w.heap.size (.float .f64 0) (.float .f64 0) := (XR.out.drewN 1).on hb1
        have X2 := X1.on hb2
        have X3 := X2.on hb3
        (try rw [HJ.out.1, HJ.out.2] at ht0 ht1)
        have SS : Hid (cn x = (an L sp (k + 1)).1 ∧ cn y = (an L sp (k + 1)).2) := (by
          refine ⟨?_, ?_⟩
          · rw [hx, HE.out, HS.out.1, hs0, ht0, ht1, cn_zero]
          · rw [hy, HE.out, HS.out.2, hs1, ht0, ht1, cn_zero])
        have BE : Hid (Below w.heap.size w ((w3.setCell ⟨g, 0, none⟩ (.float .f64 x)).setCell ⟨g, 1, none⟩ (.float .f64 y))) := (B3.setCell (p := ⟨g, 0, none⟩) (by show w.heap.size ≤ g; omega) _).setCell (p := ⟨g, 1, none⟩) (by show w.heap.size ≤ g; omega) _
        have gne : ¬ w.heap.size = g := by omega
        have gne' : ¬ g = w.heap.size := by omega
        have XE : Hid (Bx ((w3.setCell ⟨g, 0, none⟩ (.float .f64 x)).setCell ⟨g, 1, none⟩ (.float .f64 y)) w.heap.size (.float .f64 0) (.float .f64 0)) := (by
          obtain ⟨d0, d1, d2, d3, d4⟩ := X3
          show Bx _ _ _ _
          unfold Bx
          simp [go_sem, d0, d1, d2, d3, d4])
        have YE : Hid (Bx ((w3.setCell ⟨g, 0, none⟩ (.float .f64 x)).setCell ⟨g, 1, none⟩ (.float .f64 y)) g (.float .f64 x) (.float .f64 y)) := (by
          show Bx _ _ _ _
          unfold Bx
          simp [go_sem, r0, r1, r2, r3, r5])
        clear B1 B2 B3 X1 X2 X3 hb1 hb2 hb3
        go_wp2_with fail
        go_roundw)
      all_goals first
        | exact ⟨k + 1, x, y, by omega, by go_num, SS, BE, XE, YE⟩
        | (simp [intOf]; omega)
    · have hke : k = 36 := by omega
      subst hke
      obtain ⟨x0, x1, x2, x3, x4⟩ := XR.out
      obtain ⟨y0, y1, y2, y3, y4⟩ := YR.out
      go_wp2_with fail
      refine bodyPost_ret (v := pr (opB .quo a 4625759767262920704 wr) (opB .quo c 4625759767262920704 (wr.drewN (opD .quo a 4625759767262920704)))) (by simp [results, Try.results16, go_sem, x0, x1]) rfl ⟨_, _, rfl, by rw [cn_op, HS.out.1, cn_18], by rw [cn_op, HS.out.2, cn_18], ?_⟩
      exact ((below_drewN BR.out _).setCell (p := ⟨w.heap.size, 0, none⟩) (Nat.le_refl _) _).setCell (p := ⟨w.heap.size, 1, none⟩) (Nat.le_refl _) _
end Go.Proofs.Ytchglmmeejonjaa.An
