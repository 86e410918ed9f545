/- Heights: plainly; whether a list is right; a constituent turned. -/
import Derived.Test.YtpmgbbhoplicgaaCo
import Derived.Deep.RegionWith
import Derived.Deep.RegionHeld3
import Derived.Deep.DrawnRows
import Derived.Deep.Cut
import Derived.Deep.DeepCutAuto
import Derived.Deep.DeepMust
namespace Go.Proofs.Ytpmgbbhoplicgaa.Ho
open Go.ChangeShapes Go.WideShapes Go.ChangeAt Go.RowKit
open Go.Proofs.Ytpmgbbhoplicgaa.Flt Go.Proofs.Ytpmgbbhoplicgaa.Wa Go.Proofs.Ytpmgbbhoplicgaa.An Go.Proofs.Ytpmgbbhoplicgaa.Co

attribute [local go_sem] Flt.run_store_float
attribute [local go_sem ↓] Go.wp_at_zero Go.wp_at_succ
def okP (L : Co.Ls) : Bool := decide (L.length ≤ 40) && (List.range L.length).all fun i => inn (Co.c0 L i) (-100) 100
theorem okP_iff (L : Co.Ls) : okP L = true ↔ L.length ≤ 40 ∧ ∀ i, i < L.length → inn (Co.c0 L i) (-100) 100 = true := by
  unfold okP
  simp [List.all_eq_true]
theorem okP_no {L : Co.Ls} {i : Nat} (hi : i < L.length) (h : inn (Co.c0 L i) (-100) 100 = false) : okP L = false := by
  cases e : okP L
  · rfl
  · have := ((okP_iff L).1 e).2 i hi
    rw [h] at this
    cases this
theorem okP_far {L : Co.Ls} (h : ¬ L.length ≤ 40) : okP L = false := by
  cases e : okP L
  · rfl
  · exact absurd ((okP_iff L).1 e).1 h
def trm (L : Co.Ls) (h : Int) (i : Nat) : Nat := mre (cn (Co.c1 L i)) (cn (Co.c2 L i)) (sine ((Co.c0 L i * h + 9) % 36)) (sine ((Co.c0 L i * h) % 36))
def tim (L : Co.Ls) (h : Int) (i : Nat) : Nat := mim (cn (Co.c1 L i)) (cn (Co.c2 L i)) (sine ((Co.c0 L i * h + 9) % 36)) (sine ((Co.c0 L i * h) % 36))
def hs (L : Co.Ls) (h : Int) : Nat → Nat
  | 0 => 0
  | i + 1 => opF .add (hs L h i) (trm L h i)
def H0 (L : Co.Ls) (h : Int) : Nat := if okP L && inn h (-1000000) 1000000 then hs L h L.length else qn
theorem turn_in {c h : Int} (hc : inn c (-100) 100 = true) (hh : inn h (-1000000) 1000000 = true) : IntKind.i64.wrap (c * h) = c * h := by
  have a := (inn_iff _ _ _).1 hc
  have b := (inn_iff _ _ _).1 hh
  have e : (c * h).natAbs = c.natAbs * h.natAbs := Int.natAbs_mul c h
  have h3 : c.natAbs * h.natAbs ≤ 100 * 1000000 := Nat.mul_le_mul (by omega) (by omega)
  exact IntWalk.i64_in _ (by omega)
theorem at_of {w : World} {v : Value} {L : Co.Ls} (h : Co.Reads w v L) (h0 : 0 < L.length) : ∃ b o cap, v = .slice (some ⟨b, o, none⟩) L.length cap ∧ b < w.heap.size ∧ ∀ i, i < L.length → Co.Cs w b o L i := by
  rcases h with ⟨rfl, _⟩ | ⟨b, o, cap, h1, h2, h3, h4, h5⟩
  · simp at h0
  · exact ⟨b, o, cap, h1, h4, h5⟩

set_option maxHeartbeats 1000000 in
theorem shour (h : Int) (w : World) : Calls Try.prog 15 #[.int .i64 h] w fun e w' => e = .returned (.bool (inn h (-1000000) 1000000)) ∧ w' = w := by
  have C : Hid (∀ w, Calls Try.prog 30 #[.int .i64 h, .int .i64 (-1000000), .int .i64 1000000] w fun e w' => e = .returned (.bool (inn h (-1000000) 1000000)) ∧ w' = w) := fun w => sin_any _ _ _ w
  go_enter Try.func15, Try.ntmps15
  go_wp2_with fail
  refine (C.out _).mono ?_
  rintro e w1 ⟨rfl, hw⟩
  subst hw
  go_wp2_with fail
  go_ret
  exact ⟨rfl, rfl⟩
set_option maxHeartbeats 1000000 in
theorem ihour (h : Int) (w : World) : Calls Try.prog 21 #[.int .i64 h] w fun e w' => e = .returned (.bool (inn h (-1000000) 1000000)) ∧ w' = w := by
  have C : Hid (∀ w, Calls Try.prog 32 #[.int .i64 h, .int .i64 (-1000000), .int .i64 1000000] w fun e w' => e = .returned (.bool (inn h (-1000000) 1000000)) ∧ w' = w) := fun w => win_any _ _ _ w
  go_enter Try.func21, Try.ntmps21
  go_wp2_with fail
  refine (C.out _).mono ?_
  rintro e w1 ⟨rfl, hw⟩
  subst hw
  go_wp2_with fail
  go_ret
  exact ⟨rfl, rfl⟩

set_option maxHeartbeats 1000000 in
theorem sok_any (L : Co.Ls) (v : Value) (w : World) (hL : Co.Reads w v L) :
    Calls Try.prog 14 #[v] w fun e w' => e = .returned (.bool (okP L)) ∧ Below w.heap.size w w' := by
  have hf := hL.fits
  by_cases h40 : L.length ≤ 40
  · have OK : Hid ((∀ i, i < L.length → inn (Co.c0 L i) (-100) 100 = true) → okP L = true) := fun h => (okP_iff L).2 ⟨h40, h⟩
    have NO : Hid (∀ i, i < L.length → inn (Co.c0 L i) (-100) 100 = false → okP L = false) := fun i hi h => okP_no hi h
    have AT : Hid (∀ w' i, Below w.heap.size w w' → i < L.length → ∃ b o cap, v = .slice (some ⟨b, o, none⟩) L.length cap ∧ Co.Cs w' b o L i) := fun w' i hb hi => by
      obtain ⟨b, o, cap, e, hbb, hc⟩ := at_of hL (by omega)
      exact ⟨b, o, cap, e, (hc i hi).below hb hbb⟩
    obtain ⟨a, cap, rfl⟩ := hL.form
    obtain ⟨n, hn⟩ : ∃ n, n = L.length := ⟨_, rfl⟩
    rw [← hn] at OK NO AT h40 hf ⊢
    clear hL hn
    have j0 : ¬ (40 : Int) < (n : Int) := by omega
    go_enter Try.func14, Try.ntmps14
    go_wp2_with fail
    go_loopw [3] (fun i wr => ∃ k : Nat, k ≤ n ∧ i = .int .i64 k ∧ Hid (∀ i, i < k → inn (Co.c0 L i) (-100) 100 = true) ∧ Hid (Below w.heap.size w wr)) (fun i _ => n - (intOf i).toNat)
    case atStart => exact ⟨0, by omega, rfl, fun i hi => by omega, Below.refl _ _⟩
    case round =>
      obtain ⟨k, hk, rfl, HA, BR⟩ := hrel
      by_cases hlt : k < n
      · obtain ⟨b, o, cp, e, q0, q1, q2⟩ := AT.out wr k BR.out hlt
        simp at e
        obtain ⟨rfl, rfl⟩ := e
        have i1 : (0 : Int) ≤ (k : Int) := by omega
        have i2 : (k : Int) < (n : Int) := by omega
        have C : Hid (∀ w, Calls Try.prog 30 #[.int .i64 (Co.c0 L k), .int .i64 (-100), .int .i64 100] w fun e w' => e = .returned (.bool (inn (Co.c0 L k) (-100) 100)) ∧ w' = w) := fun w => sin_any _ _ _ w
        have BA : Hid (Below w.heap.size w (wr.alloc (Obj.cells #[.int .i64 (Co.c0 L k), .float .f64 (Co.c1 L k), .float .f64 (Co.c2 L k)] 33))) := BR.out.alloc BR.out.size _
        cases hz : inn (Co.c0 L k) (-100) 100
        · have F : Hid (okP L = false) := NO.out k hlt hz
          rw [hz] at C
          clear hz
          generalize Co.c0 L k = z0 at *
          generalize Co.c1 L k = z1 at *
          generalize Co.c2 L k = z2 at *
          go_wp2_with fail
          refine (C.out _).mono ?_
          rintro e w1 ⟨rfl, hw⟩
          subst hw
          go_wp2_with fail
          go_ret
          exact ⟨by rw [F.out]; rfl, by first | exact BA.out | exact BR.out⟩
        · have HA2 : Hid (∀ i, i < k + 1 → inn (Co.c0 L i) (-100) 100 = true) := fun i hi => by
            by_cases e : i = k
            · rw [e]; exact hz
            · exact HA.out i (by omega)
          rw [hz] at C
          clear hz
          generalize Co.c0 L k = z0 at *
          generalize Co.c1 L k = z1 at *
          generalize Co.c2 L k = z2 at *
          go_wp2_with fail
          refine (C.out _).mono ?_
          rintro e w1 ⟨rfl, hw⟩
          subst hw
          go_wp2_with fail
          go_roundw
          case rel => exact ⟨k + 1, by omega, by go_num, HA2, by first | exact BA | exact BR⟩
          case measure => simp [intOf]; omega
      · have F : Hid (okP L = true) := OK.out (fun i hi => HA.out i (by omega))
        go_wp2_with fail
        go_ret
        exact ⟨by rw [F.out]; rfl, BR.out⟩
  · have F := okP_far h40
    rw [F]
    obtain ⟨a, cap, rfl⟩ := hL.form
    have j0 : (40 : Int) < (L.length : Int) := by omega
    clear hL F h40
    generalize L.length = n at *
    go_enter Try.func14, Try.ntmps14
    go_wp2_with fail
    go_ret
    exact ⟨rfl, Below.refl _ _⟩

set_option maxHeartbeats 1000000 in
theorem iok_any (L : Co.Ls) (v : Value) (w : World) (hL : Co.Reads w v L) :
    Calls Try.prog 20 #[v] w fun e w' => e = .returned (.bool (okP L)) ∧ Below w.heap.size w w' := by
  have hf := hL.fits
  by_cases h40 : L.length ≤ 40
  · have OK : Hid ((∀ i, i < L.length → inn (Co.c0 L i) (-100) 100 = true) → okP L = true) := fun h => (okP_iff L).2 ⟨h40, h⟩
    have NO : Hid (∀ i, i < L.length → inn (Co.c0 L i) (-100) 100 = false → okP L = false) := fun i hi h => okP_no hi h
    have AT : Hid (∀ w' i, Below w.heap.size w w' → i < L.length → ∃ b o cap, v = .slice (some ⟨b, o, none⟩) L.length cap ∧ Co.Cs w' b o L i) := fun w' i hb hi => by
      obtain ⟨b, o, cap, e, hbb, hc⟩ := at_of hL (by omega)
      exact ⟨b, o, cap, e, (hc i hi).below hb hbb⟩
    obtain ⟨a, cap, rfl⟩ := hL.form
    obtain ⟨n, hn⟩ : ∃ n, n = L.length := ⟨_, rfl⟩
    rw [← hn] at OK NO AT h40 hf ⊢
    clear hL hn
    have j0 : ¬ (40 : Int) < (n : Int) := by omega
    go_enter Try.func20, Try.ntmps20
    go_wp2_with fail
    go_loopw [10] (fun i wr => ∃ k : Nat, k ≤ n ∧ i = .int .i64 k ∧ Hid (∀ i, i < k → inn (Co.c0 L i) (-100) 100 = true) ∧ Hid (Below w.heap.size w wr)) (fun i _ => n - (intOf i).toNat)
    case atStart => exact ⟨0, by omega, rfl, fun i hi => by omega, Below.refl _ _⟩
    case round =>
      obtain ⟨k, hk, rfl, HA, BR⟩ := hrel
      by_cases hlt : k < n
      · obtain ⟨b, o, cp, e, q0, q1, q2⟩ := AT.out wr k BR.out hlt
        simp at e
        obtain ⟨rfl, rfl⟩ := e
        have i1 : (0 : Int) ≤ (k : Int) := by omega
        have i2 : (k : Int) < (n : Int) := by omega
        have C : Hid (∀ w, Calls Try.prog 32 #[.int .i64 (Co.c0 L k), .int .i64 (-100), .int .i64 100] w fun e w' => e = .returned (.bool (inn (Co.c0 L k) (-100) 100)) ∧ w' = w) := fun w => win_any _ _ _ w
        have BA : Hid (Below w.heap.size w (wr.alloc (Obj.cells #[.int .i64 (Co.c0 L k), .float .f64 (Co.c1 L k), .float .f64 (Co.c2 L k)] 33))) := BR.out.alloc BR.out.size _
        cases hz : inn (Co.c0 L k) (-100) 100
        · have F : Hid (okP L = false) := NO.out k hlt hz
          rw [hz] at C
          clear hz
          generalize Co.c0 L k = z0 at *
          generalize Co.c1 L k = z1 at *
          generalize Co.c2 L k = z2 at *
          go_wp2_with fail
          refine (C.out _).mono ?_
          rintro e w1 ⟨rfl, hw⟩
          subst hw
          go_wp2_with fail
          go_ret
          exact ⟨by rw [F.out]; rfl, by first | exact BA.out | exact BR.out⟩
        · have HA2 : Hid (∀ i, i < k + 1 → inn (Co.c0 L i) (-100) 100 = true) := fun i hi => by
            by_cases e : i = k
            · rw [e]; exact hz
            · exact HA.out i (by omega)
          rw [hz] at C
          clear hz
          generalize Co.c0 L k = z0 at *
          generalize Co.c1 L k = z1 at *
          generalize Co.c2 L k = z2 at *
          go_wp2_with fail
          refine (C.out _).mono ?_
          rintro e w1 ⟨rfl, hw⟩
          subst hw
          go_wp2_with fail
          go_roundw
          case rel => exact ⟨k + 1, by omega, by go_num, HA2, by first | exact BA | exact BR⟩
          case measure => simp [intOf]; omega
      · have F : Hid (okP L = true) := OK.out (fun i hi => HA.out i (by omega))
        go_wp2_with fail
        go_ret
        exact ⟨by rw [F.out]; rfl, BR.out⟩
  · have F := okP_far h40
    rw [F]
    obtain ⟨a, cap, rfl⟩ := hL.form
    have j0 : (40 : Int) < (L.length : Int) := by omega
    clear hL F h40
    generalize L.length = n at *
    go_enter Try.func20, Try.ntmps20
    go_wp2_with fail
    go_ret
    exact ⟨rfl, Below.refl _ _⟩

theorem keepC {W w' : World} {g : Nat} {a c z : Value} (hb : Below W.heap.size W w') (hg : g < W.heap.size) (h0 : W.cell? ⟨g, 0, none⟩ = some a) (h1 : W.cell? ⟨g, 1, none⟩ = some c) (h2 : W.cell? ⟨g, 2, none⟩ = some z) :
    w'.cell? ⟨g, 0, none⟩ = some a ∧ w'.cell? ⟨g, 1, none⟩ = some c ∧ w'.cell? ⟨g, 2, none⟩ = some z ∧ g < w'.heap.size :=
  ⟨(hb.cell (p := ⟨g, 0, none⟩) hg).trans h0, (hb.cell (p := ⟨g, 1, none⟩) hg).trans h1, (hb.cell (p := ⟨g, 2, none⟩) hg).trans h2, Nat.lt_of_lt_of_le hg hb.size⟩
set_option maxHeartbeats 2000000 in
theorem turned_any (sp h : Int) (x y : Nat) (w : World) (hw : IntKind.i64.wrap (sp * h) = sp * h) :
    Calls Try.prog 25 #[.agg #[.int .i64 sp, .float .f64 x, .float .f64 y], .int .i64 h] w fun e w' => ∃ a c, e = .returned (.complex .f64 a c) ∧ cn a = mre (cn x) (cn y) (sine ((sp * h + 9) % 36)) (sine ((sp * h) % 36)) ∧ cn c = mim (cn x) (cn y) (sine ((sp * h + 9) % 36)) (sine ((sp * h) % 36)) ∧ Below w.heap.size w w' := by
  have HX : Hid (∀ w, Calls Try.prog 35 #[pr x y] w fun e w' => e = .returned (.complex .f64 x y) ∧ Below w.heap.size w w') := fun w => icx x y w
  have HT : Hid (∀ k w, Calls Try.prog 36 #[.int .i64 k] w fun e w' => ∃ a b, e = .returned (.complex .f64 a b) ∧ cn a = sine ((k + 9) % 36) ∧ cn b = sine (k % 36) ∧ Below w.heap.size w w') := fun k w => iturn k w
  have HM : Hid (∀ a b c d w, Calls Try.prog 34 #[.complex .f64 a b, .complex .f64 c d] w fun e w' => ∃ x y, e = .returned (.complex .f64 x y) ∧ cn x = mre (cn a) (cn b) (cn c) (cn d) ∧ cn y = mim (cn a) (cn b) (cn c) (cn d) ∧ Below w.heap.size w w') := fun a b c d w => imul a b c d w
  obtain ⟨W, hW⟩ : ∃ W, W = w.alloc (Obj.cells #[.int .i64 sp, .float .f64 x, .float .f64 y] 33) := ⟨_, rfl⟩
  have HW : Hid (W = w.alloc (Obj.cells #[.int .i64 sp, .float .f64 x, .float .f64 y] 33)) := hW
  have BW : Hid (Below w.heap.size w W) := (by rw [hW]; exact (Below.refl _ _).alloc (Nat.le_refl _) _)
  have d0 : W.cell? ⟨w.heap.size, 0, none⟩ = some (.int .i64 sp) := by rw [hW]; simp [go_sem]
  have d1 : W.cell? ⟨w.heap.size, 1, none⟩ = some (.float .f64 x) := by rw [hW]; simp [go_sem]
  have d2 : W.cell? ⟨w.heap.size, 2, none⟩ = some (.float .f64 y) := by rw [hW]; simp [go_sem]
  have gl : w.heap.size < W.heap.size := by rw [hW]; simp
  obtain ⟨g, hg⟩ : ∃ g, g = w.heap.size := ⟨_, rfl⟩
  have HGE : Hid (g = w.heap.size) := hg
  rw [← hg] at d0 d1 d2 gl
  clear hW hg
  go_enter Try.func25, Try.ntmps25
  go_wp2_with fail
  rw [← HW.out]
  rw [← HGE.out]
  go_region_held3 (fun w' => w'.cell? ⟨g, 0, none⟩ = some (.int .i64 sp) ∧ w'.cell? ⟨g, 1, none⟩ = some (.float .f64 x) ∧ w'.cell? ⟨g, 2, none⟩ = some (.float .f64 y)) (go_keep)
    (first
    | (go_at_call 35; refine (HX.out _).mono ?_; rintro e w1 ⟨rfl, hb1⟩; obtain ⟨p0, p1, p2, p3⟩ := keepC (g := g) (a := .int .i64 sp) (c := .float .f64 x) (z := .float .f64 y) hb1 (by first | omega | (simp; done) | (simp; omega)) (by go_simp) (by go_simp) (by go_simp))
    | (go_at_call 36; refine (HT.out _ _).mono ?_; rintro e w2 ⟨t0, t1, rfl, ht0, ht1, hb2⟩; obtain ⟨q0, q1, q2, q3⟩ := keepC (g := g) (a := .int .i64 sp) (c := .float .f64 x) (z := .float .f64 y) hb2 (by first | omega | (simp; done) | (simp; omega)) (by go_simp) (by go_simp) (by go_simp))
    | (go_at_call 34; refine (HM.out _ _ _ _ _).mono ?_; rintro e w3 ⟨s0, s1, rfl, hs0, hs1, hb3⟩; obtain ⟨r0, r1, r2, r3⟩ := keepC (g := g) (a := .int .i64 sp) (c := .float .f64 x) (z := .float .f64 y) hb3 (by first | omega | (simp; done) | (simp; omega)) (by go_simp) (by go_simp) (by go_simp)))
  have B1 : Below w.heap.size w w1 := (BW.out.drew).trans (hb1.mono BW.out.size)
  have B2 : Below w.heap.size w w2 := B1.trans (hb2.mono B1.size)
  have B3 : Hid (Below w.heap.size w w3) := B2.trans (hb3.mono B2.size)
  have SS : Hid (cn s0 = mre (cn x) (cn y) (sine ((sp * h + 9) % 36)) (sine ((sp * h) % 36)) ∧ cn s1 = mim (cn x) (cn y) (sine ((sp * h + 9) % 36)) (sine ((sp * h) % 36))) := (by
    rw [hs0, hs1, ht0, ht1]
    exact ⟨rfl, rfl⟩)
  clear B1 B2 hb1 hb2 hb3 hs0 hs1 ht0 ht1
  go_wp2_with fail
  go_ret
  exact ⟨s0, s1, rfl, SS.out.1, SS.out.2, B3.out⟩
end Go.Proofs.Ytpmgbbhoplicgaa.Ho
