/- Heights: the model. -/
import Derived.Test.YtpmgbbhoplicgaaHi
namespace Go.Proofs.Ytpmgbbhoplicgaa.Ho
open Go.ChangeShapes Go.WideShapes Go.ChangeAt Go.RowKit
open Go.Proofs.Ytpmgbbhoplicgaa.Flt Go.Proofs.Ytpmgbbhoplicgaa.Wa Go.Proofs.Ytpmgbbhoplicgaa.An Go.Proofs.Ytpmgbbhoplicgaa.Co

attribute [local go_sem] Flt.run_store_float
attribute [local go_sem ↓] Go.wp_at_zero Go.wp_at_succ
theorem keepD {W w' : World} {b j : Nat} {a c z : Value} (hb : Below W.heap.size W w') (hg : b < W.heap.size) (h0 : W.cell? ⟨b, j, none⟩ = some a) (h1 : W.cell? ⟨b, j + 1, none⟩ = some c) (h2 : W.cell? ⟨b, j + 2, none⟩ = some z) :
    w'.cell? ⟨b, j, none⟩ = some a ∧ w'.cell? ⟨b, j + 1, none⟩ = some c ∧ w'.cell? ⟨b, j + 2, none⟩ = some z ∧ b < w'.heap.size :=
  ⟨(hb.cell (p := ⟨b, j, none⟩) hg).trans h0, (hb.cell (p := ⟨b, j + 1, none⟩) hg).trans h1, (hb.cell (p := ⟨b, j + 2, none⟩) hg).trans h2, Nat.lt_of_lt_of_le hg hb.size⟩

theorem blk {W w' : World} {k : Nat} (hb : Below W.heap.size W w') (hk : k < W.heap.size) (h0 : W.cell? ⟨k, 0, none⟩ = some (.float .f64 0)) (h1 : W.cell? ⟨k, 1, none⟩ = some (.float .f64 0)) (f0 : W.frozen? ⟨k, 0, none⟩ = false) (f1 : W.frozen? ⟨k, 1, none⟩ = false) :
    w'.cell? ⟨k, 0, none⟩ = some (.float .f64 0) ∧ w'.cell? ⟨k, 1, none⟩ = some (.float .f64 0) ∧ w'.frozen? ⟨k, 0, none⟩ = false ∧ w'.frozen? ⟨k, 1, none⟩ = false ∧ k < w'.heap.size :=
  ⟨(hb.cell (p := ⟨k, 0, none⟩) hk).trans h0, (hb.cell (p := ⟨k, 1, none⟩) hk).trans h1, (hb.frozen (p := ⟨k, 0, none⟩) hk).trans f0, (hb.frozen (p := ⟨k, 1, none⟩) hk).trans f1, Nat.lt_of_lt_of_le hk hb.size⟩
theorem blk_new {W w' : World} (hb : Below (W.alloc (.cells #[.float .f64 0, .float .f64 0] 31)).heap.size (W.alloc (.cells #[.float .f64 0, .float .f64 0] 31)) w') :
    w'.cell? ⟨W.heap.size, 0, none⟩ = some (.float .f64 0) ∧ w'.cell? ⟨W.heap.size, 1, none⟩ = some (.float .f64 0) ∧ w'.frozen? ⟨W.heap.size, 0, none⟩ = false ∧ w'.frozen? ⟨W.heap.size, 1, none⟩ = false ∧ W.heap.size < w'.heap.size :=
  blk hb (by simp) (by simp [go_sem]) (by simp [go_sem]) (by simp [go_sem]) (by simp [go_sem])
theorem blk_newd {W w' : World} (hb : Below (W.alloc (.cells #[.float .f64 0, .float .f64 0] 31)).drew.heap.size (W.alloc (.cells #[.float .f64 0, .float .f64 0] 31)).drew w') :
    w'.cell? ⟨W.heap.size, 0, none⟩ = some (.float .f64 0) ∧ w'.cell? ⟨W.heap.size, 1, none⟩ = some (.float .f64 0) ∧ w'.frozen? ⟨W.heap.size, 0, none⟩ = false ∧ w'.frozen? ⟨W.heap.size, 1, none⟩ = false ∧ W.heap.size < w'.heap.size :=
  blk hb (by simp) (by simp [go_sem]) (by simp [go_sem]) (by simp [go_sem]) (by simp [go_sem])

set_option maxRecDepth 20000 in
set_option maxHeartbeats 2000000 in
theorem shei_yes (L : Co.Ls) (h : Int) (v : Value) (w : World) (hL : Co.Reads w v L) (hok : okP L = true) (hh : inn h (-1000000) 1000000 = true) :
    Calls Try.prog 6 #[v, .int .i64 h] w fun e w' => ∃ x, e = .returned (.float .f64 x) ∧ cn x = hs L h L.length ∧ Below w.heap.size w w' := by
  have hf := hL.fits
  have o := (okP_iff L).1 hok
  have C : Hid (Calls Try.prog 14 #[v] w fun e w' => e = .returned (.bool true) ∧ Below w.heap.size w w') := (by have := sok_any L v w hL; rw [hok] at this; exact this)
  have C2 : Hid (∀ w, Calls Try.prog 15 #[.int .i64 h] w fun e w' => e = .returned (.bool true) ∧ w' = w) := fun w => (by have := shour h w; rw [hh] at this; exact this)
  have HW : Hid (∀ i, i < L.length → IntKind.i64.wrap (Co.c0 L i * h) = Co.c0 L i * h) := fun i hi => turn_in (o.2 i hi) hh
  have HT : Hid (∀ k w, Calls Try.prog 18 #[.int .i64 k] w fun e w' => ∃ a b, e = .returned (pr a b) ∧ cn a = sine ((k + 9) % 36) ∧ cn b = sine (k % 36) ∧ Below w.heap.size w w') := fun k w => sturn k w
  have HM : Hid (∀ a b c d w, Calls Try.prog 17 #[pr a b, pr c d] w fun e w' => ∃ x y, e = .returned (pr x y) ∧ cn x = mre (cn a) (cn b) (cn c) (cn d) ∧ cn y = mim (cn a) (cn b) (cn c) (cn d) ∧ Below w.heap.size w w') := fun a b c d w => smul a b c d w
  have AT : Hid (∀ w' i, Below w.heap.size w w' → i < L.length → ∃ b o cap, v = .slice (some ⟨b, o, none⟩) L.length cap ∧ b < w'.heap.size ∧ Co.Cs w' b o L i) := fun w' i hb hi => by
    obtain ⟨b, o, cap, e, hbb, hc⟩ := at_of hL (by omega)
    exact ⟨b, o, cap, e, Nat.lt_of_lt_of_le hbb hb.size, (hc i hi).below hb hbb⟩
  have kA := hA
  obtain ⟨a, cap, rfl⟩ := hL.form
  obtain ⟨n, hn⟩ : ∃ n, n = L.length := ⟨_, rfl⟩
  rw [← hn] at AT HW hf C ⊢
  clear hL hn o hok hh
  go_enter Try.func6, Try.ntmps6
  go_wp2_with fail
  refine C.out.mono ?_
  rintro e w0 ⟨rfl, hb0⟩
  have B0 : Hid (Below w.heap.size w w0) := hb0
  clear hb0
  go_wp2_with fail
  refine (C2.out _).mono ?_
  rintro e w2 ⟨rfl, hw⟩
  have hw' := hw.symm
  subst hw'
  go_wp2_with fail
  go_loopw [5, 6] (fun s i wr => ∃ k x : Nat, k ≤ n ∧ i = .int .i64 k ∧ s = .float .f64 x ∧ Hid (cn x = hs L h k) ∧ Hid (Below w.heap.size w wr)) (fun _ i _ => n - (intOf i).toNat)
  case atStart => exact ⟨0, 0, by omega, rfl, rfl, cn_zero, B0⟩
  case round =>
    obtain ⟨k, x, hk, rfl, rfl, HS, BR⟩ := hrel
    by_cases hlt : k < n
    · obtain ⟨b, o, cp, e, bl, q0, q1, q2⟩ := AT.out wr k BR.out hlt
      simp at e
      obtain ⟨rfl, rfl⟩ := e
      have i1 : (0 : Int) ≤ (k : Int) := by omega
      have i2 : (k : Int) < (n : Int) := by omega
      have J1 := HW.out k hlt
      have HE : Hid (hs L h (k + 1) = opF .add (hs L h k) (trm L h k)) := rfl
      have HR : Hid (trm L h k = mre (cn (Co.c1 L k)) (cn (Co.c2 L k)) (sine ((Co.c0 L k * h + 9) % 36)) (sine ((Co.c0 L k * h) % 36))) := rfl
      generalize Co.c0 L k = z0 at *
      generalize Co.c1 L k = z1 at *
      generalize Co.c2 L k = z2 at *
      have HJ : Hid (IntKind.i64.wrap (z0 * h) = z0 * h) := J1
      have n0a : b ≠ wr.heap.size := by omega
      have n0b := n0a.symm
      have sz : w.heap.size ≤ wr.heap.size := BR.out.size
      go_upto_region 7 with fail
      go_cut [7, 23, 24, 25, 26, 27, 28, 29, 30, 31, 32, 33, 34, 35, 36] (fun p _ _ _ _ _ _ _ _ _ _ _ _ _ _ wx => ∃ g x y : Nat, p = .pointer (some ⟨g, 0, none⟩) ∧ wx.cell? ⟨g, 0, none⟩ = some (.float .f64 x) ∧ wx.cell? ⟨g, 1, none⟩ = some (.float .f64 y) ∧ Hid (cn x = trm L h k) ∧ Hid (Below w.heap.size w wx))
      case first =>
        go_region_held3 (fun w' => w'.cell? ⟨b, o + k * 3, none⟩ = some (.int .i64 z0) ∧ w'.cell? ⟨b, o + k * 3 + 1, none⟩ = some (.float .f64 z1) ∧ w'.cell? ⟨b, o + k * 3 + 2, none⟩ = some (.float .f64 z2))
          (go_keep)
          (first
          | (go_at_call 18; refine (HT.out _ _).mono ?_; rintro e w1 ⟨t0, t1, rfl, ht0, ht1, hb1⟩; obtain ⟨p0, p1, p2, p3⟩ := keepD (b := b) (j := o + k * 3) (a := .int .i64 z0) (c := .float .f64 z1) (z := .float .f64 z2) hb1 (by first | omega | (simp; done) | (simp; omega)) (by go_simp) (by go_simp) (by go_simp); have n1a : b ≠ w1.heap.size := (by omega); have n1b := n1a.symm; (try (have tt := blk_newd hb1; obtain ⟨b10a, b10b, b10c, b10d, b10e⟩ := tt)); have hz1 := hb1.size; simp at hz1)
          | (go_at_call 17; refine (HM.out _ _ _ _ _).mono ?_; rintro e w2 ⟨s0, s1, rfl, hs0, hs1, hb2⟩; obtain ⟨r0, r1, r2, r3⟩ := keepD (b := b) (j := o + k * 3) (a := .int .i64 z0) (c := .float .f64 z1) (z := .float .f64 z2) hb2 (by first | omega | (simp; done) | (simp; omega)) (by go_simp) (by go_simp) (by go_simp); have n2a : b ≠ w2.heap.size := (by omega); have n2b := n2a.symm; (try (have tt := blk hb2 b10e b10a b10b b10c b10d; obtain ⟨b20a, b20b, b20c, b20d, b20e⟩ := tt)); (try (have tt := blk_new hb2; obtain ⟨b21a, b21b, b21c, b21d, b21e⟩ := tt)); have hz2 := hb2.size; (try simp at hz2)))
        all_goals go_wp2_with fail
        all_goals go_meet
        all_goals (
          (try rw [HJ.out] at ht0 ht1)
          have SS : Hid (cn s0 = trm L h k) := (by show cn s0 = _; rw [HR.out, hs0, ht0, ht1]))
        · have B1 : Below w.heap.size w w1 := BR.out.drew.trans (hb1.mono BR.out.size)
          have B2 : Below w.heap.size w w2 := B1.trans (hb2.mono B1.size)
          exact ⟨w2.heap.size, s0, s1, rfl, by simp [go_sem], by simp [go_sem], SS, B2.alloc B2.size _⟩
        · have B1 : Below w.heap.size w w1 := BR.out.drew.trans (hb1.mono BR.out.size)
          have B2 : Below w.heap.size w w2 := (B1.alloc B1.size _).trans (hb2.mono (by simp; have := B1.size; omega))
          exact ⟨w1.heap.size, s0, s1, rfl, by simp [go_sem, b21a], by simp [go_sem, b21b], SS, (B2.setCell (p := ⟨w1.heap.size, 0, none⟩) B1.size _).setCell (p := ⟨w1.heap.size, 1, none⟩) B1.size _⟩
        · have B1 : Below w.heap.size w w1 := ((BR.out.alloc BR.out.size _).drew).trans (hb1.mono (by simp; omega))
          have B2 : Below w.heap.size w w2 := B1.trans (hb2.mono B1.size)
          exact ⟨wr.heap.size, s0, s1, rfl, by simp [go_sem, b20a], by simp [go_sem, b20b], SS, (B2.setCell (p := ⟨wr.heap.size, 0, none⟩) sz _).setCell (p := ⟨wr.heap.size, 1, none⟩) sz _⟩
      case rest =>
        obtain ⟨g, x', y', rfl, c0, c1, HX, B2⟩ := hcut
        go_wp2_with fail
        go_roundw
        case rel => exact ⟨k + 1, _, by omega, by go_num, rfl, by show cn _ = _; rw [cn_op, HS.out, HX.out, HE.out], below_drewN B2.out _⟩
        case measure => simp [intOf]; omega
    · have hkn : k = n := by omega
      subst hkn
      go_wp2_with fail
      go_ret
      exact ⟨x, rfl, HS.out, BR.out⟩
end Go.Proofs.Ytpmgbbhoplicgaa.Ho
