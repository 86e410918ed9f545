/- A row of numbers sorted in place: the last number merged into a sorted part. -/
import Derived.Test.YtfjkchkcgnjkaaaIc
namespace Go.Proofs.Ytfjkchkcgnjkaaa.Srt
open Go.ChangeShapes Go.WideShapes Go.ChangeAt Go.RowKit
open Go.Proofs.Ytfjkchkcgnjkaaa.Flt Go.Proofs.Ytfjkchkcgnjkaaa.St Go.Proofs.Ytfjkchkcgnjkaaa.Fls
attribute [local go_sem] Fls.run_store_flt

set_option maxHeartbeats 1000000 in
set_option maxRecDepth 20000 in
theorem mergeB (w0 : World) (B g n c : Nat) (hB : B ≤ g) (hn : n ≤ 4000) (a m b : Nat) (ha : a + 1 < m) (hm : b = m + 1) (hb : b ≤ n) (L : List Nat) (w : World) (h : RW B g n c w0 w L) (sr : Srt pl L a m) :
    Calls Try.prog 30 #[.slice (some ⟨g, 0, none⟩) n c, .int .i64 (a : Int), .int .i64 (m : Int), .int .i64 (b : Int), .func (.func 16) #[] #[]] w fun e w' => e = .returned (.tuple #[]) ∧ ∃ M, RW B g n c w0 w' M ∧ PM a b L M ∧ Srt pl M a b := by
  have H : Hid (RW B g n c w0 w L) := h
  have hl := h.len
  have BY : Hid (∀ (x y : Nat) (w : World), Calls Try.prog 16 #[.float .f64 (L.getD x 0), .float .f64 (L.getD y 0)] w fun e w' => e = .returned (.int .i64 (cv (pl (L.getD x 0)) (pl (L.getD y 0)))) ∧ w' = w) := fun x y w => by_any _ _ w (h.bd _) (h.bd _)
  have e1 : (b : Int) - (m : Int) = 1 := by omega
  obtain ⟨d0, hd0⟩ : ∃ d0, d0 = m - a := ⟨_, rfl⟩
  have e0 : (m : Int) - (a : Int) = (d0 : Int) := by omega
  have e00 : ((d0 : Int) == 1) = false := by simp; omega
  have SR : Hid (Srt pl L a m) := sr
  have HMB : Hid (b = m + 1) := hm
  have r1 : a < m ∧ m < n ∧ m < b ∧ b ≤ m + 1 := by omega
  clear h sr ha hm hd0
  go_enter Try.func30, Try.ntmps30
  go_wp2_with fail
  go_loopw [14, 15, 16] (fun si sj sh wr => ∃ (i j : Nat), a ≤ i ∧ i ≤ j ∧ j ≤ m ∧ si = .int .i64 i ∧ sj = .int .i64 j ∧ Hid (RW B g n c w0 wr L) ∧ Hid (i = a ∨ ¬ pl (L.getD m 0) < pl (L.getD (i - 1) 0)) ∧ Hid (j = m ∨ pl (L.getD m 0) < pl (L.getD j 0))) (fun si sj _ _ => (intOf sj).toNat - (intOf si).toNat)
  case atStart => exact ⟨a, m, by omega, by omega, by omega, rfl, rfl, H, Or.inl rfl, Or.inl rfl⟩
  case round =>
    obtain ⟨i, j, hi, hij, hj, rfl, rfl, R, Q1, Q2⟩ := hrel
    by_cases hlt : i < j
    · obtain ⟨k, hk⟩ : ∃ k, k = (i + j) / 2 := ⟨_, rfl⟩
      have k0 : ((i : Int) + (j : Int)) / 2 = (k : Int) := by omega
      have k1 : i ≤ k ∧ k < j := by omega
      have k2 : (k : Int) < (n : Int) := by omega
      have k3 : (m : Int) < (n : Int) := by omega
      obtain ⟨u, hu⟩ : ∃ u, u = L.getD m 0 := ⟨_, rfl⟩
      obtain ⟨v, hv⟩ : ∃ v, v = L.getD k 0 := ⟨_, rfl⟩
      have q1 : ∀ q, (wr.drewN q).cell? ⟨g, m, none⟩ = some (.float .f64 u) := fun q => (by rw [hu]; exact R.out.get m (by omega))
      have q2 : ∀ q, (wr.drewN q).cell? ⟨g, k, none⟩ = some (.float .f64 v) := fun q => (by rw [hv]; exact R.out.get k (by omega))
      have CB : Hid (∀ w, Calls Try.prog 16 #[.float .f64 u, .float .f64 v] w fun e w' => e = .returned (.int .i64 (cv (pl u) (pl v))) ∧ w' = w) := (by rw [hu, hv]; exact fun w => BY.out m k w)
      have cz : cv (pl u) (pl v) < 0 ↔ pl (L.getD m 0) < pl (L.getD k 0) := (by rw [hu, hv]; exact cv_neg _ _)
      clear hu hv
      have i1 : (i : Int) < (j : Int) := by omega
      clear hk
      have QY : Hid (¬ pl (L.getD m 0) < pl (L.getD k 0) → k + 1 = a ∨ ¬ pl (L.getD m 0) < pl (L.getD (k + 1 - 1) 0)) := fun h => Or.inr h
      have q1' := q1 0
      have q2' := q2 0
      by_cases hz : cv (pl u) (pl v) < 0
      · have Q3 : Hid (k = m ∨ pl (L.getD m 0) < pl (L.getD k 0)) := Or.inr (cz.1 hz)
        clear QY cz Q2
        generalize cv (pl u) (pl v) = z at hz CB
        go_wp2_with fail
        go_quiet ((go_at_call 16; exact Calls.quiet_of_same (CB.out _)))
        have R1 : Hid (RW B g n c w0 (wr.drewN nq) L) := R.out.drew nq
        clear q1 q2 q1' q2' R CB
        generalize wr.drewN nq = wq at R1 ⊢
        go_wp2_with fail
        go_roundw
        case rel => exact ⟨i, k, hi, by omega, by omega, rfl, rfl, R1, Q1, Q3⟩
        case measure => simp [intOf]; omega
      · have Q3 : Hid (k + 1 = a ∨ ¬ pl (L.getD m 0) < pl (L.getD (k + 1 - 1) 0)) := QY.out fun h => hz (cz.2 h)
        clear QY cz Q1
        generalize cv (pl u) (pl v) = z at hz CB
        have dz : decide (z < 0) = false := by simp; omega
        go_wp2_with fail
        go_quiet ((go_at_call 16; exact Calls.quiet_of_same (CB.out _)))
        have R1 : Hid (RW B g n c w0 (wr.drewN nq) L) := R.out.drew nq
        clear q1 q2 q1' q2' R CB
        generalize wr.drewN nq = wq at R1 ⊢
        go_wp2_with fail
        go_roundw
        case rel => exact ⟨k + 1, j, by omega, by omega, hj, by go_num, rfl, R1, Q3, Q2⟩
        case measure => simp [intOf]; omega
    · have hji : j = i := by omega
      subst hji
      have FIN : Hid (∀ M, (∀ x, M.getD x 0 = shd L m j x) → Srt pl M a b) := fun M hM => (by rw [HMB.out]; exact shd_srt (i := j) hM SR.out hi hj Q1.out Q2.out)
      clear Q1 Q2 SR BY
      go_wp2_with fail
      go_loopw [17] (fun sk wr => ∃ (k : Nat) (M : List Nat), j ≤ k ∧ k ≤ m ∧ sk = .int .i64 k ∧ Hid (RW B g n c w0 wr M) ∧ Hid (PM a b L M) ∧ Hid (∀ x, M.getD x 0 = shd L m k x)) (fun sk _ => (intOf sk).toNat)
      case atStart => exact ⟨m, L, hj, Nat.le_refl _, rfl, R, PM.refl _ _ _, shd_zero L m⟩
      case round =>
        clear R
        obtain ⟨k, M, hk, hke, rfl, R, P, F⟩ := hrel
        by_cases hlt2 : j < k
        · have i1 : (j : Int) < (k : Int) := by omega
          have hml : M.length = n := R.out.len
          obtain ⟨y, hy⟩ : ∃ y, y = k - 1 := ⟨_, rfl⟩
          have i2 : (k : Int) - 1 = (y : Int) := by omega
          have i3 : (y : Int) < (n : Int) := by omega
          have i4 : (k : Int) < (n : Int) := by omega
          have i5 : (0 : Int) ≤ (y : Int) := by omega
          have i6 : (0 : Int) ≤ (k : Int) := by omega
          have q1 : wr.drew.cell? ⟨g, k, none⟩ = some (.float .f64 (M.getD k 0)) := R.out.get k (by omega)
          have q2 : wr.drew.cell? ⟨g, y, none⟩ = some (.float .f64 (M.getD y 0)) := R.out.get y (by omega)
          have f1 : wr.drew.frozen? ⟨g, k, none⟩ = false := R.out.fz k
          have f2 : (wr.setCell ⟨g, k, none⟩ (.float .f64 (M.getD y 0))).drew.frozen? ⟨g, y, none⟩ = false := ((R.out.put hB k _ (R.out.bd y)).drew 1).fz y
          have q3 : (wr.setCell ⟨g, k, none⟩ (.float .f64 (M.getD y 0))).drew.cell? ⟨g, y, none⟩ = some (.float .f64 (M.getD y 0)) := R.out.two hB k y _ (by omega) (by omega) (R.out.bd y)
          have ne : ¬ k = y := by omega
          have yk : j ≤ y ∧ y < k := by omega
          have S : Hid (RW B g n c w0 ((wr.setCell ⟨g, k, none⟩ (.float .f64 (M.getD y 0))).setCell ⟨g, y, none⟩ (.float .f64 (M.getD k 0))).drew (swp M k y)) := (R.out.swap hB k y).drew 1
          have P' : Hid (PM a b L (swp M k y)) := P.out.trans (swp_pm (by omega) (by omega) (by omega) (by omega) (by omega))
          have F' : Hid (∀ z, (swp M k y).getD z 0 = shd L m y z) := (by rw [hy]; exact shd_step F.out (by omega) hke (by omega))
          clear R P F hy
          generalize M.getD k 0 = u at *
          generalize M.getD y 0 = v at *
          go_wp2_with fail
          go_region
          go_wp2_with fail
          go_roundw
          case rel => exact ⟨y, _, by omega, by omega, by go_num, S, P', F'⟩
          case measure => simp [intOf]; omega
        · have hke' : k = j := by omega
          subst hke'
          have SS : Hid (Srt pl M a b) := FIN.out M F.out
          clear F FIN
          go_wp2_with fail
          (try simp only [Exit.inBlock, Exit.then]); refine bodyPost_ret (results_none rfl _ _ _) rfl ?_
          exact ⟨rfl, M, R.out, P.out, SS.out⟩
end Go.Proofs.Ytfjkchkcgnjkaaa.Srt
