/- A row of numbers sorted in place: one number merged into a sorted part. -/
import Derived.Test.YtfjkchkcgnjkaaaIb
namespace Go.Proofs.Ytfjkchkcgnjkaaa.Srt
open Go.ChangeShapes Go.WideShapes Go.ChangeAt Go.RowKit
open Go.Proofs.Ytfjkchkcgnjkaaa.Flt Go.Proofs.Ytfjkchkcgnjkaaa.St Go.Proofs.Ytfjkchkcgnjkaaa.Fls
attribute [local go_sem] Fls.run_store_flt

set_option maxHeartbeats 1000000 in
set_option maxRecDepth 20000 in
theorem mergeA (w0 : World) (B g n c : Nat) (hB : B ≤ g) (hn : n ≤ 4000) (a m b : Nat) (ha : m = a + 1) (hm : m < b) (hb : b ≤ n) (L : List Nat) (w : World) (h : RW B g n c w0 w L) (sr : Srt pl L m b) :
    Calls Try.prog 30 #[.slice (some ⟨g, 0, none⟩) n c, .int .i64 (a : Int), .int .i64 (m : Int), .int .i64 (b : Int), .func (.func 16) #[] #[]] w fun e w' => e = .returned (.tuple #[]) ∧ ∃ M, RW B g n c w0 w' M ∧ PM a b L M ∧ Srt pl M a b := by
  have H : Hid (RW B g n c w0 w L) := h
  have hl := h.len
  have BY : Hid (∀ (x y : Nat) (w : World), Calls Try.prog 16 #[.float .f64 (L.getD x 0), .float .f64 (L.getD y 0)] w fun e w' => e = .returned (.int .i64 (cv (pl (L.getD x 0)) (pl (L.getD y 0)))) ∧ w' = w) := fun x y w => by_any _ _ w (h.bd _) (h.bd _)
  have e1 : (m : Int) - (a : Int) = 1 := by omega
  have SR : Hid (Srt pl L (a + 1) b) := (by rw [← ha]; exact sr)
  have r1 : a < m ∧ m ≤ a + 1 := by omega
  clear h sr ha
  go_enter Try.func30, Try.ntmps30
  go_wp2_with fail
  go_loopw [10, 11, 12] (fun si sj sh wr => ∃ (i j : Nat), m ≤ i ∧ i ≤ j ∧ j ≤ b ∧ si = .int .i64 i ∧ sj = .int .i64 j ∧ Hid (RW B g n c w0 wr L) ∧ Hid (i = a + 1 ∨ pl (L.getD (i - 1) 0) < pl (L.getD a 0)) ∧ Hid (j = b ∨ ¬ pl (L.getD j 0) < pl (L.getD a 0))) (fun si sj _ _ => (intOf sj).toNat - (intOf si).toNat)
  case atStart => exact ⟨m, b, by omega, by omega, by omega, rfl, rfl, H, Or.inl (by omega), Or.inl rfl⟩
  case round =>
    obtain ⟨i, j, hi, hij, hj, rfl, rfl, R, Q1, Q2⟩ := hrel
    by_cases hlt : i < j
    · obtain ⟨k, hk⟩ : ∃ k, k = (i + j) / 2 := ⟨_, rfl⟩
      have k0 : ((i : Int) + (j : Int)) / 2 = (k : Int) := by omega
      have k1 : i ≤ k ∧ k < j := by omega
      have k2 : (k : Int) < (n : Int) := by omega
      have k3 : (a : Int) < (n : Int) := by omega
      obtain ⟨u, hu⟩ : ∃ u, u = L.getD k 0 := ⟨_, rfl⟩
      obtain ⟨v, hv⟩ : ∃ v, v = L.getD a 0 := ⟨_, rfl⟩
      have q1 : ∀ m, (wr.drewN m).cell? ⟨g, k, none⟩ = some (.float .f64 u) := fun m => (by rw [hu]; exact R.out.get k (by omega))
      have q2 : ∀ m, (wr.drewN m).cell? ⟨g, a, none⟩ = some (.float .f64 v) := fun m => (by rw [hv]; exact R.out.get a (by omega))
      have CB : Hid (∀ w, Calls Try.prog 16 #[.float .f64 u, .float .f64 v] w fun e w' => e = .returned (.int .i64 (cv (pl u) (pl v))) ∧ w' = w) := (by rw [hu, hv]; exact fun w => BY.out k a w)
      have cz : cv (pl u) (pl v) < 0 ↔ pl (L.getD k 0) < pl (L.getD a 0) := (by rw [hu, hv]; exact cv_neg _ _)
      clear hu hv
      have i1 : (i : Int) < (j : Int) := by omega
      clear hk
      have QY : Hid (pl (L.getD k 0) < pl (L.getD a 0) → k + 1 = a + 1 ∨ pl (L.getD (k + 1 - 1) 0) < pl (L.getD a 0)) := fun h => Or.inr h
      have q1' := q1 0
      have q2' := q2 0
      by_cases hz : cv (pl u) (pl v) < 0
      · have Q3 : Hid (k + 1 = a + 1 ∨ pl (L.getD (k + 1 - 1) 0) < pl (L.getD a 0)) := QY.out (cz.1 hz)
        clear QY cz Q1
        generalize cv (pl u) (pl v) = z at hz CB
        go_wp2_with fail
        go_quiet ((go_at_call 16; exact Calls.quiet_of_same (CB.out _)))
        have R1 : Hid (RW B g n c w0 (wr.drewN nq) L) := R.out.drew nq
        clear q1 q2 q1' q2' R CB
        generalize wr.drewN nq = wq at R1 ⊢
        have dz : decide (z < 0) = true := by simp; omega
        go_wp2_with fail
        go_roundw
        case rel => exact ⟨k + 1, j, by omega, by omega, hj, by go_num, rfl, R1, Q3, Q2⟩
        case measure => simp [intOf]; omega
      · have Q3 : Hid (k = b ∨ ¬ pl (L.getD k 0) < pl (L.getD a 0)) := Or.inr fun h => hz (cz.2 h)
        clear QY cz Q2
        generalize cv (pl u) (pl v) = z at hz CB
        go_wp2_with fail
        go_quiet ((go_at_call 16; exact Calls.quiet_of_same (CB.out _)))
        have R1 : Hid (RW B g n c w0 (wr.drewN nq) L) := R.out.drew nq
        clear q1 q2 q1' q2' R CB
        generalize wr.drewN nq = wq at R1 ⊢
        have dz : decide (z < 0) = false := by simp; omega
        rw [dz]
        go_wp2_with fail
        go_roundw
        case rel => exact ⟨i, k, hi, by omega, by omega, rfl, rfl, R1, Q1, Q3⟩
        case measure => simp [intOf]; omega
    · have hji : j = i := by omega
      subst hji
      obtain ⟨e0, he0⟩ : ∃ e0, e0 = j - 1 := ⟨_, rfl⟩
      have e2 : (j : Int) - 1 = (e0 : Int) := by omega
      have je : a ≤ e0 ∧ e0 < b ∧ e0 + 1 = j := by omega
      have FIN : Hid (∀ M, (∀ x, M.getD x 0 = shu L a e0 x) → Srt pl M a b) := fun M hM => shu_srt (i := j) (by rw [← he0]; exact hM) SR.out (by omega) hj Q1.out Q2.out
      clear Q1 Q2 SR BY he0
      go_wp2_with fail
      go_loopw [13] (fun sk wr => ∃ (k : Nat) (M : List Nat), a ≤ k ∧ k ≤ e0 ∧ sk = .int .i64 k ∧ Hid (RW B g n c w0 wr M) ∧ Hid (PM a b L M) ∧ Hid (∀ x, M.getD x 0 = shu L a k x)) (fun sk _ => e0 - (intOf sk).toNat)
      case atStart => exact ⟨a, L, Nat.le_refl _, je.1, rfl, R, PM.refl _ _ _, shu_zero L a⟩
      case round =>
        clear R
        obtain ⟨k, M, hk, hke, rfl, R, P, F⟩ := hrel
        by_cases hlt2 : k < e0
        · have i1 : (k : Int) < (e0 : Int) := by omega
          have hml : M.length = n := R.out.len
          obtain ⟨y, hy⟩ : ∃ y, y = k + 1 := ⟨_, rfl⟩
          have i2 : (k : Int) + 1 = (y : Int) := by omega
          have i3 : (y : Int) < (n : Int) := by omega
          have i4 : (k : Int) < (n : Int) := by omega
          have q1 : wr.drew.cell? ⟨g, k, none⟩ = some (.float .f64 (M.getD k 0)) := R.out.get k (by omega)
          have q2 : wr.drew.cell? ⟨g, y, none⟩ = some (.float .f64 (M.getD y 0)) := R.out.get y (by omega)
          have f1 : wr.drew.frozen? ⟨g, k, none⟩ = false := R.out.fz k
          have f2 : (wr.setCell ⟨g, k, none⟩ (.float .f64 (M.getD y 0))).drew.frozen? ⟨g, y, none⟩ = false := ((R.out.put hB k _ (R.out.bd y)).drew 1).fz y
          have q3 : (wr.setCell ⟨g, k, none⟩ (.float .f64 (M.getD y 0))).drew.cell? ⟨g, y, none⟩ = some (.float .f64 (M.getD y 0)) := R.out.two hB k y _ (by omega) (by omega) (R.out.bd y)
          have ne : ¬ k = y := by omega
          have yk : y ≤ e0 ∧ k < y := by omega
          have S : Hid (RW B g n c w0 ((wr.setCell ⟨g, k, none⟩ (.float .f64 (M.getD y 0))).setCell ⟨g, y, none⟩ (.float .f64 (M.getD k 0))).drew (swp M k y)) := (R.out.swap hB k y).drew 1
          have P' : Hid (PM a b L (swp M k y)) := P.out.trans (swp_pm (by omega) (by omega) (by omega) (by omega) (by omega))
          have F' : Hid (∀ z, (swp M k y).getD z 0 = shu L a y z) := (by rw [hy]; exact shu_step F.out hk (by omega))
          clear R P F hy
          generalize M.getD k 0 = u at *
          generalize M.getD y 0 = v at *
          go_wp2_with fail
          go_region
          go_wp2_with fail
          go_roundw
          case rel => exact ⟨y, _, by omega, by omega, by go_num, S, P', F'⟩
          case measure => simp [intOf]; omega
        · have hke' : k = e0 := by omega
          subst hke'
          have SS : Hid (Srt pl M a b) := FIN.out M F.out
          clear F FIN
          go_wp2_with fail
          (try simp only [Exit.inBlock, Exit.then]); refine bodyPost_ret (results_none rfl _ _ _) rfl ?_
          exact ⟨rfl, M, R.out, P.out, SS.out⟩
end Go.Proofs.Ytfjkchkcgnjkaaa.Srt
