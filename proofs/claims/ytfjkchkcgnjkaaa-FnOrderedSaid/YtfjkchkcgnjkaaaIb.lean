/- A row of numbers sorted in place: rotation; insertion. -/
import Derived.Test.YtfjkchkcgnjkaaaIa
namespace Go.Proofs.Ytfjkchkcgnjkaaa.Srt
open Go.ChangeShapes Go.WideShapes Go.ChangeAt Go.RowKit
open Go.Proofs.Ytfjkchkcgnjkaaa.Flt Go.Proofs.Ytfjkchkcgnjkaaa.St Go.Proofs.Ytfjkchkcgnjkaaa.Fls
attribute [local go_sem] Fls.run_store_flt

set_option maxHeartbeats 1000000 in
theorem rotate_any (w0 : World) (B g n c : Nat) (hB : B ≤ g) (hn : n ≤ 4000) (a m b : Nat) (ha : a < m) (hm : m < b) (hb : b ≤ n) (L : List Nat) (w : World) (h : RW B g n c w0 w L) (cf : Value) :
    Calls Try.prog 37 #[.slice (some ⟨g, 0, none⟩) n c, .int .i64 (a : Int), .int .i64 (m : Int), .int .i64 (b : Int), cf] w fun e w' => e = .returned (.tuple #[]) ∧ ∃ M, RW B g n c w0 w' M ∧ PM a b L M ∧ ∀ x, M.getD x 0 = rof L a m b x := by
  have H : Hid (RW B g n c w0 w L) := h
  have SW : Hid (∀ (a b k : Nat), a + k ≤ b → b + k ≤ n → ∀ (L : List Nat) (w : World), RW B g n c w0 w L → Calls Try.prog 40 #[.slice (some ⟨g, 0, none⟩) n c, .int .i64 (a : Int), .int .i64 (b : Int), .int .i64 (k : Int), cf] w fun e w' => e = .returned (.tuple #[]) ∧ ∃ M, RW B g n c w0 w' M ∧ PM a (b + k) L M ∧ ∀ x, M.getD x 0 = swf L a b k x) := fun a b k h1 h2 L w hr => swaps_any w0 B g n c hB hn a b k h1 h2 L w hr cf
  clear h
  obtain ⟨i0, hi0⟩ : ∃ i0, i0 = m - a := ⟨_, rfl⟩
  obtain ⟨j0, hj0⟩ : ∃ j0, j0 = b - m := ⟨_, rfl⟩
  have e1 : (m : Int) - (a : Int) = (i0 : Int) := by omega
  have e2 : (b : Int) - (m : Int) = (j0 : Int) := by omega
  have HI : Hid (i0 = m - a ∧ j0 = b - m) := ⟨hi0, hj0⟩
  have hr : i0 + a = m ∧ j0 + m = b := by omega
  clear hi0 hj0
  go_enter Try.func37, Try.ntmps37
  go_wp2_with fail
  go_loopw [10, 11] (fun si sj wr => ∃ (i j : Nat) (M : List Nat), 0 < i ∧ 0 < j ∧ i ≤ i0 ∧ j ≤ j0 ∧ si = .int .i64 i ∧ sj = .int .i64 j ∧ Hid (RW B g n c w0 wr M) ∧ Hid (PM a b L M) ∧ Hid (∀ x, rof M (m - i) m (m + j) x = rof L a m b x)) (fun si sj _ => (intOf si).toNat + (intOf sj).toNat)
  case atStart => exact ⟨i0, j0, L, by omega, by omega, Nat.le_refl _, Nat.le_refl _, rfl, rfl, H, PM.refl _ _ _, fun x => by rw [show m - i0 = a by omega, show m + j0 = b by omega]⟩
  case round =>
    obtain ⟨i, j, M, hi, hj, hii, hjj, rfl, rfl, R, P, F⟩ := hrel
    obtain ⟨p, hp⟩ : ∃ p, p = m - i := ⟨_, rfl⟩
    have i1 : (m : Int) - (i : Int) = (p : Int) := by omega
    have pp : p + i = m := by omega
    rw [← hp] at F
    rcases Nat.lt_trichotomy i j with h | h | h
    · obtain ⟨d, hd⟩ : ∃ d, d = j - i := ⟨_, rfl⟩
      have i2 : (j : Int) - (i : Int) = (d : Int) := by omega
      obtain ⟨y, hy⟩ : ∃ y, y = m + d := ⟨_, rfl⟩
      obtain ⟨y', hy'⟩ : ∃ y', y' = m + j := ⟨_, rfl⟩
      have i3 : (m : Int) + (j : Int) = (y' : Int) := by omega
      have i4 : (y' : Int) - (i : Int) = (y : Int) := by omega
      have i5 : ¬ (i : Int) = (j : Int) := by omega
      have i6 : ¬ (j : Int) < (i : Int) := by omega
      have C := SW.out p y i (by omega) (by omega) M wr R.out
      have CC : Hid (Calls Try.prog 40 #[.slice (some ⟨g, 0, none⟩) n c, .int .i64 (p : Int), .int .i64 (y : Int), .int .i64 (i : Int), cf] wr fun e w' => e = .returned (.tuple #[]) ∧ ∃ D, RW B g n c w0 w' D ∧ PM a b L D ∧ ∀ x, rof D p m (m + d) x = rof L a m b x) := C.mono (by
        rintro e w' ⟨rfl, D, r1, r2, r3⟩
        refine ⟨rfl, D, r1, P.out.trans (r2.mono (by omega) (by omega)), fun x => ?_⟩
        rw [← F.out x, hp, hd]
        refine rof_lt (fun x => ?_) h (by omega) x
        rw [r3 x, hp, show m + j - i = y by omega])
      clear C P F R hp hd hy hy'
      go_wp2_with fail
      refine CC.out.mono ?_
      rintro e w1 ⟨rfl, D, r1, r2, r3⟩
      have R1 : Hid (RW B g n c w0 w1 D) := r1
      have P1 : Hid (PM a b L D) := r2
      have F1 : Hid (∀ x, rof D p m (m + d) x = rof L a m b x) := r3
      clear r1 r2 r3 CC
      go_wp2_with fail
      go_roundw
      case rel => exact ⟨i, d, D, hi, by omega, hii, by omega, rfl, by go_num, R1, P1, by rw [show m - i = p by omega]; exact F1⟩
      case measure => simp [intOf]; omega
    · subst h
      have C := SW.out p m i (by omega) (by omega) M wr R.out
      have CC : Hid (Calls Try.prog 40 #[.slice (some ⟨g, 0, none⟩) n c, .int .i64 (p : Int), .int .i64 (m : Int), .int .i64 (i : Int), cf] wr fun e w' => e = .returned (.tuple #[]) ∧ ∃ D, RW B g n c w0 w' D ∧ PM a b L D ∧ ∀ x, D.getD x 0 = rof L a m b x) := C.mono (by
        rintro e w' ⟨rfl, D, r1, r2, r3⟩
        refine ⟨rfl, D, r1, P.out.trans (r2.mono (by omega) (by omega)), fun x => ?_⟩
        rw [← F.out x, r3 x, hp]
        exact rof_eq (by omega) x)
      clear C P F R hp
      go_wp2_with fail
      refine CC.out.mono ?_
      rintro e w1 ⟨rfl, D, r1, r2, r3⟩
      have R1 : Hid (RW B g n c w0 w1 D) := r1
      have P1 : Hid (PM a b L D) := r2
      have F1 : Hid (∀ x, D.getD x 0 = rof L a m b x) := r3
      clear r1 r2 r3 CC
      go_wp2_with fail
      go_end0
      exact ⟨rfl, D, R1.out, P1.out, F1.out⟩
    · obtain ⟨d, hd⟩ : ∃ d, d = i - j := ⟨_, rfl⟩
      have i2 : (i : Int) - (j : Int) = (d : Int) := by omega
      have i5 : ¬ (i : Int) = (j : Int) := by omega
      have i6 : (j : Int) < (i : Int) := by omega
      have C := SW.out p m j (by omega) (by omega) M wr R.out
      have CC : Hid (Calls Try.prog 40 #[.slice (some ⟨g, 0, none⟩) n c, .int .i64 (p : Int), .int .i64 (m : Int), .int .i64 (j : Int), cf] wr fun e w' => e = .returned (.tuple #[]) ∧ ∃ D, RW B g n c w0 w' D ∧ PM a b L D ∧ ∀ x, rof D (m - d) m (m + j) x = rof L a m b x) := C.mono (by
        rintro e w' ⟨rfl, D, r1, r2, r3⟩
        refine ⟨rfl, D, r1, P.out.trans (r2.mono (by omega) (by omega)), fun x => ?_⟩
        rw [← F.out x, hp, hd]
        refine rof_gt (fun x => ?_) h (by omega) x
        rw [r3 x, hp])
      clear C P F R hp
      go_wp2_with fail
      refine CC.out.mono ?_
      rintro e w1 ⟨rfl, D, r1, r2, r3⟩
      have R1 : Hid (RW B g n c w0 w1 D) := r1
      have P1 : Hid (PM a b L D) := r2
      have F1 : Hid (∀ x, rof D (m - d) m (m + j) x = rof L a m b x) := r3
      clear r1 r2 r3 CC
      go_wp2_with fail
      go_roundw
      case rel => exact ⟨d, j, D, by omega, hj, by omega, hjj, by go_num, rfl, R1, P1, F1⟩
      case measure => simp [intOf]; omega

set_option maxHeartbeats 1000000 in
theorem insert_any (w0 : World) (B g n c : Nat) (hB : B ≤ g) (hn : n ≤ 4000) (a b : Nat) (hab : a ≤ b) (hb : b ≤ n) (L : List Nat) (w : World) (h : RW B g n c w0 w L) :
    Calls Try.prog 29 #[.slice (some ⟨g, 0, none⟩) n c, .int .i64 (a : Int), .int .i64 (b : Int), .func (.func 16) #[] #[]] w fun e w' => e = .returned (.tuple #[]) ∧ ∃ M, RW B g n c w0 w' M ∧ PM a b L M ∧ Srt pl M a b := by
  have H : Hid (RW B g n c w0 w L) := h
  have BY : Hid (∀ (x y : Nat) (w : World), x < 18446744073709551616 → y < 18446744073709551616 → Calls Try.prog 16 #[.float .f64 x, .float .f64 y] w fun e w' => e = .returned (.int .i64 (cv (pl x) (pl y))) ∧ w' = w) := fun x y w h1 h2 => by_any x y w h1 h2
  clear h
  obtain ⟨i0, hi0⟩ : ∃ i0, i0 = a + 1 := ⟨_, rfl⟩
  have e1 : (a : Int) + 1 = (i0 : Int) := by omega
  have hr : a < i0 ∧ i0 ≤ a + 1 := by omega
  clear hi0
  go_enter Try.func29, Try.ntmps29
  go_wp2_with fail
  go_loopw [8] (fun si wr => ∃ (i : Nat) (M : List Nat), a + 1 ≤ i ∧ i ≤ b + 1 ∧ si = .int .i64 i ∧ Hid (RW B g n c w0 wr M) ∧ Hid (PM a b L M) ∧ Hid (Srt pl M a i)) (fun si _ => b + 1 - (intOf si).toNat)
  case atStart => exact ⟨i0, L, by omega, by omega, rfl, H, PM.refl _ _ _, Srt.small (by omega)⟩
  case round =>
    obtain ⟨i, M, hi, hib, rfl, R, P, S⟩ := hrel
    by_cases hlt : i < b
    · have i1 : (i : Int) < (b : Int) := by omega
      have I : Hid (Ins pl M a i i) := Ins.start S.out
      clear S
      go_wp2_with fail
      go_loopw [9] (fun sj wr => ∃ (j : Nat) (M : List Nat), a ≤ j ∧ j ≤ i ∧ sj = .int .i64 j ∧ Hid (RW B g n c w0 wr M) ∧ Hid (PM a b L M) ∧ Hid (Ins pl M a i j)) (fun sj _ => (intOf sj).toNat)
      case atStart => exact ⟨i, M, by omega, Nat.le_refl _, rfl, R, P, I⟩
      case round =>
        clear R P I
        obtain ⟨j, M, hj, hji, rfl, R, P, I⟩ := hrel
        by_cases hja : a < j
        · have k1 : (a : Int) < (j : Int) := by omega
          obtain ⟨y, hy⟩ : ∃ y, y = j - 1 := ⟨_, rfl⟩
          have k2 : (j : Int) - 1 = (y : Int) := by omega
          have hm : M.length = n := R.out.len
          have k4 : (j : Int) < (n : Int) := by omega
          have k5 : (y : Int) < (n : Int) := by omega
          have k6 : (0 : Int) ≤ (j : Int) := by omega
          have k7 : (0 : Int) ≤ (y : Int) := by omega
          have q1 : wr.cell? ⟨g, j, none⟩ = some (.float .f64 (M.getD j 0)) := R.out.get j (by omega)
          have q2 : wr.cell? ⟨g, y, none⟩ = some (.float .f64 (M.getD y 0)) := R.out.get y (by omega)
          have CB : Hid (∀ w, Calls Try.prog 16 #[.float .f64 (M.getD j 0), .float .f64 (M.getD y 0)] w fun e w' => e = .returned (.int .i64 (cv (pl (M.getD j 0)) (pl (M.getD y 0)))) ∧ w' = w) := fun w => BY.out _ _ _ (R.out.bd _) (R.out.bd _)
          have cz := cv_neg (pl (M.getD j 0)) (pl (M.getD y 0))
          have DN : Hid (¬ pl (M.getD j 0) < pl (M.getD y 0) → Srt pl M a (i + 1)) := fun h => I.out.done (Or.inr (by rw [← hy]; exact h))
          have ST : Hid (pl (M.getD j 0) < pl (M.getD y 0) → Ins pl (swp M j y) a i y) := fun h => (by rw [hy] at h ⊢; exact I.out.step hja (by omega) hji h)
          have RR : Hid (∀ m, RW B g n c w0 (wr.drewN m) M) := fun m => R.out.drew m
          clear I R q1 q2
          have q1 : ∀ m, (wr.drewN m).cell? ⟨g, j, none⟩ = some (.float .f64 (M.getD j 0)) := fun m => (RR.out m).get j (by omega)
          have q2 : ∀ m, (wr.drewN m).cell? ⟨g, y, none⟩ = some (.float .f64 (M.getD y 0)) := fun m => (RR.out m).get y (by omega)
          have q1' := q1 0
          have q2' := q2 0
          have hyj : y < j := by omega
          clear hy
          by_cases hz : cv (pl (M.getD j 0)) (pl (M.getD y 0)) < 0
          · have I2 : Hid (Ins pl (swp M j y) a i y) := ST.out (cz.1 hz)
            have P2 : Hid (PM a b L (swp M j y)) := P.out.trans (swp_pm (by omega) (by omega) (by omega) (by omega) (by omega))
            have SW : Hid (∀ m, RW B g n c w0 ((((wr.drewN m).setCell ⟨g, j, none⟩ (.float .f64 (M.getD y 0))).setCell ⟨g, y, none⟩ (.float .f64 (M.getD j 0))).drew) (swp M j y)) := fun m => ((RR.out m).swap hB j y).drew 1
            have FZ : Hid (∀ m, (wr.drewN m).frozen? ⟨g, j, none⟩ = false ∧ ((wr.drewN m).setCell ⟨g, j, none⟩ (.float .f64 (M.getD y 0))).drew.frozen? ⟨g, y, none⟩ = false ∧ ((wr.drewN m).setCell ⟨g, j, none⟩ (.float .f64 (M.getD y 0))).drew.cell? ⟨g, y, none⟩ = some (.float .f64 (M.getD y 0))) := fun m => ⟨(RR.out m).fz j, (((RR.out m).put hB j _ ((RR.out m).bd y)).drew 1).fz y, (RR.out m).two hB j y _ (by omega) (by omega) ((RR.out m).bd y)⟩
            clear ST DN P cz RR
            generalize cv (pl (M.getD j 0)) (pl (M.getD y 0)) = z at hz CB
            generalize M.getD j 0 = u at *
            generalize M.getD y 0 = v at *
            go_wp2_with fail
            go_quiet ((go_at_call 16; exact Calls.quiet_of_same (CB.out _)))
            obtain ⟨f1, f2, q3⟩ := FZ.out nq
            have S1 : Hid _ := SW.out nq
            have q4 := q1 nq
            have q5 := q2 nq
            clear q1 q2 q1' q2' FZ SW CB
            generalize wr.drewN nq = wq at f1 f2 q3 S1 q4 q5 ⊢
            have q6 : wq.drew.cell? ⟨g, j, none⟩ = some (.float .f64 u) := q4
            have q7 : wq.drew.cell? ⟨g, y, none⟩ = some (.float .f64 v) := q5
            have f3 : wq.drew.frozen? ⟨g, j, none⟩ = false := f1
            go_wp2_with fail
            go_region
            go_wp2_with fail
            go_roundw
            case rel => exact ⟨y, _, by omega, by omega, by go_num, S1, P2, I2⟩
            case measure => simp [intOf]; omega
          · have DD : Hid (Srt pl M a (i + 1)) := DN.out fun h => hz (cz.2 h)
            clear ST DN cz
            generalize cv (pl (M.getD j 0)) (pl (M.getD y 0)) = z at hz CB
            generalize M.getD j 0 = u at *
            generalize M.getD y 0 = v at *
            go_wp2_with fail
            go_quiet ((go_at_call 16; exact Calls.quiet_of_same (CB.out _)))
            have R1 : Hid (RW B g n c w0 (wr.drewN nq) M) := RR.out nq
            clear q1 q2 q1' q2' RR CB
            generalize wr.drewN nq = wq at R1 ⊢
            have dz : decide (z < 0) = false := by simp; omega
            rw [dz]
            go_wp2_with fail
            go_roundw
            case rel => exact ⟨i + 1, M, by omega, by omega, by go_num, R1, P, DD⟩
            case measure => simp [intOf]; omega
        · have k1 : decide ((a : Int) < (j : Int)) = false := by simp; omega
          have k1' : ¬ (a : Int) < (j : Int) := by omega
          have DD : Hid (Srt pl M a (i + 1)) := I.out.done (Or.inl (by omega))
          clear I
          go_wp2_with fail
          go_quiet (fail)
          have R1 : Hid (RW B g n c w0 (wr.drewN nq) M) := R.out.drew nq
          clear R
          generalize wr.drewN nq = wq at R1 ⊢
          go_wp2_with fail
          go_roundw
          case rel => exact ⟨i + 1, M, by omega, by omega, by go_num, R1, P, DD⟩
          case measure => simp [intOf]; omega
    · have hbi : b ≤ i := by omega
      have SS : Hid (Srt pl M a b) := S.out.part (Nat.le_refl _) hbi
      clear S
      go_wp2_with fail
      go_end0
      exact ⟨rfl, M, R.out, P.out, SS.out⟩
end Go.Proofs.Ytfjkchkcgnjkaaa.Srt
