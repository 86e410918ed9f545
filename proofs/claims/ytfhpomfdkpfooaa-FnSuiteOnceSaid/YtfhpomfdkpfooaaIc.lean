/- CrashRun: the program. -/
import Derived.Test.YtfhpomfdkpfooaaPg
namespace Go.Proofs.Ytfhpomfdkpfooaa.Ty
open Go.ChangeShapes Go.WideShapes Go.ChangeAt Go.RowKit
open Go.Proofs.Ytfhpomfdkpfooaa.Lists Go.Proofs.Ytfhpomfdkpfooaa.Tm Go.Proofs.Ytfhpomfdkpfooaa.Rk Go.Proofs.Ytfhpomfdkpfooaa.Ru Go.Proofs.Ytfhpomfdkpfooaa.Al

theorem jok_bd {R : Tk.Ls} {X : List Int} {now : Int} {J : Jb.Ls} (h : okR R X now J = true) (i : Nat) (hi : i < J.length) : 0 ≤ tr J i ∧ tr J i ≤ 5 := by
  obtain ⟨o1, _, o3⟩ := okR_parts h
  have F := fit_of o1
  simp only [okR, Bool.and_eq_true] at h
  have hj := all_at h.2.1 i hi
  simp only [jok, Bool.and_eq_true] at hj
  have h2 := hj.1.2
  rw [inn_eq, Bool.and_eq_true, decide_eq_true_eq, decide_eq_true_eq] at h2
  have := F.most i (by omega)
  omega

set_option maxHeartbeats 2000000 in
theorem icrash_no (R : Tk.Ls) (X : List Int) (now : Int) (J : Jb.Ls) (vr vx vj : Value) (w : World) (hh : RR w vr vx vj R X J) (hk : okR R X now J = false) :
    Calls Try.prog 18 #[rv vr vx now vj] w fun e w' => e = .returned (rv nilS nilS 0 nilS) ∧ Below w.heap.size w w' := by
  obtain ⟨ar, cr, er⟩ := hh.1.form
  obtain ⟨ax, cx, ex⟩ := hh.2.1.form
  obtain ⟨aj, cj, ej⟩ := hh.2.2.form
  obtain ⟨w0, hw0⟩ : ∃ w0, w0 = (w.alloc (.cells #[vr, vx, .int .i64 now, vj] 30)).alloc (.cells #[nilS, nilS, .int .i64 0, nilS] 30) := ⟨_, rfl⟩
  have HW0 : Hid (w0 = (w.alloc (.cells #[vr, vx, .int .i64 now, vj] 30)).alloc (.cells #[nilS, nilS, .int .i64 0, nilS] 30)) := hw0
  have B0 : Hid (Below w.heap.size w w0) := (by show Below _ _ _; rw [hw0]; exact ((Below.refl _ _).alloc (Nat.le_refl _) _).alloc (by simp) _)
  have Y0 : Hid (Hd w0 w.heap.size vr vx now vj) := (by show Hd _ _ _ _ _ _; rw [hw0]; exact Hd.new w vr vx now vj)
  have Z0 : Hid (w0.heap.size = w.heap.size + 2) := (by show _ = _; rw [hw0]; simp)
  have C1 : Hid (Calls Try.prog 28 #[rv vr vx now vj] w0 fun e w' => e = .returned noRun ∧ Below w0.heap.size w0 w') := tied_no R X now J vr vx vj w0 (hh.on B0.out) hk
  obtain ⟨y0, y1, y2, y3⟩ := Y0.out.s
  subst er ex ej
  generalize R.length = n at *
  generalize X.length = m at *
  generalize J.length = k at *
  clear hh hw0 hk
  go_enter Try.func18, Try.ntmps18
  go_wp2_with fail
  rw [← HW0.out]
  refine (Calls.mono C1.out) ?_
  rintro e w1 ⟨rfl, hb⟩
  have B1 : Hid (Below w.heap.size w w1) := B0.out.trans (hb.mono B0.out.size)
  have Y1 : Hid (Hd w1 w.heap.size (.slice ar n cr) (.slice ax m cx) now (.slice aj k cj)) := Y0.out.on hb
  have BA : Hid (Below w.heap.size w (w1.alloc (.cells #[nilS, nilS, .int .i64 0, nilS] 30))) := B1.out.alloc B1.out.size _
  clear y0 y1 y2 y3 hb HW0 Y0 C1
  have rl := Y1.out.res.lt
  have rne : ¬ w.heap.size + 1 = w1.heap.size := by omega
  have z0 : w1.cell? ⟨w.heap.size + 1, 0, none⟩ = some nilS := (Y1.out.res.cell 0).trans rfl
  have z1 : w1.cell? ⟨w.heap.size + 1, 1, none⟩ = some nilS := (Y1.out.res.cell 1).trans rfl
  have z2 : w1.cell? ⟨w.heap.size + 1, 2, none⟩ = some (.int .i64 0) := (Y1.out.res.cell 2).trans rfl
  have z3 : w1.cell? ⟨w.heap.size + 1, 3, none⟩ = some nilS := (Y1.out.res.cell 3).trans rfl
  have f0 := Y1.out.res.fz 0
  have f1 := Y1.out.res.fz 1
  have f2 := Y1.out.res.fz 2
  have f3 := Y1.out.res.fz 3
  go_wp2_with fail
  have QB : Bl (((((w1.setCell ⟨w.heap.size + 1, 0, none⟩ nilS).setCell ⟨w.heap.size + 1, 1, none⟩ nilS).setCell ⟨w.heap.size + 1, 2, none⟩ (.int .i64 0)).setCell ⟨w.heap.size + 1, 3, none⟩ nilS).alloc (.cells #[nilS, nilS, .int .i64 0, nilS] 30)) (w.heap.size + 1) 30 z35 := (bl_set4 Y1.out.res _ _ _ _).on ((Below.refl _ _).alloc (Nat.le_refl _) _)
  have BB : Below w.heap.size w (((((w1.setCell ⟨w.heap.size + 1, 0, none⟩ nilS).setCell ⟨w.heap.size + 1, 1, none⟩ nilS).setCell ⟨w.heap.size + 1, 2, none⟩ (.int .i64 0)).setCell ⟨w.heap.size + 1, 3, none⟩ nilS).alloc (.cells #[nilS, nilS, .int .i64 0, nilS] 30)) := (bel4 B1.out (Nat.le_succ _) _ _ _ _).alloc (bel4 B1.out (Nat.le_succ _) _ _ _ _).size _
  generalize (((((w1.setCell ⟨w.heap.size + 1, 0, none⟩ nilS).setCell ⟨w.heap.size + 1, 1, none⟩ nilS).setCell ⟨w.heap.size + 1, 2, none⟩ (.int .i64 0)).setCell ⟨w.heap.size + 1, 3, none⟩ nilS).alloc (.cells #[nilS, nilS, .int .i64 0, nilS] 30)) = W at QB BB ⊢
  have q0 : W.cell? ⟨w.heap.size + 1, 0, none⟩ = some nilS := (QB.cell 0).trans rfl
  have q1 : W.cell? ⟨w.heap.size + 1, 1, none⟩ = some nilS := (QB.cell 1).trans rfl
  have q2 : W.cell? ⟨w.heap.size + 1, 2, none⟩ = some (.int .i64 0) := (QB.cell 2).trans rfl
  have q3 : W.cell? ⟨w.heap.size + 1, 3, none⟩ = some nilS := (QB.cell 3).trans rfl
  exact bodyPost_ret (v := rv nilS nilS 0 nilS) (by simp [results, Try.results18, go_sem, q0, q1, q2, q3]) rfl ⟨rfl, BB⟩

set_option maxHeartbeats 4000000 in
theorem icrash_yes (R : Tk.Ls) (X : List Int) (now : Int) (J : Jb.Ls) (vr vx vj : Value) (w : World) (hh : RR w vr vx vj R X J) (hk : okR R X now J = true) :
    Calls Try.prog 18 #[rv vr vx now vj] w fun e w' => ∃ ra rc xa xc ja jc, e = .returned (rv (.slice ra R.length rc) (.slice xa X.length xc) now (.slice ja J.length jc)) ∧ (∃ xs, RO w' w.heap.size (.slice ra R.length rc) (.slice xa X.length xc) (.slice ja J.length jc) xs R X (crs J J.length)) ∧ Below w.heap.size w w' := by
  obtain ⟨ar, cr, er⟩ := hh.1.form
  obtain ⟨ax, cx, ex⟩ := hh.2.1.form
  obtain ⟨aj, cj, ej⟩ := hh.2.2.form
  obtain ⟨w0, hw0⟩ : ∃ w0, w0 = (w.alloc (.cells #[vr, vx, .int .i64 now, vj] 30)).alloc (.cells #[nilS, nilS, .int .i64 0, nilS] 30) := ⟨_, rfl⟩
  have HW0 : Hid (w0 = (w.alloc (.cells #[vr, vx, .int .i64 now, vj] 30)).alloc (.cells #[nilS, nilS, .int .i64 0, nilS] 30)) := hw0
  have B0 : Hid (Below w.heap.size w w0) := (by show Below _ _ _; rw [hw0]; exact ((Below.refl _ _).alloc (Nat.le_refl _) _).alloc (by simp) _)
  have Y0 : Hid (Hd w0 w.heap.size vr vx now vj) := (by show Hd _ _ _ _ _ _; rw [hw0]; exact Hd.new w vr vx now vj)
  have Z0 : Hid (w0.heap.size = w.heap.size + 2) := (by show _ = _; rw [hw0]; simp)
  have C1 : Hid (Calls Try.prog 28 #[rv vr vx now vj] w0 fun e w' => ∃ ra rc xa xc jb jc tb h xs u a P, e = .returned (.tuple #[rv (.slice ra R.length rc) (.slice xa X.length xc) now (.slice (some ⟨jb, 0, none⟩) J.length jc), .slice (some ⟨tb, 0, none⟩) R.length R.length, .bool true]) ∧
      Tied w0.heap.size R X J (.slice ra R.length rc) (.slice xa X.length xc) jb jc tb h xs u a P (fun g => rn R J g R.length) (fun _ => false) w' ∧ Below w0.heap.size w0 w') := tied_yes R X now J vr vx vj w0 (hh.on B0.out) hk
  obtain ⟨y0, y1, y2, y3⟩ := Y0.out.s
  obtain ⟨o1, o2, o3⟩ := okR_parts hk
  have F := fit_of o1
  have n60 := F.r60
  subst er ex ej
  obtain ⟨n, hn⟩ : ∃ n, R.length = n := ⟨_, rfl⟩
  obtain ⟨m, hm⟩ : ∃ m, X.length = m := ⟨_, rfl⟩
  have HN : Hid (R.length = n) := hn
  have HM : Hid (X.length = m) := hm
  have HJ : Hid (J.length = n) := o3.trans hn
  simp only [o3, hn, hm] at y0 y1 y2 y3 HW0 Y0 n60
  have C2 : Hid (Calls Try.prog 28 #[rv (.slice ar n cr) (.slice ax m cx) now (.slice aj n cj)] w0 fun e w' => ∃ ra rc xa xc jb jc tb h xs u a P, e = .returned (.tuple #[rv (.slice ra n rc) (.slice xa m xc) now (.slice (some ⟨jb, 0, none⟩) n jc), .slice (some ⟨tb, 0, none⟩) n n, .bool true]) ∧
      Tied w0.heap.size R X J (.slice ra n rc) (.slice xa m xc) jb jc tb h xs u a P (fun g => rn R J g n) (fun _ => false) w' ∧ Below w0.heap.size w0 w') := (by have := C1.out; simp only [o3, hn, hm] at this; exact this)
  have JB : Hid (∀ i, i < n → 0 ≤ tr J i ∧ tr J i ≤ 5) := fun i hi => jok_bd hk i (by omega)
  simp only [o3, hn, hm]
  clear hh hw0 hk o1 o2 o3 hn hm F C1
  go_enter Try.func18, Try.ntmps18
  go_wp2_with fail
  rw [← HW0.out]
  refine (Calls.mono C2.out) ?_
  rintro e w1 ⟨ra, rc, xa, xc, jb, jc, tb, h, xs, u, a, P, rfl, t1, b1⟩
  have B1 : Below w.heap.size w w1 := B0.out.trans (b1.mono B0.out.size)
  have Y1 := Y0.out.on b1
  obtain ⟨w2, hw2⟩ : ∃ y, y = w1.alloc (.cells #[.slice ra n rc, .slice xa m xc, .int .i64 now, .slice (some ⟨jb, 0, none⟩) n jc] 30) := ⟨_, rfl⟩
  have HW2 : Hid (w2 = w1.alloc (.cells #[.slice ra n rc, .slice xa m xc, .int .i64 now, .slice (some ⟨jb, 0, none⟩) n jc] 30)) := hw2
  obtain ⟨nb, hnb⟩ : ∃ nb, nb = w1.heap.size := ⟨_, rfl⟩
  have HNB : Hid (nb = w1.heap.size) := hnb
  have bA : Below w1.heap.size w1 w2 := by rw [hw2]; exact (Below.refl _ _).alloc (Nat.le_refl _) _
  have B2 : Hid (Below w.heap.size w w2) := B1.trans (bA.mono B1.size)
  have X2 : Hid (Bx w2 (w.heap.size + 1) nb (.slice ra n rc) (.slice xa m xc) now (.slice (some ⟨jb, 0, none⟩) n jc)) := ⟨by rw [hw2, hnb]; exact Bl.new w1 30 _, (Y1.on bA).res, by have := Y1.res.lt; omega⟩
  have T2 : Hid (Tied w0.heap.size R X J (.slice ra n rc) (.slice xa m xc) jb jc tb h xs u a P (fun g => rn R J g n) (fun _ => false) w2) := t1.on bA
  clear hw2 hnb bA B1 Y1 t1 b1 y0 y1 y2 y3 HW0 C2 B0 Y0
  go_upto_region 4 with fail
  rw [← HW2.out, ← HNB.out]
  clear HW2 HNB
  go_wp2_with fail
  have CZ : Hid (crs J 0 = J) := crs_zero J
  go_loopw [19] (fun c wr => ∃ (k : Nat), k ≤ n ∧ c = .int .i64 k ∧ Hid (Tied w0.heap.size R X (crs J k) (.slice ra n rc) (.slice xa m xc) jb jc tb h xs u a P (fun g => rn R J g n) (fun _ => false) wr) ∧ Hid (Bx wr (w.heap.size + 1) nb (.slice ra n rc) (.slice xa m xc) now (.slice (some ⟨jb, 0, none⟩) n jc)) ∧ Hid (Below w.heap.size w wr)) (fun c _ => n - (intOf c).toNat)
  case atStart => exact ⟨0, Nat.zero_le _, rfl, by rw [CZ.out]; exact T2, X2, B2⟩
  case round =>
    clear T2 X2 B2 CZ
    obtain ⟨k, hk, rfl, T, BX, BW⟩ := hrel
    by_cases hlt : k < n
    · have hkR : k < R.length := by rw [HN.out]; exact hlt
      have hkJ : k < J.length := by rw [HJ.out]; exact hlt
      have hkC : k < (crs J k).length := by rw [crs_len]; exact hkJ
      have tk := T.out.task k hkR
      obtain ⟨_, _, _, t5, _⟩ := T.out.cells k hkR
      obtain ⟨j0, j1, f0, f1⟩ := T.out.job k hkC
      obtain ⟨e0, e1⟩ := crs_same J k hkJ
      have j0' : wr.cell? ⟨jb, k * 2, none⟩ = some (.int .i64 (hw J k)) := by rw [← e0]; exact j0
      have j1' : wr.cell? ⟨jb, k * 2 + 1, none⟩ = some (.int .i64 (tr J k)) := by rw [← e1]; exact j1
      have i0 : (0 : Int) ≤ (k : Int) := by omega
      have i1 : (k : Int) < (n : Int) := by omega
      clear j0 j1 e0 e1
      by_cases hs : hw J k = 1
      · obtain ⟨r1, r2⟩ := two_jobs T.out.ro.2 k hkC 0 (tr J k - 1)
        rw [crs_yes hkJ hs] at r1
        have ht := jrow_ty T.out.ro.2
        have TN := T.out.jobs r2 (by rw [crs_len, crs_len]) r1
        have XN := BX.out.off (e := 34) r2 ht (by decide)
        have BN : Hid (Below w.heap.size w ((wr.setCell ⟨jb, k * 2, none⟩ (.int .i64 0)).setCell ⟨jb, k * 2 + 1, none⟩ (.int .i64 (tr J k - 1)))) := (by
          have hlo := (T.out.ro.bs jb (Or.inr rfl)).1
          have := Z0.out
          exact BW.out.trans (r2.below BW.out.size (fun b hb => by have hb' : b = jb := hb; omega)))
        have TH : Hid (Tied w0.heap.size R X (crs J (k + 1)) (.slice ra n rc) (.slice xa m xc) jb jc tb h xs u a P (fun g => rn R J g n) (fun _ => false) ((wr.setCell ⟨jb, k * 2, none⟩ (.int .i64 0)).setCell ⟨jb, k * 2 + 1, none⟩ (.int .i64 (tr J k - 1)))) := TN
        have XH : Hid (Bx ((wr.setCell ⟨jb, k * 2, none⟩ (.int .i64 0)).setCell ⟨jb, k * 2 + 1, none⟩ (.int .i64 (tr J k - 1))) (w.heap.size + 1) nb (.slice ra n rc) (.slice xa m xc) now (.slice (some ⟨jb, 0, none⟩) n jc)) := XN
        rw [hs] at j0'
        have BD := JB.out k hlt
        clear r1 r2 ht TN XN T BX BW hkC hs
        generalize tr J k = tz at *
        go_wp2_with fail
        go_roundw
        case rel => exact ⟨k + 1, by omega, by go_num, TH, XH, BN⟩
        case measure => simp [intOf]; omega
      · have hs2 : (hw J k == 1) = false := by simpa using hs
        have TN : Hid (Tied w0.heap.size R X (crs J (k + 1)) (.slice ra n rc) (.slice xa m xc) jb jc tb h xs u a P (fun g => rn R J g n) (fun _ => false) wr) := (by rw [← crs_no hs]; exact T)
        clear T
        go_wp2_with fail
        go_roundw
        case rel => exact ⟨k + 1, by omega, by go_num, TN, BX, BW⟩
        case measure => simp [intOf]; omega
    · have ek : k = n := by omega
      subst ek
      obtain ⟨⟨c0, c1, c2, c3⟩, ⟨z0, z1, z2, z3⟩, ⟨f0, f1, f2, f3⟩⟩ := BX.out.s
      have nne := BX.out.ne
      have i1 : ¬ (k : Int) < (k : Int) := by omega
      go_wp2_with fail
      refine bodyPost_ret (v := rv (.slice ra k rc) (.slice xa m xc) now (.slice (some ⟨jb, 0, none⟩) k jc)) (by simp [results, Try.results18, go_sem, z0, z1, z2, z3]) rfl ⟨ra, rc, xa, xc, some ⟨jb, 0, none⟩, jc, rfl, ⟨xs, ?_⟩, bel4 BW.out (by omega) _ _ _ _⟩
      have q := (T.out.box (kb4 wr (w.heap.size + 1) (.slice ra k rc) (.slice xa m xc) (.int .i64 now) (.slice (some ⟨jb, 0, none⟩) k jc)) BX.out.res.ty).ro
      rw [crs_len, HJ.out] at q
      exact ro_down q (by have := Z0.out; omega)
end Go.Proofs.Ytfhpomfdkpfooaa.Ty
