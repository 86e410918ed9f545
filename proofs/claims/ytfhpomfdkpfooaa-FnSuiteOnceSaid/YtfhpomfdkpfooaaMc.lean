/- CrashRun: the model. -/
import Derived.Test.YtfhpomfdkpfooaaSc
import Derived.Test.YtfhpomfdkpfooaaIc
namespace Go.Proofs.Ytfhpomfdkpfooaa.Ty
open Go.ChangeShapes Go.WideShapes Go.ChangeAt Go.RowKit
open Go.Proofs.Ytfhpomfdkpfooaa.Lists Go.Proofs.Ytfhpomfdkpfooaa.Tm Go.Proofs.Ytfhpomfdkpfooaa.Rk Go.Proofs.Ytfhpomfdkpfooaa.Ru Go.Proofs.Ytfhpomfdkpfooaa.Al

set_option maxHeartbeats 2000000 in
theorem scrash_no (R : Tk.Ls) (X : List Int) (now : Int) (J : Jb.Ls) (vr vx vj : Value) (w : World) (hh : RR w vr vx vj R X J) (hk : okR R X now J = false) :
    Calls Try.prog 58 #[rv vr vx now vj] w fun e w' => e = .returned (rv nilS nilS 0 nilS) ∧ Below w.heap.size w w' := by
  obtain ⟨ar, cr, er⟩ := hh.1.form
  obtain ⟨ax, cx, ex⟩ := hh.2.1.form
  obtain ⟨aj, cj, ej⟩ := hh.2.2.form
  obtain ⟨w0, hw0⟩ : ∃ w0, w0 = (w.alloc (.cells #[vr, vx, .int .i64 now, vj] 30)).alloc (.cells #[nilS, nilS, .int .i64 0, nilS] 30) := ⟨_, rfl⟩
  have HW0 : Hid (w0 = (w.alloc (.cells #[vr, vx, .int .i64 now, vj] 30)).alloc (.cells #[nilS, nilS, .int .i64 0, nilS] 30)) := hw0
  have B0 : Hid (Below w.heap.size w w0) := (by show Below _ _ _; rw [hw0]; exact ((Below.refl _ _).alloc (Nat.le_refl _) _).alloc (by simp) _)
  have Y0 : Hid (Hd w0 w.heap.size vr vx now vj) := (by show Hd _ _ _ _ _ _; rw [hw0]; exact Hd.new w vr vx now vj)
  have Z0 : Hid (w0.heap.size = w.heap.size + 2) := (by show _ = _; rw [hw0]; simp)
  have C1 : Hid (∀ W, Below w.heap.size w W → Calls Try.prog 25 #[rv vr vx now vj] W fun e w' => e = .returned (.bool false) ∧ Below W.heap.size W w') := fun W hb => (by rw [← hk]; exact sok_any R X now J vr vx vj W (hh.on hb))
  obtain ⟨y0, y1, y2, y3⟩ := Y0.out.s
  subst er ex ej
  generalize R.length = n at *
  generalize X.length = m at *
  generalize J.length = k at *
  clear hh hw0 hk
  go_enter Try.func58, Try.ntmps58
  go_wp2_with fail
  rw [← HW0.out]
  refine (C1.out w0 B0.out).mono ?_
  rintro e w1 ⟨rfl, hb⟩
  have B1 : Hid (Below w.heap.size w w1) := B0.out.trans (hb.mono B0.out.size)
  have Y1 : Hid (Hd w1 w.heap.size (.slice ar n cr) (.slice ax m cx) now (.slice aj k cj)) := Y0.out.on hb
  clear y0 y1 y2 y3 hb HW0 Y0 C1
  have z0 : w1.cell? ⟨w.heap.size + 1, 0, none⟩ = some nilS := (Y1.out.res.cell 0).trans rfl
  have z1 : w1.cell? ⟨w.heap.size + 1, 1, none⟩ = some nilS := (Y1.out.res.cell 1).trans rfl
  have z2 : w1.cell? ⟨w.heap.size + 1, 2, none⟩ = some (.int .i64 0) := (Y1.out.res.cell 2).trans rfl
  have z3 : w1.cell? ⟨w.heap.size + 1, 3, none⟩ = some nilS := (Y1.out.res.cell 3).trans rfl
  have f0 := Y1.out.res.fz 0
  have f1 := Y1.out.res.fz 1
  have f2 := Y1.out.res.fz 2
  have f3 := Y1.out.res.fz 3
  go_wp2_with fail
  exact bodyPost_ret (v := rv nilS nilS 0 nilS) (by simp [results, Try.results58, go_sem, z0, z1, z2, z3]) rfl ⟨rfl, bel4 B1.out (Nat.le_succ _) _ _ _ _⟩

set_option maxHeartbeats 4000000 in
theorem scrash_yes (R : Tk.Ls) (X : List Int) (now : Int) (J : Jb.Ls) (vr vx vj : Value) (w : World) (hh : RR w vr vx vj R X J) (hk : okR R X now J = true) :
    Calls Try.prog 58 #[rv vr vx now vj] w fun e w' => ∃ ra rc xa xc ja jc, e = .returned (rv (.slice ra R.length rc) (.slice xa X.length xc) now (.slice ja J.length jc)) ∧ MO w' w.heap.size (.slice ra R.length rc) (.slice xa X.length xc) (.slice ja J.length jc) R X (crs J J.length) ∧ Below w.heap.size w w' := by
  obtain ⟨ar, cr, er⟩ := hh.1.form
  obtain ⟨ax, cx, ex⟩ := hh.2.1.form
  obtain ⟨aj, cj, ej⟩ := hh.2.2.form
  obtain ⟨w0, hw0⟩ : ∃ w0, w0 = (w.alloc (.cells #[vr, vx, .int .i64 now, vj] 30)).alloc (.cells #[nilS, nilS, .int .i64 0, nilS] 30) := ⟨_, rfl⟩
  have HW0 : Hid (w0 = (w.alloc (.cells #[vr, vx, .int .i64 now, vj] 30)).alloc (.cells #[nilS, nilS, .int .i64 0, nilS] 30)) := hw0
  have B0 : Hid (Below w.heap.size w w0) := (by show Below _ _ _; rw [hw0]; exact ((Below.refl _ _).alloc (Nat.le_refl _) _).alloc (by simp) _)
  have Y0 : Hid (Hd w0 w.heap.size vr vx now vj) := (by show Hd _ _ _ _ _ _; rw [hw0]; exact Hd.new w vr vx now vj)
  have Z0 : Hid (w0.heap.size = w.heap.size + 2) := (by show _ = _; rw [hw0]; simp)
  have C1 : Hid (∀ W, Below w.heap.size w W → Calls Try.prog 25 #[rv vr vx now vj] W fun e w' => e = .returned (.bool true) ∧ Below W.heap.size W w') := fun W hb => (by rw [← hk]; exact sok_any R X now J vr vx vj W (hh.on hb))
  have C2 : Hid (∀ W, Below w.heap.size w W → Calls Try.prog 26 #[rv vr vx now vj] W fun e w' => ∃ ra rc xa xc jb jc, e = .returned (rv (.slice ra R.length rc) (.slice xa X.length xc) now (.slice (some ⟨jb, 0, none⟩) J.length jc)) ∧ MO w' W.heap.size (.slice ra R.length rc) (.slice xa X.length xc) (.slice (some ⟨jb, 0, none⟩) J.length jc) R X J ∧ Below W.heap.size W w') := fun W hb => copy_any R X now J vr vx vj W (hh.on hb) hk
  obtain ⟨y0, y1, y2, y3⟩ := Y0.out.s
  obtain ⟨o1, o2, o3⟩ := okR_parts hk
  have F := fit_of o1
  have HF : Hid (Fit R X) := F
  have n60 := F.r60
  have n1 := F.r1
  have HR : Hid (RR w vr vx vj R X J) := hh
  have JB : Hid (∀ i, i < J.length → 0 ≤ tr J i ∧ tr J i ≤ 5) := fun i hi => jok_bd hk i hi
  have now0 : 0 ≤ now ∧ now ≤ 1000000000000 := by have h2 := o2; rw [inn_eq, Bool.and_eq_true, decide_eq_true_eq, decide_eq_true_eq] at h2; exact h2
  subst er ex ej
  obtain ⟨n, hn⟩ : ∃ n, R.length = n := ⟨_, rfl⟩
  obtain ⟨m, hm⟩ : ∃ m, X.length = m := ⟨_, rfl⟩
  have HN : Hid (R.length = n) := hn
  have HM : Hid (X.length = m) := hm
  have HJ : Hid (J.length = n) := o3.trans hn
  simp only [o3, hn, hm] at y0 y1 y2 y3 HW0 Y0 n60 n1 C1 C2 HR JB ⊢
  clear hh hw0 hk o1 o2 o3 hn hm F
  go_enter Try.func58, Try.ntmps58
  go_wp2_with fail
  rw [← HW0.out]
  refine (C1.out w0 B0.out).mono ?_
  rintro e w1 ⟨rfl, b⟩
  have B1 : Hid (Below w.heap.size w w1) := B0.out.trans (b.mono B0.out.size)
  have Y1 : Hid (Hd w1 w.heap.size (.slice ar n cr) (.slice ax m cx) now (.slice aj n cj)) := Y0.out.on b
  clear y0 y1 y2 y3 b HW0 Y0
  obtain ⟨y0, y1, y2, y3⟩ := Y1.out.s
  go_wp2_with fail
  refine (C2.out w1 B1.out).mono ?_
  rintro e w2 ⟨ra, rc, xa, xc, jb, jc, rfl, t2, b2⟩
  have B2 : Below w.heap.size w w2 := B1.out.trans (b2.mono B1.out.size)
  have Y2 := Y1.out.on b2
  have l1 : w.heap.size + 2 ≤ w1.heap.size := (by have := Y1.out.res.lt; omega)
  obtain ⟨w3, hw3⟩ : ∃ y, y = w2.alloc (.cells #[.slice ra n rc, .slice xa m xc, .int .i64 now, .slice (some ⟨jb, 0, none⟩) n jc] 30) := ⟨_, rfl⟩
  have HW3 : Hid (w3 = w2.alloc (.cells #[.slice ra n rc, .slice xa m xc, .int .i64 now, .slice (some ⟨jb, 0, none⟩) n jc] 30)) := hw3
  obtain ⟨nb, hnb⟩ : ∃ nb, nb = w2.heap.size := ⟨_, rfl⟩
  have HNB : Hid (nb = w2.heap.size) := hnb
  have bA : Below w2.heap.size w2 w3 := by rw [hw3]; exact (Below.refl _ _).alloc (Nat.le_refl _) _
  have B3 : Hid (Below w.heap.size w w3) := B2.trans (bA.mono B2.size)
  have X3 : Hid (Bx w3 (w.heap.size + 1) nb (.slice ra n rc) (.slice xa m xc) now (.slice (some ⟨jb, 0, none⟩) n jc)) := ⟨by rw [hw3, hnb]; exact Bl.new w2 30 _, (Y2.on bA).res, by have := Y2.res.lt; omega⟩
  have A3 : Hid (Bl w3 w.heap.size 30 #[.slice ar n cr, .slice ax m cx, .int .i64 now, .slice aj n cj]) := (Y2.on bA).arg
  have T3 : Hid (MO w3 (w.heap.size + 2) (.slice ra n rc) (.slice xa m xc) (.slice (some ⟨jb, 0, none⟩) n jc) R X J) := (t2.on bA).down l1
  clear hw3 hnb bA Y2 t2 b2 y0 y1 y2 y3 C1 C2 B0 B1 Y1 B2 l1
  go_upto_region 5 with fail
  rw [← HW3.out, ← HNB.out]
  clear HW3 HNB
  have CZ : Hid (crs J 0 = J) := crs_zero J
  go_loopw [4] (fun c wr => ∃ (k : Nat), k ≤ n ∧ c = .int .i64 k ∧ Hid (MO wr (w.heap.size + 2) (.slice ra n rc) (.slice xa m xc) (.slice (some ⟨jb, 0, none⟩) n jc) R X (crs J k)) ∧ Hid (Bx wr (w.heap.size + 1) nb (.slice ra n rc) (.slice xa m xc) now (.slice (some ⟨jb, 0, none⟩) n jc)) ∧ Hid (Below w.heap.size w wr)) (fun c _ => n - (intOf c).toNat)
  case atStart => exact ⟨0, Nat.zero_le _, rfl, by rw [CZ.out]; exact T3, X3, B3⟩
  case round =>
    clear T3 X3 B3 CZ
    obtain ⟨k, hk, rfl, T, BX, BW⟩ := hrel
    obtain ⟨⟨c0, c1, c2, c3⟩, ⟨z0, z1, z2, z3⟩, ⟨f0, f1, f2, f3⟩⟩ := BX.out.s
    by_cases hlt : k < n
    · have hkJ : k < J.length := by rw [HJ.out]; exact hlt
      have hlC : (crs J k).length = n := by rw [crs_len]; exact HJ.out
      have hkC : k < (crs J k).length := by rw [hlC]; exact hlt
      have QR : Jb.Row wr (w.heap.size + 2) (.slice (some ⟨jb, 0, none⟩) (crs J k).length jc) (crs J k) := by rw [hlC]; exact T.out.2.2
      obtain ⟨j0, j1⟩ := jrow_cell QR k hkC
      have g0 := jrow_fz QR (k * 2)
      have g1 := jrow_fz QR (k * 2 + 1)
      obtain ⟨e0, e1⟩ := crs_same J k hkJ
      have j0' : wr.cell? ⟨jb, k * 2, none⟩ = some (.int .i64 (hw J k)) := by rw [← e0]; exact j0
      have j1' : wr.cell? ⟨jb, k * 2 + 1, none⟩ = some (.int .i64 (tr J k)) := by rw [← e1]; exact j1
      have i0 : (0 : Int) ≤ (k : Int) := by omega
      have i1 : (k : Int) < (n : Int) := by omega
      have nj : ¬ nb = jb := (BX.out.box.ty.ne (jrow_ty QR) (by decide))
      clear j0 j1 e0 e1 z0 z1 z2 z3 f0 f1 f2 f3
      by_cases hs : hw J k = 1
      · obtain ⟨r1, r2⟩ := two_jobs QR k hkC 0 (tr J k - 1)
        rw [crs_yes hkJ hs] at r1
        have ht := jrow_ty QR
        have hlo := (QR.lt jb rfl).1
        rw [hlC] at r1
        have TN : Hid (∀ q, MO (((wr.setCell ⟨jb, k * 2, none⟩ (.int .i64 0)).setCell ⟨jb, k * 2 + 1, none⟩ (.int .i64 (tr J k - 1))).drewN q) (w.heap.size + 2) (.slice ra n rc) (.slice xa m xc) (.slice (some ⟨jb, 0, none⟩) n jc) R X (crs J (k + 1))) := fun q => (by
          have tt := T.out
          rw [← hlC] at tt
          have := mo_jobs tt r2 (by rw [hlC]; exact r1)
          rw [hlC] at this
          exact this.on (below_drewN (Below.refl _ _) q))
        have XN : Hid (∀ q, Bx (((wr.setCell ⟨jb, k * 2, none⟩ (.int .i64 0)).setCell ⟨jb, k * 2 + 1, none⟩ (.int .i64 (tr J k - 1))).drewN q) (w.heap.size + 1) nb (.slice ra n rc) (.slice xa m xc) now (.slice (some ⟨jb, 0, none⟩) n jc)) := fun q => (BX.out.off (e := 34) r2 ht (by decide)).on (below_drewN (Below.refl _ _) q)
        have BN : Hid (∀ q, Below w.heap.size w (((wr.setCell ⟨jb, k * 2, none⟩ (.int .i64 0)).setCell ⟨jb, k * 2 + 1, none⟩ (.int .i64 (tr J k - 1))).drewN q)) := fun q => below_drewN (BW.out.trans (r2.below BW.out.size (fun b hb => by have hb' : b = jb := hb; omega))) q
        rw [hs] at j0'
        have BD := JB.out k hlt
        clear r1 r2 ht hlo T BX BW hkC hs QR hlC
        generalize tr J k = tz at *
        go_wp2_with fail
        go_region
        go_wp2_with fail
        go_roundw
        case rel => exact ⟨k + 1, by omega, by go_num, TN.out 1, XN.out 1, BN.out 1⟩
        case measure => simp [intOf]; omega
      · have hs2 : (hw J k == 1) = false := by simpa using hs
        have TN : Hid (MO wr (w.heap.size + 2) (.slice ra n rc) (.slice xa m xc) (.slice (some ⟨jb, 0, none⟩) n jc) R X (crs J (k + 1))) := (by rw [← crs_no hs]; exact T)
        clear T
        go_wp2_with fail
        go_roundw
        case rel => exact ⟨k + 1, by omega, by go_num, TN, BX, BW⟩
        case measure => simp [intOf]; omega
    · have ek : k = n := by omega
      subst ek
      have nne := BX.out.ne
      have i1 : ¬ (k : Int) < (k : Int) := by omega
      go_wp2_with fail
      refine bodyPost_ret (v := rv (.slice ra k rc) (.slice xa m xc) now (.slice (some ⟨jb, 0, none⟩) k jc)) (by simp [results, Try.results58, go_sem, z0, z1, z2, z3]) rfl ⟨ra, rc, xa, xc, some ⟨jb, 0, none⟩, jc, rfl, ?_, bel4 BW.out (by omega) _ _ _ _⟩
      exact (mo_box T.out (kb4 wr (w.heap.size + 1) (.slice ra k rc) (.slice xa m xc) (.int .i64 now) (.slice (some ⟨jb, 0, none⟩) k jc)) BX.out.res.ty).down (by omega)
end Go.Proofs.Ytfhpomfdkpfooaa.Ty
