/- StartTasks: the program, walked. -/
import Derived.Test.YtfhpomfdkpfooaaIp
import Derived.BigQuiet
namespace Go.Proofs.Ytfhpomfdkpfooaa.Ty
open Go.ChangeShapes Go.WideShapes Go.ChangeAt Go.RowKit
open Go.Proofs.Ytfhpomfdkpfooaa.Lists Go.Proofs.Ytfhpomfdkpfooaa.Tm Go.Proofs.Ytfhpomfdkpfooaa.Rk Go.Proofs.Ytfhpomfdkpfooaa.Ru Go.Proofs.Ytfhpomfdkpfooaa.Al

set_option maxHeartbeats 2000000 in
theorem istart_no (R : Tk.Ls) (X : List Int) (now : Int) (J : Jb.Ls) (vr vx vj : Value) (w : World) (hh : RR w vr vx vj R X J) (hk : okR R X now J = false) :
    Calls Try.prog 19 #[rv vr vx now vj] w fun e w' => e = .returned (.tuple #[rv nilS nilS 0 nilS, nilS]) ∧ Below w.heap.size w w' := by
  obtain ⟨ar, cr, er⟩ := hh.1.form
  obtain ⟨ax, cx, ex⟩ := hh.2.1.form
  obtain ⟨aj, cj, ej⟩ := hh.2.2.form
  obtain ⟨w0, hw0⟩ : ∃ w0, w0 = (w.alloc (.cells #[vr, vx, .int .i64 now, vj] 30)).alloc (.cells #[nilS, nilS, .int .i64 0, nilS] 30) := ⟨_, rfl⟩
  have HW0 : Hid (w0 = (w.alloc (.cells #[vr, vx, .int .i64 now, vj] 30)).alloc (.cells #[nilS, nilS, .int .i64 0, nilS] 30)) := hw0
  have B0 : Hid (Below w.heap.size w w0) := (by show Below _ _ _; rw [hw0]; exact ((Below.refl _ _).alloc (Nat.le_refl _) _).alloc (by simp) _)
  have Y0 : Hid (Hd w0 w.heap.size vr vx now vj) := (by show Hd _ _ _ _ _ _; rw [hw0]; exact Hd.new w vr vx now vj)
  have Z0 : Hid (w0.heap.size = w.heap.size + 2) := (by show _ = _; rw [hw0]; simp)
  have C1 : Hid (Calls Try.prog 28 #[rv vr vx now vj] w0 fun e w' => e = .returned noRun ∧ Below w0.heap.size w0 w') := tied_no R X now J vr vx vj w0 (hh.on B0.out) hk
  obtain ⟨y0, y1, y2, y3⟩ := Y0.out.s
  subst er ex ej
  generalize R.length = n at *
  generalize X.length = m at *
  generalize J.length = k at *
  clear hh hw0 hk
  go_enter Try.func19, Try.ntmps19
  go_wp2_with fail
  rw [← HW0.out]
  refine (Calls.mono C1.out) ?_
  rintro e w1 ⟨rfl, hb⟩
  have B1 : Hid (Below w.heap.size w w1) := B0.out.trans (hb.mono B0.out.size)
  have Y1 : Hid (Hd w1 w.heap.size (.slice ar n cr) (.slice ax m cx) now (.slice aj k cj)) := Y0.out.on hb
  have BA : Hid (Below w.heap.size w (w1.alloc (.cells #[nilS, nilS, .int .i64 0, nilS] 30))) := B1.out.alloc B1.out.size _
  clear y0 y1 y2 y3 hb HW0 Y0 C1
  have rl := Y1.out.res.lt
  have rne : ¬ w.heap.size + 1 = w1.heap.size := by omega
  have z0 : w1.cell? ⟨w.heap.size + 1, 0, none⟩ = some nilS := (Y1.out.res.cell 0).trans rfl
  have z1 : w1.cell? ⟨w.heap.size + 1, 1, none⟩ = some nilS := (Y1.out.res.cell 1).trans rfl
  have z2 : w1.cell? ⟨w.heap.size + 1, 2, none⟩ = some (.int .i64 0) := (Y1.out.res.cell 2).trans rfl
  have z3 : w1.cell? ⟨w.heap.size + 1, 3, none⟩ = some nilS := (Y1.out.res.cell 3).trans rfl
  have f0 := Y1.out.res.fz 0
  have f1 := Y1.out.res.fz 1
  have f2 := Y1.out.res.fz 2
  have f3 := Y1.out.res.fz 3
  go_wp2_with fail
  have QB : Bl (((((w1.setCell ⟨w.heap.size + 1, 0, none⟩ nilS).setCell ⟨w.heap.size + 1, 1, none⟩ nilS).setCell ⟨w.heap.size + 1, 2, none⟩ (.int .i64 0)).setCell ⟨w.heap.size + 1, 3, none⟩ nilS).alloc (.cells #[nilS, nilS, .int .i64 0, nilS] 30)) (w.heap.size + 1) 30 z35 := (bl_set4 Y1.out.res _ _ _ _).on ((Below.refl _ _).alloc (Nat.le_refl _) _)
  have BB : Below w.heap.size w (((((w1.setCell ⟨w.heap.size + 1, 0, none⟩ nilS).setCell ⟨w.heap.size + 1, 1, none⟩ nilS).setCell ⟨w.heap.size + 1, 2, none⟩ (.int .i64 0)).setCell ⟨w.heap.size + 1, 3, none⟩ nilS).alloc (.cells #[nilS, nilS, .int .i64 0, nilS] 30)) := (bel4 B1.out (Nat.le_succ _) _ _ _ _).alloc (bel4 B1.out (Nat.le_succ _) _ _ _ _).size _
  generalize (((((w1.setCell ⟨w.heap.size + 1, 0, none⟩ nilS).setCell ⟨w.heap.size + 1, 1, none⟩ nilS).setCell ⟨w.heap.size + 1, 2, none⟩ (.int .i64 0)).setCell ⟨w.heap.size + 1, 3, none⟩ nilS).alloc (.cells #[nilS, nilS, .int .i64 0, nilS] 30)) = W at QB BB ⊢
  have q0 : W.cell? ⟨w.heap.size + 1, 0, none⟩ = some nilS := (QB.cell 0).trans rfl
  have q1 : W.cell? ⟨w.heap.size + 1, 1, none⟩ = some nilS := (QB.cell 1).trans rfl
  have q2 : W.cell? ⟨w.heap.size + 1, 2, none⟩ = some (.int .i64 0) := (QB.cell 2).trans rfl
  have q3 : W.cell? ⟨w.heap.size + 1, 3, none⟩ = some nilS := (QB.cell 3).trans rfl
  exact bodyPost_ret (v := .tuple #[rv nilS nilS 0 nilS, nilS]) (by simp [results, Try.results19, go_sem, q0, q1, q2, q3]) rfl ⟨rfl, BB⟩

set_option maxHeartbeats 4000000 in
set_option maxRecDepth 20000 in
theorem istart_yes (R : Tk.Ls) (X : List Int) (now : Int) (J : Jb.Ls) (vr vx vj : Value) (w : World) (hh : RR w vr vx vj R X J) (hk : okR R X now J = true) :
    Calls Try.prog 19 #[rv vr vx now vj] w fun e w' => ∃ ra rc xa xc ja jc la lc, e = .returned (.tuple #[rv (.slice ra R.length rc) (.slice xa X.length xc) now (.slice ja J.length jc), .slice la (ln R X J R.length).length lc]) ∧ (∃ xs, RO w' w.heap.size (.slice ra R.length rc) (.slice xa X.length xc) (.slice ja J.length jc) xs R X (jn R X J R.length) ∧ w'.ownsRow w.heap.size 2 1 (.slice la (ln R X J R.length).length lc) (ln R X J R.length).length (ints (ln R X J R.length)) ∧ ∀ g, RB (.slice ra R.length rc) (.slice xa X.length xc) (.slice ja J.length jc) xs R.length g → (Value.slice la (ln R X J R.length).length lc).ownBlock ≠ some g) ∧ Below w.heap.size w w' := by
  obtain ⟨ar, cr, er⟩ := hh.1.form
  obtain ⟨ax, cx, ex⟩ := hh.2.1.form
  obtain ⟨aj, cj, ej⟩ := hh.2.2.form
  obtain ⟨w0, hw0⟩ : ∃ w0, w0 = (w.alloc (.cells #[vr, vx, .int .i64 now, vj] 30)).alloc (.cells #[nilS, nilS, .int .i64 0, nilS] 30) := ⟨_, rfl⟩
  have HW0 : Hid (w0 = (w.alloc (.cells #[vr, vx, .int .i64 now, vj] 30)).alloc (.cells #[nilS, nilS, .int .i64 0, nilS] 30)) := hw0
  have B0 : Hid (Below w.heap.size w w0) := (by show Below _ _ _; rw [hw0]; exact ((Below.refl _ _).alloc (Nat.le_refl _) _).alloc (by simp) _)
  have Y0 : Hid (Hd w0 w.heap.size vr vx now vj) := (by show Hd _ _ _ _ _ _; rw [hw0]; exact Hd.new w vr vx now vj)
  have Z0 : Hid (w0.heap.size = w.heap.size + 2) := (by show _ = _; rw [hw0]; simp)
  have C1 : Hid (Calls Try.prog 28 #[rv vr vx now vj] w0 fun e w' => ∃ ra rc xa xc jb jc tb h xs u a P, e = .returned (.tuple #[rv (.slice ra R.length rc) (.slice xa X.length xc) now (.slice (some ⟨jb, 0, none⟩) J.length jc), .slice (some ⟨tb, 0, none⟩) R.length R.length, .bool true]) ∧
      Tied w0.heap.size R X J (.slice ra R.length rc) (.slice xa X.length xc) jb jc tb h xs u a P (fun g => rn R J g R.length) (fun _ => false) w' ∧ Below w0.heap.size w0 w') := tied_yes R X now J vr vx vj w0 (hh.on B0.out) hk
  obtain ⟨y0, y1, y2, y3⟩ := Y0.out.s
  obtain ⟨o1, o2, o3⟩ := okR_parts hk
  have F := fit_of o1
  have HF : Hid (Fit R X) := F
  have n60 := F.r60
  have n1 := F.r1
  have now0 : 0 ≤ now ∧ now ≤ 1000000000000 := by have h2 := o2; rw [inn_eq, Bool.and_eq_true, decide_eq_true_eq, decide_eq_true_eq] at h2; exact h2
  subst er ex ej
  obtain ⟨n, hn⟩ : ∃ n, R.length = n := ⟨_, rfl⟩
  obtain ⟨m, hm⟩ : ∃ m, X.length = m := ⟨_, rfl⟩
  have HN : Hid (R.length = n) := hn
  have HM : Hid (X.length = m) := hm
  have HJ : Hid (J.length = n) := o3.trans hn
  have HOK : Hid (okR R X now J = true) := hk
  have JB : Hid (∀ i, i < n → 0 ≤ tr J i ∧ tr J i ≤ 5) := fun i hi => jok_bd hk i (by omega)
  simp only [o3, hn, hm] at y0 y1 y2 y3 HW0 Y0 n60 n1
  have C2 : Hid (Calls Try.prog 28 #[rv (.slice ar n cr) (.slice ax m cx) now (.slice aj n cj)] w0 fun e w' => ∃ ra rc xa xc jb jc tb h xs u a P, e = .returned (.tuple #[rv (.slice ra n rc) (.slice xa m xc) now (.slice (some ⟨jb, 0, none⟩) n jc), .slice (some ⟨tb, 0, none⟩) n n, .bool true]) ∧
      Tied w0.heap.size R X J (.slice ra n rc) (.slice xa m xc) jb jc tb h xs u a P (fun g => rn R J g n) (fun _ => false) w' ∧ Below w0.heap.size w0 w') := (by have := C1.out; simp only [o3, hn, hm] at this; exact this)
  simp only [o3, hn, hm]
  clear hh hw0 hk o1 o2 o3 hn hm F C1
  go_enter Try.func19, Try.ntmps19
  go_wp2_with fail
  rw [← HW0.out]
  refine (Calls.mono C2.out) ?_
  rintro e w1 ⟨ra, rc, xa, xc, jb, jc, tb, h, xs, u, a, P, rfl, t1, b1⟩
  have B1 : Below w.heap.size w w1 := B0.out.trans (b1.mono B0.out.size)
  have Y1 := Y0.out.on b1
  obtain ⟨w2, hw2⟩ : ∃ y, y = w1.alloc (.cells #[.slice ra n rc, .slice xa m xc, .int .i64 now, .slice (some ⟨jb, 0, none⟩) n jc] 30) := ⟨_, rfl⟩
  have HW2 : Hid (w2 = w1.alloc (.cells #[.slice ra n rc, .slice xa m xc, .int .i64 now, .slice (some ⟨jb, 0, none⟩) n jc] 30)) := hw2
  obtain ⟨nb, hnb⟩ : ∃ nb, nb = w1.heap.size := ⟨_, rfl⟩
  have HNB : Hid (nb = w1.heap.size) := hnb
  have bA : Below w1.heap.size w1 w2 := by rw [hw2]; exact (Below.refl _ _).alloc (Nat.le_refl _) _
  have B2 : Hid (Below w.heap.size w w2) := B1.trans (bA.mono B1.size)
  have X2 : Hid (Bx w2 (w.heap.size + 1) nb (.slice ra n rc) (.slice xa m xc) now (.slice (some ⟨jb, 0, none⟩) n jc)) := ⟨by rw [hw2, hnb]; exact Bl.new w1 30 _, (Y1.on bA).res, by have := Y1.res.lt; omega⟩
  have A2 : Hid (Bl w2 w.heap.size 30 #[.slice ar n cr, .slice ax m cx, .int .i64 now, .slice aj n cj]) := (Y1.on bA).arg
  have T2 : Hid (Tied w0.heap.size R X J (.slice ra n rc) (.slice xa m xc) jb jc tb h xs u a P (fun g => rn R J g n) (fun _ => false) w2) := t1.on bA
  have NB0 : Hid (w.heap.size + 1 < nb) := (by have := Y1.res.lt; show _ < _; omega)
  clear hw2 hnb bA B1 Y1 t1 b1 y0 y1 y2 y3 HW0 C2 B0 Y0
  go_upto_region 4 with fail
  rw [← HW2.out, ← HNB.out]
  clear HW2 HNB
  obtain ⟨H0, hH0⟩ : ∃ y, y = w2.heap.size := ⟨_, rfl⟩
  have L0 : Hid (∀ g, RB (.slice ra n rc) (.slice xa m xc) (.slice (some ⟨jb, 0, none⟩) n jc) xs R.length g → g < H0) := fun g hg => (by rw [hH0]; have q := T2.out.ro.bs g; rw [HJ.out] at q; exact (q hg).2)
  have LH : Hid (w.heap.size ≤ H0) := (by rw [hH0]; exact B2.out.size)
  have S3 : Hid (Tied w0.heap.size R X (jn R X J 0) (.slice ra n rc) (.slice xa m xc) jb jc tb h xs u a P (fun g => rn R (jn R X J 0) g n) (fun _ => false) w2 ∧ Bx w2 (w.heap.size + 1) nb (.slice ra n rc) (.slice xa m xc) now (.slice (some ⟨jb, 0, none⟩) n jc) ∧ World.ownsRow w2 H0 2 1 (.slice none 0 0) (ln R X J 0).length (ints (ln R X J 0)) ∧ Below w.heap.size w w2 ∧ H0 ≤ (w2).heap.size) := ⟨T2.out, X2.out, ⟨rfl, .inl ⟨rfl, rfl⟩⟩, B2.out, by rw [hH0]; exact Nat.le_refl _⟩
  clear hH0 T2 X2 A2 B2 NB0
  obtain ⟨i0, hi, hz0, hz1, hz2⟩ := info_parts Lists.Try.info2
  go_upto_region 6 with fail
  go_loopw [21, 7] (fun c v wr => ∃ (k : Nat) (la : Option Addr) (lc : Nat), k ≤ n ∧ c = .int .i64 k ∧ v = (.slice la (ln R X J k).length lc) ∧ Hid (Tied w0.heap.size R X (jn R X J k) (.slice ra n rc) (.slice xa m xc) jb jc tb h xs u a P (fun g => rn R (jn R X J k) g n) (fun _ => false) wr ∧ Bx wr (w.heap.size + 1) nb (.slice ra n rc) (.slice xa m xc) now (.slice (some ⟨jb, 0, none⟩) n jc) ∧ World.ownsRow wr H0 2 1 (.slice la (ln R X J k).length lc) (ln R X J k).length (ints (ln R X J k)) ∧ Below w.heap.size w wr ∧ H0 ≤ (wr).heap.size)) (fun c _ _ => n - (intOf c).toNat)
  case atStart => exact ⟨0, none, 0, Nat.zero_le _, rfl, rfl, S3⟩
  case round =>
    clear S3
    obtain ⟨k, la, lc, hk, rfl, rfl, S⟩ := hrel
    by_cases hlt : k < n
    · have hkR : k < R.length := by rw [HN.out]; exact hlt
      have hCl : (jn R X J k).length = n := by rw [jn_len]; exact HJ.out
      have HCL : Hid ((jn R X J k).length = n) := hCl
      have hkC : k < (jn R X J k).length := by rw [hCl]; exact hlt
      have tk := S.out.1.task k hkR
      obtain ⟨t0, _, _, t5, t7, _⟩ := S.out.1.cells k hkR
      obtain ⟨j0, j1, jf0, jf1⟩ := S.out.1.job k hkC
      have i0' : (0 : Int) ≤ (k : Int) := by omega
      have i1 : (k : Int) < (n : Int) := by omega
      have hl := ln_len R X J k
      have GR := HF.out.grp k hkR
      obtain ⟨gi, hgi⟩ : ∃ gi : Nat, gi = (Tk.cz R k 1 - 1).toNat := ⟨_, rfl⟩
      have hgX : gi < X.length := by omega
      have hg1 : (gi : Int) + 1 = Tk.cz R k 1 := by omega
      have TRB := JB.out k hlt
      have TR1 : tr (jn R X J k) k = tr J k := (jn_same k k (Nat.le_refl _)).2
      rw [← hgi] at t7
      have RB0 := rn_rng R (jn R X J k) (Tk.cz R k 1) n
      have CN : Hid (cn R X (jn R X J k) k = ((hw (jn R X J k) k == 0) && (fr R (jn R X J k) k && decide (rn R (jn R X J k) (Tk.cz R k 1) n < X.getD gi 0)))) := (by show _ = _; unfold cn; rw [hCl, ← hgi])
      have RD : Hid (Calls Try.prog 37 #[.pointer (some ⟨P k, 0, none⟩)] wr fun e w' => e = .returned (.bool (fr R (jn R X J k) k)) ∧ w' = wr) := ready_td S.out.1.td (jn R X J k) (fun i hi => (S.out.1.job i (by rw [HCL.out, ← HN.out]; exact hi)).1) k hkR (HF.out.len k hkR) (HF.out.aft k hkR)
      have EN : Hid (Calls Try.prog 38 #[.pointer (some ⟨h + 1 + gi, 0, none⟩)] wr fun e w' => e = .returned (.bool (decide (rn R (jn R X J k) (Tk.cz R k 1) n < X.getD gi 0))) ∧ Bl w' (h + 1 + gi) 99 (gcs (X.getD gi 0) (if rn R (jn R X J k) (Tk.cz R k 1) n < X.getD gi 0 then rn R (jn R X J k) (Tk.cz R k 1) n + 1 else rn R (jn R X J k) (Tk.cz R k 1) n)) ∧ KB (fun b => b = h + 1 + gi) wr w') := (by
        have q := S.out.1.td.grp gi hgX
        simp only [hg1] at q
        exact enter_any wr (h + 1 + gi) _ _ q RB0.1 (by omega))
      clear hgi
      have HLO : Hid (w.heap.size ≤ h + 1 + gi) := (by have h1 := S.out.1.hl; have := Z0.out; show _ ≤ _; omega)
      by_cases hs : hw (jn R X J k) k = 0
      · have j0' : wr.cell? ⟨jb, k * 2, none⟩ = some (.int .i64 0) := by rw [← hs]; exact j0
        cases hf : fr R (jn R X J k) k
        · have HL : Hid (jn R X J (k + 1) = jn R X J k ∧ ln R X J (k + 1) = ln R X J k) := jn_no (by rw [CN.out, hf, Bool.false_and, Bool.and_false])
          rw [hf] at RD
          clear hf hs j0 j1 EN
          go_wp2_with fail
          refine RD.out.mono ?_
          rintro e wx ⟨rfl, hwx⟩
          subst wx
          go_wp2_with fail
          go_roundw
          case rel => exact ⟨k + 1, la, lc, by omega, by go_num, by rw [HL.out.2], by rw [HL.out.1, HL.out.2]; exact S⟩
          case measure => simp [intOf]; omega
        · rw [hf] at RD
          by_cases hr : rn R (jn R X J k) (Tk.cz R k 1) n < X.getD gi 0
          · have HL : Hid (jn R X J (k + 1) = js (jn R X J k) k 1 (tr (jn R X J k) k + 1) ∧ ln R X J (k + 1) = ln R X J k ++ [(k : Int) + 1]) := jn_yes (by rw [CN.out, hf, hs, decide_eq_true hr]; rfl)
            simp only [hr, decide_true, if_true] at EN
            have HS : Hid (hw (jn R X J k) k = 0) := hs
            clear hf hs j0
            rw [TR1] at HL
            have j1' : wr.cell? ⟨jb, k * 2 + 1, none⟩ = some (.int .i64 (tr J k)) := by rw [← TR1]; exact j1
            go_wp2_with fail
            refine RD.out.mono ?_
            rintro e wx ⟨rfl, hwx⟩
            subst wx
            go_wp2_with fail
            refine EN.out.mono ?_
            rintro e wy ⟨rfl, eB, eK⟩
            have SE : Hid (Tied w0.heap.size R X (jn R X J k) (.slice ra n rc) (.slice xa m xc) jb jc tb h xs u a P (fun g => rn R (js (jn R X J k) k 1 (tr J k + 1)) g n) (fun _ => false) wy ∧ Bx wy (w.heap.size + 1) nb (.slice ra n rc) (.slice xa m xc) now (.slice (some ⟨jb, 0, none⟩) n jc) ∧ World.ownsRow wy H0 2 1 (.slice la (ln R X J k).length lc) (ln R X J k).length (ints (ln R X J k)) ∧ Below w.heap.size w wy ∧ H0 ≤ (wy).heap.size) := (by
              obtain ⟨s1, s2, s3, s4, s5⟩ := S.out
              have gt := (s1.td.grp gi hgX).ty
              refine ⟨s1.enter (run' := fun g => rn R (js (jn R X J k) k 1 (tr J k + 1)) g n) eK hgX ?_ ?_, s2.off eK gt (by decide), row_kb s3 eK (fun b hb q => (row_ty s3 b hb).ne gt (by decide) q), s4.trans (eK.below s4.size (fun b hb => by have := HLO.out; have hb' : b = h + 1 + gi := hb; omega)), Nat.le_trans s5 eK.size⟩
              · simp only [hg1]
                rw [rn_js hkC HS.out, if_pos ⟨hlt, rfl⟩]
                exact eB
              · intro q hq hne
                show rn R _ _ n = rn R _ _ n
                rw [rn_js hkC HS.out, if_neg (fun y => by have := y.2; omega)]; omega)
            clear S eB eK EN RD tk t0 t5 t7 j0' j1' j1 jf0 jf1
            have tk := SE.out.1.task k hkR
            obtain ⟨t0, _, _, t5, t7, _⟩ := SE.out.1.cells k hkR
            obtain ⟨j0, j1, jf0, jf1⟩ := SE.out.1.job k hkC
            have j1' : wy.cell? ⟨jb, k * 2 + 1, none⟩ = some (.int .i64 (tr J k)) := by rw [← TR1]; exact j1
            have dpj : ¬ P k = jb := (SE.out.1.td.tsk k hkR).ty.ne (jrow_ty SE.out.1.ro.2) (by decide)
            have dpj' : ¬ jb = P k := fun e => dpj e.symm
            have SS : Hid (Tied w0.heap.size R X (js (jn R X J k) k 1 (tr J k + 1)) (.slice ra n rc) (.slice xa m xc) jb jc tb h xs u a P (fun g => rn R (js (jn R X J k) k 1 (tr J k + 1)) g n) (fun _ => false) ((wy.setCell ⟨jb, k * 2, none⟩ (.int .i64 1)).setCell ⟨jb, k * 2 + 1, none⟩ (.int .i64 (tr J k + 1))) ∧ Bx ((wy.setCell ⟨jb, k * 2, none⟩ (.int .i64 1)).setCell ⟨jb, k * 2 + 1, none⟩ (.int .i64 (tr J k + 1))) (w.heap.size + 1) nb (.slice ra n rc) (.slice xa m xc) now (.slice (some ⟨jb, 0, none⟩) n jc) ∧ World.ownsRow ((wy.setCell ⟨jb, k * 2, none⟩ (.int .i64 1)).setCell ⟨jb, k * 2 + 1, none⟩ (.int .i64 (tr J k + 1))) H0 2 1 (.slice la (ln R X J k).length lc) (ln R X J k).length (ints (ln R X J k)) ∧ Below w.heap.size w ((wy.setCell ⟨jb, k * 2, none⟩ (.int .i64 1)).setCell ⟨jb, k * 2 + 1, none⟩ (.int .i64 (tr J k + 1))) ∧ H0 ≤ (((wy.setCell ⟨jb, k * 2, none⟩ (.int .i64 1)).setCell ⟨jb, k * 2 + 1, none⟩ (.int .i64 (tr J k + 1)))).heap.size) := (by
              obtain ⟨s1, s2, s3, s4, s5⟩ := SE.out
              obtain ⟨r1, r2⟩ := two_jobs s1.ro.2 k hkC 1 (tr J k + 1)
              have ht := jrow_ty s1.ro.2
              have hlo := (s1.ro.bs jb (Or.inr rfl)).1
              refine ⟨s1.jobs r2 (js_len _ _ _ _) r1, s2.off (e := 34) r2 ht (by decide), row_kb s3 r2 (fun b hb q => (row_ty s3 b hb).ne ht (by decide) q), s4.trans (r2.below s4.size (fun b hb => by have hb' : b = jb := hb; have := Z0.out; omega)), Nat.le_trans s5 r2.size⟩)
            clear j1
            go_upto_region 11 with fail
            clear SE tk t5 t7 j0 j1' jf0 jf1 dpj dpj' t0
            generalize ((wy.setCell ⟨jb, k * 2, none⟩ (.int .i64 1)).setCell ⟨jb, k * 2 + 1, none⟩ (.int .i64 (tr J k + 1))) = wq at SS ⊢
            obtain ⟨t0, _⟩ := SS.out.1.cells k hkR
            have OA : Hid ((wq.alloc (.cells #[.int .i64 ((k : Int) + 1)] 2)).ownsRow H0 2 1 (.slice la (ln R X J k).length lc) (ln R X J k).length (ints (ln R X J k))) := SS.out.2.2.1.alloc _
            have ZA : Hid (H0 ≤ (wq.alloc (.cells #[.int .i64 ((k : Int) + 1)] 2)).heap.size) := (by have := SS.out.2.2.2.2; show _ ≤ _; simp; omega)
            obtain ⟨len, hlen⟩ : ∃ y, (ln R X J k).length = y := ⟨_, rfl⟩
            rw [hlen] at hl
            have HLN : Hid ((ln R X J k).length = len) := hlen
            simp only [hlen] at OA ⊢
            clear hlen
            go_wp2_with (at_builtin; refine wpList_append_own _ rfl _ _ 25 rfl H0 2 i0 (.int .i64 0) 1 8 Try.underlying25 hi hz0 hz1 hz2 rfl (by decide) _ _ _ rfl OA.out ⟨wq.heap.size, 0, none⟩ 1 1 [.int .i64 ((k : Int) + 1)] rfl rfl ?c1 ?c2 ?c3 ?c4 ZA.out ?_)
            case c1 =>
              intro j u hj
              match j, hj with
              | 0, hj => simp at hj; subst hj; simp [Addr.add]
            case c2 => first | rfl | (intro u hu; simp at hu; subst hu; rfl)
            case c3 => first | omega | (unfold maxLen; omega)
            case c4 => omega
            intro v5 w5 hown hgrow hnil5
            obtain ⟨g5, c5, rfl, p1, p2, p3, p4⟩ := Cp.row_some hown (by first | exact hnil5 | (intro e; have := hnil5.1 e; simp at this))
            have SN : Hid (Tied w0.heap.size R X (jn R X J (k + 1)) (.slice ra n rc) (.slice xa m xc) jb jc tb h xs u a P (fun g => rn R (jn R X J (k + 1)) g n) (fun _ => false) w5 ∧ Bx w5 (w.heap.size + 1) nb (.slice ra n rc) (.slice xa m xc) now (.slice (some ⟨jb, 0, none⟩) n jc) ∧ World.ownsRow w5 H0 2 1 (.slice (some ⟨g5, 0, none⟩) (len + 1) c5) (ln R X J (k + 1)).length (ints (ln R X J (k + 1))) ∧ Below w.heap.size w w5 ∧ H0 ≤ (w5).heap.size) := (by
              obtain ⟨s1, s2, s3, s4, s5⟩ := SS.out
              have bA : Below wq.heap.size wq (wq.alloc (.cells #[.int .i64 ((k : Int) + 1)] 2)) := (Below.refl _ _).alloc (Nat.le_refl _) _
              rw [HL.out.1]
              refine ⟨(s1.on bA).grown OA.out hgrow (fun g hg => L0.out g (by rw [js_len, HCL.out] at hg; exact hg)), (s2.on bA).grown OA.out hgrow, ?_, ?_, Nat.le_trans ZA.out hgrow.size⟩
              · rw [HL.out.2]
                simpa [ints, HLN.out] using hown
              · exact (s4.trans (bA.mono s4.size)).trans ((KB.of_grown (S := fun b => H0 ≤ b) hgrow (fun b hb => (OA.out.lt b hb).1)).below (Nat.le_trans s4.size bA.size) (fun b hb => Nat.le_trans LH.out hb)))
            have HL2 : Hid ((ln R X J (k + 1)).length = len + 1) := (by show _ = _; rw [HL.out.2]; simp [HLN.out])
            clear hown hgrow hnil5 p1 p2 p3 p4 SS OA ZA t0
            go_wp2_with fail
            go_roundw
            case rel => exact ⟨k + 1, some ⟨g5, 0, none⟩, c5, by omega, by go_num, by rw [HL2.out], by have q := SN; rw [HL2.out] at q ⊢; exact q⟩
            case measure => simp [intOf]; omega
          · have HL : Hid (jn R X J (k + 1) = jn R X J k ∧ ln R X J (k + 1) = ln R X J k) := jn_no (by rw [CN.out, decide_eq_false hr, Bool.and_false, Bool.and_false])
            simp only [hr, decide_false, if_false] at EN
            clear hf hs j0 j1
            go_wp2_with fail
            refine RD.out.mono ?_
            rintro e wx ⟨rfl, hwx⟩
            subst wx
            go_wp2_with fail
            refine EN.out.mono ?_
            rintro e wy ⟨rfl, eB, eK⟩
            have SE : Hid (Tied w0.heap.size R X (jn R X J k) (.slice ra n rc) (.slice xa m xc) jb jc tb h xs u a P (fun g => rn R (jn R X J k) g n) (fun _ => false) wy ∧ Bx wy (w.heap.size + 1) nb (.slice ra n rc) (.slice xa m xc) now (.slice (some ⟨jb, 0, none⟩) n jc) ∧ World.ownsRow wy H0 2 1 (.slice la (ln R X J k).length lc) (ln R X J k).length (ints (ln R X J k)) ∧ Below w.heap.size w wy ∧ H0 ≤ (wy).heap.size) := (by
              obtain ⟨s1, s2, s3, s4, s5⟩ := S.out
              have gt := (s1.td.grp gi hgX).ty
              refine ⟨s1.enter (run' := fun g => rn R (jn R X J k) g n) eK hgX ?_ (fun q hq hne => rfl), s2.off eK gt (by decide), row_kb s3 eK (fun b hb q => (row_ty s3 b hb).ne gt (by decide) q), s4.trans (eK.below s4.size (fun b hb => by have := HLO.out; have hb' : b = h + 1 + gi := hb; omega)), Nat.le_trans s5 eK.size⟩
              simp only [hg1]
              exact eB)
            clear S eB eK EN RD tk t0 t5 t7 j0' jf0 jf1
            go_wp2_with fail
            go_roundw
            case rel => exact ⟨k + 1, la, lc, by omega, by go_num, by rw [HL.out.2], by rw [HL.out.1, HL.out.2]; exact SE⟩
            case measure => simp [intOf]; omega
      · have hs2 : (hw (jn R X J k) k == 0) = false := by simpa using hs
        have HL : Hid (jn R X J (k + 1) = jn R X J k ∧ ln R X J (k + 1) = ln R X J k) := jn_no (by rw [CN.out, hs2, Bool.false_and])
        clear hs
        go_wp2_with fail
        go_roundw
        case rel => exact ⟨k + 1, la, lc, by omega, by go_num, by rw [HL.out.2], by rw [HL.out.1, HL.out.2]; exact S⟩
        case measure => simp [intOf]; omega
    · have ek : k = n := by omega
      subst ek
      obtain ⟨⟨c0, c1, c2, c3⟩, ⟨z0, z1, z2, z3⟩, ⟨f0, f1, f2, f3⟩⟩ := S.out.2.1.s
      have nne := S.out.2.1.ne
      have i1 : ¬ (k : Int) < (k : Int) := by omega
      have hCl : (jn R X J k).length = k := by rw [jn_len]; exact HJ.out
      go_wp2_with fail
      refine bodyPost_ret (v := .tuple #[rv (.slice ra k rc) (.slice xa m xc) now (.slice (some ⟨jb, 0, none⟩) k jc), (.slice la (ln R X J k).length lc)]) (by simp [results, Try.results19, go_sem, z0, z1, z2, z3]) rfl ⟨ra, rc, xa, xc, some ⟨jb, 0, none⟩, jc, la, lc, rfl, ⟨xs, ?_, ?_, ?_⟩, bel4 S.out.2.2.2.1 (by omega) _ _ _ _⟩
      · have q := (S.out.1.box (kb4 wr (w.heap.size + 1) (.slice ra k rc) (.slice xa m xc) (.int .i64 now) (.slice (some ⟨jb, 0, none⟩) k jc)) S.out.2.1.res.ty).ro
        rw [hCl] at q
        exact ro_down q (by rw [Z0.out]; exact Nat.le_add_right _ 2)
      · refine Tk1.own_down (B := H0) ?_ LH.out
        exact row_kb S.out.2.2.1 (kb4 wr (w.heap.size + 1) _ _ _ _) (fun g hg e => (row_ty S.out.2.2.1 g hg).ne S.out.2.1.res.ty (by decide) e)
      · intro g hg e
        have h1 := (S.out.2.2.1.lt g e).1
        have h2 := L0.out g (by rw [HN.out]; exact hg)
        omega
end Go.Proofs.Ytfhpomfdkpfooaa.Ty
