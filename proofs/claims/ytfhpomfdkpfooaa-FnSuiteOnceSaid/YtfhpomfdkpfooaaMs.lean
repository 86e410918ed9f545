/- StartTasks: the model. -/
import Derived.Test.YtfhpomfdkpfooaaSc
import Derived.Test.YtfhpomfdkpfooaaIp
import Derived.Deep.RegionHeld3
import Derived.BigQuiet
namespace Go.Proofs.Ytfhpomfdkpfooaa.Ty
open Go.ChangeShapes Go.WideShapes Go.ChangeAt Go.RowKit
open Go.Proofs.Ytfhpomfdkpfooaa.Lists Go.Proofs.Ytfhpomfdkpfooaa.Tm Go.Proofs.Ytfhpomfdkpfooaa.Rk Go.Proofs.Ytfhpomfdkpfooaa.Ru Go.Proofs.Ytfhpomfdkpfooaa.Al

theorem mo_kbj {S : Nat → Prop} {w w' : World} {base jb jc : Nat} {r x : Value} {R : Tk.Ls} {X : List Int} {J J' : Jb.Ls} {l : Nat} (h : MO w base r x (.slice (some ⟨jb, 0, none⟩) l jc) R X J) (hb : KB S w w') (hs : ∀ b, S b → b < base ∨ b = jb ∨ w.heap.size ≤ b) (hj : Jb.Row w' base (.slice (some ⟨jb, 0, none⟩) l jc) J') : MO w' base r x (.slice (some ⟨jb, 0, none⟩) l jc) R X J' := by
  obtain ⟨⟨xs, h1, h2⟩, h3, ys, h4, h5⟩ := h
  have tj : Ty w jb 34 := row_ty h4 jb rfl
  have nn : ∀ {e k n : Nat} {v : Value} {ys : List Value} (g : Nat), w.ownsRow base e k v n ys → e ≠ 34 → v.ownBlock = some g → ¬ S g := fun g hr he hg hS => by
    have h1 := hr.lt g hg
    rcases hs g hS with q | q | q
    · omega
    · exact (row_ty hr g hg).ne tj he q
    · omega
  refine ⟨⟨xs, row_kb h1 hb (fun g hg => nn g h1 (by decide) hg), fun i hi => ?_⟩, row_kb h3 hb (fun g hg => nn g h3 (by decide) hg), hj⟩
  obtain ⟨a1, a2, a3, u, hu, hr⟩ := h2 i hi
  exact ⟨a1, a2, a3, u, hu, row_kb hr hb (fun g hg => nn g hr (by decide) hg)⟩

set_option maxHeartbeats 2000000 in
theorem sstart_no (R : Tk.Ls) (X : List Int) (now : Int) (J : Jb.Ls) (vr vx vj : Value) (w : World) (hh : RR w vr vx vj R X J) (hk : okR R X now J = false) :
    Calls Try.prog 57 #[rv vr vx now vj] w fun e w' => e = .returned (.tuple #[rv nilS nilS 0 nilS, (.slice (some ⟨w.heap.size + 2, 0, none⟩) 0 0)]) ∧ Below w.heap.size w w' := by
  obtain ⟨ar, cr, er⟩ := hh.1.form
  obtain ⟨ax, cx, ex⟩ := hh.2.1.form
  obtain ⟨aj, cj, ej⟩ := hh.2.2.form
  obtain ⟨w0, hw0⟩ : ∃ w0, w0 = (w.alloc (.cells #[vr, vx, .int .i64 now, vj] 30)).alloc (.cells #[nilS, nilS, .int .i64 0, nilS] 30) := ⟨_, rfl⟩
  have HW0 : Hid (w0 = (w.alloc (.cells #[vr, vx, .int .i64 now, vj] 30)).alloc (.cells #[nilS, nilS, .int .i64 0, nilS] 30)) := hw0
  have B0 : Hid (Below w.heap.size w w0) := (by show Below _ _ _; rw [hw0]; exact ((Below.refl _ _).alloc (Nat.le_refl _) _).alloc (by simp) _)
  have Y0 : Hid (Hd w0 w.heap.size vr vx now vj) := (by show Hd _ _ _ _ _ _; rw [hw0]; exact Hd.new w vr vx now vj)
  have Z0 : Hid (w0.heap.size = w.heap.size + 2) := (by show _ = _; rw [hw0]; simp)
  have C1 : Hid (∀ W, Below w.heap.size w W → Calls Try.prog 25 #[rv vr vx now vj] W fun e w' => e = .returned (.bool false) ∧ Below W.heap.size W w') := fun W hb => (by rw [← hk]; exact sok_any R X now J vr vx vj W (hh.on hb))
  obtain ⟨y0, y1, y2, y3⟩ := Y0.out.s
  subst er ex ej
  generalize R.length = n at *
  generalize X.length = m at *
  generalize J.length = k at *
  clear hh hw0 hk
  obtain ⟨wz, hwz⟩ : ∃ y, y = w0.alloc (.cells #[] 2) := ⟨_, rfl⟩
  have HWZ : Hid (wz = w0.alloc (.cells #[] 2)) := hwz
  have bz : Below w0.heap.size w0 wz := by rw [hwz]; exact (Below.refl _ _).alloc (Nat.le_refl _) _
  have BZ : Hid (Below w.heap.size w wz) := B0.out.trans (bz.mono B0.out.size)
  have YZ : Hid (Hd wz w.heap.size (.slice ar n cr) (.slice ax m cx) now (.slice aj k cj)) := Y0.out.on bz
  have ZZ : Hid (wz.heap.size = w.heap.size + 3) := (by show _ = _; rw [hwz]; simp [Z0.out])
  have RZ : Hid (wz.ownsRow (w.heap.size + 2) 2 1 (.slice (some ⟨w.heap.size + 2, 0, none⟩) 0 0) 0 []) := (by have q := Cp.empty_row (W := w0) 2 1; rw [← hwz, Z0.out] at q; exact q)
  clear bz hwz
  go_enter Try.func57, Try.ntmps57
  go_wp2_with fail
  rw [← HW0.out, ← HWZ.out]
  refine (C1.out wz BZ.out).mono ?_
  rintro e w1 ⟨rfl, b⟩
  have B1 : Hid (Below w.heap.size w w1) := BZ.out.trans (b.mono BZ.out.size)
  have Y1 : Hid (Hd w1 w.heap.size (.slice ar n cr) (.slice ax m cx) now (.slice aj k cj)) := YZ.out.on b
  have R1 : Hid (w1.ownsRow (w.heap.size + 2) 2 1 (.slice (some ⟨w.heap.size + 2, 0, none⟩) 0 0) 0 []) := Tk1.row_on RZ.out b
  have Z1 : Hid (w.heap.size + 3 ≤ w1.heap.size) := (by have := ZZ.out; have := b.size; show _ ≤ _; omega)
  clear y0 y1 y2 y3 b HW0 Y0 HWZ BZ YZ RZ ZZ
  have z0 : w1.cell? ⟨w.heap.size + 1, 0, none⟩ = some nilS := (Y1.out.res.cell 0).trans rfl
  have z1 : w1.cell? ⟨w.heap.size + 1, 1, none⟩ = some nilS := (Y1.out.res.cell 1).trans rfl
  have z2 : w1.cell? ⟨w.heap.size + 1, 2, none⟩ = some (.int .i64 0) := (Y1.out.res.cell 2).trans rfl
  have z3 : w1.cell? ⟨w.heap.size + 1, 3, none⟩ = some nilS := (Y1.out.res.cell 3).trans rfl
  have f0 := Y1.out.res.fz 0
  have f1 := Y1.out.res.fz 1
  have f2 := Y1.out.res.fz 2
  have f3 := Y1.out.res.fz 3
  go_wp2_with fail
  exact bodyPost_ret (v := .tuple #[rv nilS nilS 0 nilS, (.slice (some ⟨w.heap.size + 2, 0, none⟩) 0 0)]) (by simp [results, Try.results57, go_sem, z0, z1, z2, z3]) rfl ⟨rfl, bel4 B1.out (Nat.le_succ _) _ _ _ _⟩

set_option maxHeartbeats 4000000 in
set_option maxRecDepth 20000 in
theorem sstart_yes (R : Tk.Ls) (X : List Int) (now : Int) (J : Jb.Ls) (vr vx vj : Value) (w : World) (hh : RR w vr vx vj R X J) (hk : okR R X now J = true) :
    Calls Try.prog 57 #[rv vr vx now vj] w fun e w' => ∃ ra rc xa xc ja jc la lc, e = .returned (.tuple #[rv (.slice ra R.length rc) (.slice xa X.length xc) now (.slice ja J.length jc), .slice la (ln R X J R.length).length lc]) ∧ MO w' w.heap.size (.slice ra R.length rc) (.slice xa X.length xc) (.slice ja J.length jc) R X (jn R X J R.length) ∧ Lists.Reads w' (.slice la (ln R X J R.length).length lc) (ln R X J R.length) ∧ Below w.heap.size w w' := by
  obtain ⟨ar, cr, er⟩ := hh.1.form
  obtain ⟨ax, cx, ex⟩ := hh.2.1.form
  obtain ⟨aj, cj, ej⟩ := hh.2.2.form
  obtain ⟨w0, hw0⟩ : ∃ w0, w0 = (w.alloc (.cells #[vr, vx, .int .i64 now, vj] 30)).alloc (.cells #[nilS, nilS, .int .i64 0, nilS] 30) := ⟨_, rfl⟩
  have HW0 : Hid (w0 = (w.alloc (.cells #[vr, vx, .int .i64 now, vj] 30)).alloc (.cells #[nilS, nilS, .int .i64 0, nilS] 30)) := hw0
  have B0 : Hid (Below w.heap.size w w0) := (by show Below _ _ _; rw [hw0]; exact ((Below.refl _ _).alloc (Nat.le_refl _) _).alloc (by simp) _)
  have Y0 : Hid (Hd w0 w.heap.size vr vx now vj) := (by show Hd _ _ _ _ _ _; rw [hw0]; exact Hd.new w vr vx now vj)
  have Z0 : Hid (w0.heap.size = w.heap.size + 2) := (by show _ = _; rw [hw0]; simp)
  have C1 : Hid (∀ W, Below w.heap.size w W → Calls Try.prog 25 #[rv vr vx now vj] W fun e w' => e = .returned (.bool true) ∧ Below W.heap.size W w') := fun W hb => (by rw [← hk]; exact sok_any R X now J vr vx vj W (hh.on hb))
  have C2 : Hid (∀ W, Below w.heap.size w W → Calls Try.prog 26 #[rv vr vx now vj] W fun e w' => ∃ ra rc xa xc jb jc, e = .returned (rv (.slice ra R.length rc) (.slice xa X.length xc) now (.slice (some ⟨jb, 0, none⟩) J.length jc)) ∧ MO w' W.heap.size (.slice ra R.length rc) (.slice xa X.length xc) (.slice (some ⟨jb, 0, none⟩) J.length jc) R X J ∧ Below W.heap.size W w') := fun W hb => copy_any R X now J vr vx vj W (hh.on hb) hk
  obtain ⟨y0, y1, y2, y3⟩ := Y0.out.s
  obtain ⟨o1, o2, o3⟩ := okR_parts hk
  have F := fit_of o1
  have HF : Hid (Fit R X) := F
  have n60 := F.r60
  have n1 := F.r1
  have HR : Hid (RR w vr vx vj R X J) := hh
  have JB : Hid (∀ i, i < J.length → 0 ≤ tr J i ∧ tr J i ≤ 5) := fun i hi => jok_bd hk i hi
  have now0 : 0 ≤ now ∧ now ≤ 1000000000000 := by have h2 := o2; rw [inn_eq, Bool.and_eq_true, decide_eq_true_eq, decide_eq_true_eq] at h2; exact h2
  subst er ex ej
  obtain ⟨n, hn⟩ : ∃ n, R.length = n := ⟨_, rfl⟩
  obtain ⟨m, hm⟩ : ∃ m, X.length = m := ⟨_, rfl⟩
  have HN : Hid (R.length = n) := hn
  have HM : Hid (X.length = m) := hm
  have HJ : Hid (J.length = n) := o3.trans hn
  simp only [o3, hn, hm] at y0 y1 y2 y3 HW0 Y0 n60 n1 C1 C2 HR JB ⊢
  clear hh hw0 hk o1 o2 o3 hn hm F
  obtain ⟨wz, hwz⟩ : ∃ y, y = w0.alloc (.cells #[] 2) := ⟨_, rfl⟩
  have HWZ : Hid (wz = w0.alloc (.cells #[] 2)) := hwz
  have bz : Below w0.heap.size w0 wz := by rw [hwz]; exact (Below.refl _ _).alloc (Nat.le_refl _) _
  have BZ : Hid (Below w.heap.size w wz) := B0.out.trans (bz.mono B0.out.size)
  have YZ : Hid (Hd wz w.heap.size (.slice ar n cr) (.slice ax m cx) now (.slice aj n cj)) := Y0.out.on bz
  have ZZ : Hid (wz.heap.size = w.heap.size + 3) := (by show _ = _; rw [hwz]; simp [Z0.out])
  have RZ : Hid (wz.ownsRow (w.heap.size + 2) 2 1 (.slice (some ⟨w.heap.size + 2, 0, none⟩) 0 0) 0 []) := (by have q := Cp.empty_row (W := w0) 2 1; rw [← hwz, Z0.out] at q; exact q)
  clear bz hwz
  go_enter Try.func57, Try.ntmps57
  go_wp2_with fail
  rw [← HW0.out, ← HWZ.out]
  refine (C1.out wz BZ.out).mono ?_
  rintro e w1 ⟨rfl, b⟩
  have B1 : Hid (Below w.heap.size w w1) := BZ.out.trans (b.mono BZ.out.size)
  have Y1 : Hid (Hd w1 w.heap.size (.slice ar n cr) (.slice ax m cx) now (.slice aj n cj)) := YZ.out.on b
  have R1 : Hid (w1.ownsRow (w.heap.size + 2) 2 1 (.slice (some ⟨w.heap.size + 2, 0, none⟩) 0 0) 0 []) := Tk1.row_on RZ.out b
  have Z1 : Hid (w.heap.size + 3 ≤ w1.heap.size) := (by have := ZZ.out; have := b.size; show _ ≤ _; omega)
  clear y0 y1 y2 y3 b HW0 Y0 HWZ BZ YZ RZ ZZ
  obtain ⟨y0, y1, y2, y3⟩ := Y1.out.s
  go_wp2_with fail
  refine (C2.out w1 B1.out).mono ?_
  rintro e w2 ⟨ra, rc, xa, xc, jb, jc, rfl, t2, b2⟩
  have B2 : Below w.heap.size w w2 := B1.out.trans (b2.mono B1.out.size)
  have Y2 := Y1.out.on b2
  have l1 : w.heap.size + 3 ≤ w1.heap.size := Z1.out
  have R2 := Tk1.row_on R1.out b2
  obtain ⟨w3, hw3⟩ : ∃ y, y = w2.alloc (.cells #[.slice ra n rc, .slice xa m xc, .int .i64 now, .slice (some ⟨jb, 0, none⟩) n jc] 30) := ⟨_, rfl⟩
  have HW3 : Hid (w3 = w2.alloc (.cells #[.slice ra n rc, .slice xa m xc, .int .i64 now, .slice (some ⟨jb, 0, none⟩) n jc] 30)) := hw3
  obtain ⟨nb, hnb⟩ : ∃ nb, nb = w2.heap.size := ⟨_, rfl⟩
  have HNB : Hid (nb = w2.heap.size) := hnb
  have bA : Below w2.heap.size w2 w3 := by rw [hw3]; exact (Below.refl _ _).alloc (Nat.le_refl _) _
  have B3 : Hid (Below w.heap.size w w3) := B2.trans (bA.mono B2.size)
  have X3 : Hid (Bx w3 (w.heap.size + 1) nb (.slice ra n rc) (.slice xa m xc) now (.slice (some ⟨jb, 0, none⟩) n jc)) := ⟨by rw [hw3, hnb]; exact Bl.new w2 30 _, (Y2.on bA).res, by have := Y2.res.lt; omega⟩
  have A3 : Hid (Bl w3 w.heap.size 30 #[.slice ar n cr, .slice ax m cx, .int .i64 now, .slice aj n cj]) := (Y2.on bA).arg
  have T3 : Hid (MO w3 (w.heap.size + 3) (.slice ra n rc) (.slice xa m xc) (.slice (some ⟨jb, 0, none⟩) n jc) R X J) := (t2.on bA).down l1
  have R3 : Hid (w3.ownsRow (w.heap.size + 2) 2 1 (.slice (some ⟨w.heap.size + 2, 0, none⟩) 0 0) 0 []) := Tk1.row_on R2 bA
  clear R2 R1
  have NBL : Hid (w.heap.size + 2 < nb) := (by have := b2.size; show _ < _; omega)
  clear hw3 hnb bA Y2 t2 b2 y0 y1 y2 y3 C1 C2 B0 B1 Y1 B2 l1
  go_upto_region 5 with fail
  rw [← HW3.out, ← HNB.out]
  clear HW3 HNB
  have x1 := HF.out.x1
  obtain ⟨rb, erb⟩ : ∃ rb, ra = some ⟨rb, 0, none⟩ := by
    obtain ⟨zs, hz, _⟩ := T3.out.1
    rcases Tk.row_cases hz with ⟨hz, _⟩ | ⟨g, cap, hg, _⟩
    · rw [HN.out] at hz; omega
    · simp at hg; exact ⟨g, hg.1⟩
  subst erb
  obtain ⟨xb, exb⟩ : ∃ xb, xa = some ⟨xb, 0, none⟩ := by
    rcases Tk.row_cases T3.out.2.1 with ⟨hz, _⟩ | ⟨g, cap, hg, _⟩
    · omega
    · simp at hg; exact ⟨g, hg.1⟩
  subst exb
  obtain ⟨H0, hH0⟩ : ∃ y, y = w3.heap.size := ⟨_, rfl⟩
  have Z3 : Hid (w3.heap.size = H0) := hH0.symm
  have NBH : Hid (w.heap.size + 2 < nb ∧ nb < H0) := ⟨NBL.out, by have := X3.out.box.lt; omega⟩
  have NJB : Hid (nb ≠ jb) := X3.out.box.ty.ne (row_ty T3.out.2.2.choose_spec.1 jb rfl) (by decide)
  have JBH : Hid (w.heap.size + 3 ≤ jb) := (T3.out.2.2.lt jb rfl).1
  have S4 : Hid (KB (fun b => b = w.heap.size + 2 ∨ b = jb ∨ H0 ≤ b) w3 w3 ∧ Jb.Row w3 (w.heap.size + 3) (.slice (some ⟨jb, 0, none⟩) n jc) (jn R X J 0) ∧ World.ownsRow w3 (w.heap.size + 2) 2 1 (.slice (some ⟨w.heap.size + 2, 0, none⟩) 0 0) (ln R X J 0).length (ints (ln R X J 0)) ∧ (∀ g, Value.ownBlock (.slice (some ⟨w.heap.size + 2, 0, none⟩) 0 0) = some g → g = w.heap.size + 2 ∨ H0 ≤ g)) := ⟨KB.refl _ _, T3.out.2.2, R3.out, fun g hg => .inl (by simp [Value.ownBlock] at hg; omega)⟩
  have BK : Hid (∀ W C, KB (fun b => b = w.heap.size + 2 ∨ b = jb ∨ H0 ≤ b) w3 W → Jb.Row W (w.heap.size + 3) (.slice (some ⟨jb, 0, none⟩) n jc) C → Below w.heap.size w W ∧ Bx W (w.heap.size + 1) nb (.slice (some ⟨rb, 0, none⟩) n rc) (.slice (some ⟨xb, 0, none⟩) m xc) now (.slice (some ⟨jb, 0, none⟩) n jc) ∧ MO W (w.heap.size + 3) (.slice (some ⟨rb, 0, none⟩) n rc) (.slice (some ⟨xb, 0, none⟩) m xc) (.slice (some ⟨jb, 0, none⟩) n jc) R X C) := fun W C hk hj => (by
    have h1 := NBH.out
    have h2 := NJB.out
    have h3 := JBH.out
    have h4 := Z3.out
    exact ⟨B3.out.trans (hk.below B3.out.size (fun b hb => by rcases hb with q | q | q <;> omega)), ⟨X3.out.box.kb hk (by omega), X3.out.res.kb hk (by omega), X3.out.ne⟩, mo_kbj T3.out hk (fun b hb => by rcases hb with q | q | q; exact .inl (by omega); exact .inr (.inl q); exact .inr (.inr (by omega))) hj⟩)
  clear hH0 NBL R3 A3 B3 X3 T3 HR
  obtain ⟨i0, hi, hz0, hz1, hz2⟩ := info_parts Lists.Try.info2
  go_upto_region 6 with fail
  go_loopw [6, 4] (fun c v wr => ∃ (k : Nat) (la : Option Addr) (lc : Nat), k ≤ n ∧ c = .int .i64 k ∧ v = (.slice la (ln R X J k).length lc) ∧ Hid (KB (fun b => b = w.heap.size + 2 ∨ b = jb ∨ H0 ≤ b) w3 wr ∧ Jb.Row wr (w.heap.size + 3) (.slice (some ⟨jb, 0, none⟩) n jc) (jn R X J k) ∧ World.ownsRow wr (w.heap.size + 2) 2 1 (.slice la (ln R X J k).length lc) (ln R X J k).length (ints (ln R X J k)) ∧ (∀ g, Value.ownBlock (.slice la (ln R X J k).length lc) = some g → g = w.heap.size + 2 ∨ H0 ≤ g))) (fun c _ _ => n - (intOf c).toNat)
  case atStart => exact ⟨0, some ⟨w.heap.size + 2, 0, none⟩, 0, Nat.zero_le _, rfl, rfl, S4⟩
  case round =>
    clear S4
    obtain ⟨k, la, lc, hk, rfl, rfl, S⟩ := hrel
    obtain ⟨BW, XW, MW⟩ := BK.out wr _ S.out.1 S.out.2.1
    obtain ⟨⟨c0, c1, c2, c3⟩, ⟨z0, z1, z2, z3⟩, ⟨f0, f1, f2, f3⟩⟩ := XW.s
    by_cases hlt : k < n
    · have hkR : k < R.length := by rw [HN.out]; exact hlt
      have hCl : (jn R X J k).length = n := by rw [jn_len]; exact HJ.out
      have HCL : Hid ((jn R X J k).length = n) := hCl
      have hkC : k < (jn R X J k).length := by rw [hCl]; exact hlt
      have QR : Jb.Row wr (w.heap.size + 3) (.slice (some ⟨jb, 0, none⟩) (jn R X J k).length jc) (jn R X J k) := by rw [hCl]; exact S.out.2.1
      obtain ⟨j0, j1⟩ := jrow_cell QR k hkC
      have jf0 := jrow_fz QR (k * 2)
      have jf1 := jrow_fz QR (k * 2 + 1)
      have i0' : (0 : Int) ≤ (k : Int) := by omega
      have i1 : (k : Int) < (n : Int) := by omega
      have hl := ln_len R X J k
      have GR := HF.out.grp k hkR
      obtain ⟨gi, hgi⟩ : ∃ gi : Nat, gi = (Tk.cz R k 1 - 1).toNat := ⟨_, rfl⟩
      have hgX : gi < X.length := by omega
      have hg1 : Tk.cz R k 1 = (gi : Int) + 1 := by omega
      have gm : (gi : Int) < (m : Int) := by rw [HM.out] at hgX; omega
      have g0 : (0 : Int) ≤ (gi : Int) := by omega
      have g6 : (gi : Int) ≤ 6 := by have := HF.out.x6; omega
      have wg : IntKind.i64.wrap (gi : Int) = (gi : Int) := IntWalk.i64_in _ (by omega)
      have TRB := JB.out k hlt
      have TR1 : tr (jn R X J k) k = tr J k := (jn_same k k (Nat.le_refl _)).2
      have CN : Hid (cn R X (jn R X J k) k = ((hw (jn R X J k) k == 0) && (fr R (jn R X J k) k && decide (rn R (jn R X J k) ((gi : Int) + 1) n < X.getD gi 0)))) := (by show _ = _; unfold cn; rw [hCl, ← hgi, hg1])
      have rg : wr.cell? ⟨rb, k * 4 + 1, none⟩ = some (.int .i64 ((gi : Int) + 1)) := by
        obtain ⟨zs, hz, hg⟩ := MW.1
        obtain ⟨q1, _⟩ := hg k hkR
        rw [HN.out] at hz
        rw [← hg1]
        exact (hz.cellAt _ (by omega)).trans q1
      have xg : wr.cell? ⟨xb, gi, none⟩ = some (.int .i64 (X.getD gi 0)) := by
        have q := MW.2.1
        rw [HM.out] at q
        exact (q.cellAt gi (by omega)).trans (by simp [ints, List.getD_eq_getElem?_getD, hgX])
      have F30 : Hid (∀ W, Below wr.heap.size wr W → Calls Try.prog 42 #[rv (.slice (some ⟨rb, 0, none⟩) n rc) (.slice (some ⟨xb, 0, none⟩) m xc) now (.slice (some ⟨jb, 0, none⟩) n jc), .int .i64 (k : Int)] W fun e w' => e = .returned (.bool (fr R (jn R X J k) k)) ∧ Below W.heap.size W w') := fun W hb => (by
        have q := (MW.on hb).reads
        exact sfree_any R (jn R X J k) (.slice (some ⟨rb, 0, none⟩) n rc) (.slice (some ⟨xb, 0, none⟩) m xc) (.slice (some ⟨jb, 0, none⟩) n jc) now k W q.1 q.2.2 (by rw [HCL.out, HN.out]) (by rw [HN.out]; exact n60) hkR (HF.out.aft k hkR))
      have F31 : Hid (∀ W, Below wr.heap.size wr W → Calls Try.prog 43 #[rv (.slice (some ⟨rb, 0, none⟩) n rc) (.slice (some ⟨xb, 0, none⟩) m xc) now (.slice (some ⟨jb, 0, none⟩) n jc), .int .i64 ((gi : Int) + 1)] W fun e w' => e = .returned (.int .i64 (rn R (jn R X J k) ((gi : Int) + 1) n)) ∧ Below W.heap.size W w') := fun W hb => (by
        have q := (MW.on hb).reads
        have r := srun_any R (jn R X J k) (.slice (some ⟨rb, 0, none⟩) n rc) (.slice (some ⟨xb, 0, none⟩) m xc) (.slice (some ⟨jb, 0, none⟩) n jc) now ((gi : Int) + 1) W q.1 q.2.2 (by rw [HCL.out, HN.out]) (by rw [HN.out]; exact n60) (by rw [HN.out]; exact n1)
        rw [HCL.out] at r
        exact r)
      have SW : Hid (∀ W, Below wr.heap.size wr W → KB (fun b => b = w.heap.size + 2 ∨ b = jb ∨ H0 ≤ b) w3 W ∧ Jb.Row W (w.heap.size + 3) (.slice (some ⟨jb, 0, none⟩) n jc) (jn R X J k) ∧ World.ownsRow W (w.heap.size + 2) 2 1 (.slice la (ln R X J k).length lc) (ln R X J k).length (ints (ln R X J k)) ∧ (∀ g, Value.ownBlock (.slice la (ln R X J k).length lc) = some g → g = w.heap.size + 2 ∨ H0 ≤ g)) := fun W hb => (by
        obtain ⟨s1, s2, s3, s4⟩ := S.out
        exact ⟨s1.trans (KB.of_below hb), s2.on hb, Tk1.row_on s3 hb, s4⟩)
      have nl := XW.box.lt
      have jl := (jrow_ty QR).lt
      have xl := (row_ty MW.2.1 xb rfl).lt
      clear hgi GR z0 z1 z2 z3 f0 f1 f2 f3 XW hg1
      by_cases hs : hw (jn R X J k) k = 0
      · have j0' : wr.cell? ⟨jb, k * 2, none⟩ = some (.int .i64 0) := by rw [← hs]; exact j0
        have HW : Hid (∀ W, Below wr.heap.size wr W → W.cell? ⟨nb, 0, none⟩ = some (.slice (some ⟨rb, 0, none⟩) n rc) ∧ W.cell? ⟨nb, 1, none⟩ = some (.slice (some ⟨xb, 0, none⟩) m xc) ∧ W.cell? ⟨nb, 2, none⟩ = some (.int .i64 now) ∧ W.cell? ⟨nb, 3, none⟩ = some (.slice (some ⟨jb, 0, none⟩) n jc) ∧ W.cell? ⟨jb, k * 2, none⟩ = some (.int .i64 0) ∧ W.cell? ⟨xb, gi, none⟩ = some (.int .i64 (X.getD gi 0))) := fun W hb => ⟨(hb.cell (p := ⟨nb, 0, none⟩) nl).trans c0, (hb.cell (p := ⟨nb, 1, none⟩) nl).trans c1, (hb.cell (p := ⟨nb, 2, none⟩) nl).trans c2, (hb.cell (p := ⟨nb, 3, none⟩) nl).trans c3, (hb.cell (p := ⟨jb, k * 2, none⟩) jl).trans j0', (hb.cell (p := ⟨xb, gi, none⟩) xl).trans xg⟩
        have BD : Hid (Below wr.heap.size wr wr.drew) := (Below.refl _ _).drew
        cases hf : fr R (jn R X J k) k
        · have HL : Hid (jn R X J (k + 1) = jn R X J k ∧ ln R X J (k + 1) = ln R X J k) := jn_no (by rw [CN.out, hf, Bool.false_and, Bool.and_false])
          rw [hf] at F30
          clear hf hs j0 j1 F31 MW
          go_upto_region 9 with fail
          refine wp_region_held_drew (S := fun w' => w'.cell? ⟨nb, 0, none⟩ = some (.slice (some ⟨rb, 0, none⟩) n rc) ∧ w'.cell? ⟨nb, 1, none⟩ = some (.slice (some ⟨xb, 0, none⟩) m xc) ∧ w'.cell? ⟨nb, 2, none⟩ = some (.int .i64 now) ∧ w'.cell? ⟨nb, 3, none⟩ = some (.slice (some ⟨jb, 0, none⟩) n jc) ∧ w'.cell? ⟨jb, k * 2, none⟩ = some (.int .i64 0) ∧ w'.cell? ⟨xb, gi, none⟩ = some (.int .i64 (X.getD gi 0))) (by kernel_rfl) (by (try dsimp only); (first | (exact ⟨c0, c1, c2, c3, j0', xg⟩) | (exact H11) | go_keep)) (fun hHeld => ?_)
          refine wpAnyH_take (i := 0) (oi := { dst := some 30, op := Go.Op.fieldAddr 30 (Go.Operand.tmp 5) 2, type := 0, pos := "l24_suites.go:95", after := #[], guard := none }) (v := ?_) rfl (by kernel_rfl) (by kernel_rfl) (by kernel_rfl) (fun _ _ _ h => h) (Or.inl ⟨by rfl, ?_⟩) (by assumption) ?_
          rotate_left 1
          · (intro w hSw; (try dsimp only at hSw); go_simp); all_goals (with_reducible rfl)
          try simp only [Act.put, List.setIfInBounds_toArray, List.set_cons_zero, List.set_cons_succ]
          refine wpAnyH_take (i := 1) (oi := { dst := some 31, op := Go.Op.load 28 (Go.Operand.tmp 30), type := 28, pos := "l24_suites.go:95", after := #[{ on := 0, ground := Go.Ground.data }], guard := none }) (v := ?_) rfl (by kernel_rfl) (by kernel_rfl) (by kernel_rfl) (fun _ _ _ h => h) (Or.inl ⟨by rfl, ?_⟩) (by assumption) ?_
          rotate_left 1
          · (intro w hSw; (try dsimp only at hSw); go_simp); all_goals (with_reducible rfl)
          try simp only [Act.put, List.setIfInBounds_toArray, List.set_cons_zero, List.set_cons_succ]
          refine wpAnyH_take (i := 2) (oi := { dst := some 32, op := Go.Op.move (Go.Operand.tmp 6), type := 3, pos := "l24_suites.go:95", after := #[], guard := none }) (v := ?_) rfl (by kernel_rfl) (by kernel_rfl) (by kernel_rfl) (fun _ _ _ h => h) (Or.inl ⟨by rfl, ?_⟩) (by assumption) ?_
          rotate_left 1
          · (intro w hSw; (try dsimp only at hSw); go_simp); all_goals (with_reducible rfl)
          try simp only [Act.put, List.setIfInBounds_toArray, List.set_cons_zero, List.set_cons_succ]
          refine wpAnyH_take (i := 3) (oi := { dst := some 33, op := Go.Op.indexAddr 28 (Go.Operand.tmp 31) (Go.Operand.tmp 32), type := 0, pos := "l24_suites.go:95", after := #[{ on := 1, ground := Go.Ground.data }, { on := 2, ground := Go.Ground.data }], guard := none }) (v := ?_) rfl (by kernel_rfl) (by kernel_rfl) (by kernel_rfl) (fun _ _ _ h => h) (Or.inl ⟨by rfl, ?_⟩) (by assumption) ?_
          rotate_left 1
          · (intro w hSw; (try dsimp only at hSw); go_simp); all_goals (with_reducible rfl)
          try simp only [Act.put, List.setIfInBounds_toArray, List.set_cons_zero, List.set_cons_succ]
          refine wpAnyH_take (i := 4) (oi := { dst := some 34, op := Go.Op.fieldAddr 34 (Go.Operand.tmp 33) 0, type := 0, pos := "l24_suites.go:95", after := #[{ on := 3, ground := Go.Ground.data }], guard := none }) (v := ?_) rfl (by kernel_rfl) (by kernel_rfl) (by kernel_rfl) (fun _ _ _ h => h) (Or.inl ⟨by rfl, ?_⟩) (by assumption) ?_
          rotate_left 1
          · (intro w hSw; (try dsimp only at hSw); go_simp); all_goals (with_reducible rfl)
          try simp only [Act.put, List.setIfInBounds_toArray, List.set_cons_zero, List.set_cons_succ]
          refine wpAnyH_take (i := 5) (oi := { dst := some 35, op := Go.Op.load 2 (Go.Operand.tmp 34), type := 2, pos := "l24_suites.go:95", after := #[{ on := 4, ground := Go.Ground.data }], guard := none }) (v := ?_) rfl (by kernel_rfl) (by kernel_rfl) (by kernel_rfl) (fun _ _ _ h => h) (Or.inl ⟨by rfl, ?_⟩) (by assumption) ?_
          rotate_left 1
          · (intro w hSw; (try dsimp only at hSw); go_simp); all_goals (with_reducible rfl)
          try simp only [Act.put, List.setIfInBounds_toArray, List.set_cons_zero, List.set_cons_succ]
          refine wpAnyH_take (i := 6) (oi := { dst := some 36, op := Go.Op.binOp Go.BinOp.eql 2 (Go.Operand.tmp 35) (Go.Operand.const (Go.Value.int Go.IntKind.i64 0)) 2, type := 4, pos := "l24_suites.go:95", after := #[{ on := 5, ground := Go.Ground.data }], guard := none }) (v := ?_) rfl (by kernel_rfl) (by kernel_rfl) (by kernel_rfl) (fun _ _ _ h => h) (Or.inl ⟨by rfl, ?_⟩) (by assumption) ?_
          rotate_left 1
          · (intro w hSw; (try dsimp only at hSw); go_simp); all_goals (with_reducible rfl)
          try simp only [Act.put, List.setIfInBounds_toArray, List.set_cons_zero, List.set_cons_succ]
          refine wpAnyH_take (i := 7) (oi := { dst := some 37, op := Go.Op.move (Go.Operand.tmp 36), type := 4, pos := "l24_suites.go:95", after := #[{ on := 6, ground := Go.Ground.data }], guard := none }) (v := ?_) rfl (by kernel_rfl) (by kernel_rfl) (by kernel_rfl) (fun _ _ _ h => h) (Or.inl ⟨by rfl, ?_⟩) (by assumption) ?_
          rotate_left 1
          · (intro w hSw; (try dsimp only at hSw); go_simp); all_goals (with_reducible rfl)
          try simp only [Act.put, List.setIfInBounds_toArray, List.set_cons_zero, List.set_cons_succ]
          refine wpAnyH_take (i := 8) (oi := { dst := some 38, op := Go.Op.load 30 (Go.Operand.tmp 5), type := 30, pos := "l24_suites.go:95", after := #[{ on := 7, ground := Go.Ground.guard }], guard := some (7, true) }) (v := ?_) rfl (by kernel_rfl) (by kernel_rfl) (by kernel_rfl) (fun _ _ _ h => h) (Or.inl ⟨by rfl, ?_⟩) (by assumption) ?_
          rotate_left 1
          · (intro w hSw; (try dsimp only at hSw); go_simp); all_goals (with_reducible rfl)
          try simp only [Act.put, List.setIfInBounds_toArray, List.set_cons_zero, List.set_cons_succ]
          refine wpAnyH_take (i := 9) (oi := { dst := some 39, op := Go.Op.move (Go.Operand.tmp 6), type := 3, pos := "l24_suites.go:95", after := #[{ on := 7, ground := Go.Ground.guard }], guard := some (7, true) }) (v := ?_) rfl (by kernel_rfl) (by kernel_rfl) (by kernel_rfl) (fun _ _ _ h => h) (Or.inl ⟨by rfl, ?_⟩) (by assumption) ?_
          rotate_left 1
          · (intro w hSw; (try dsimp only at hSw); go_simp); all_goals (with_reducible rfl)
          try simp only [Act.put, List.setIfInBounds_toArray, List.set_cons_zero, List.set_cons_succ]
          refine wpAnyH_ready (rs := [10]) (by kernel_rfl) (by simp) ?_
          refine AllReadyH.cons (o := { dst := some 40, op := Go.Op.call { callee := Go.Callee.value (Go.Operand.func 42), args := #[Go.Operand.tmp 38, Go.Operand.tmp 39], argTypes := #[30, 3] }, type := 4, pos := "l24_suites.go:95", after := #[{ on := 8, ground := Go.Ground.data }, { on := 9, ground := Go.Ground.data }, { on := 7, ground := Go.Ground.chain }, { on := 7, ground := Go.Ground.guard }], guard := some (7, true) }) rfl (fun K hK => ?_) AllReadyH.nil
          go_simp
          (go_at_call 42; refine (F30.out _ BD.out).mono ?_; rintro e w11 ⟨rfl, b11⟩; have S11 : Hid (Below wr.heap.size wr w11) := BD.out.trans (b11.mono BD.out.size); have H11 : (w11.cell? ⟨nb, 0, none⟩ = some (.slice (some ⟨rb, 0, none⟩) n rc) ∧ w11.cell? ⟨nb, 1, none⟩ = some (.slice (some ⟨xb, 0, none⟩) m xc) ∧ w11.cell? ⟨nb, 2, none⟩ = some (.int .i64 now) ∧ w11.cell? ⟨nb, 3, none⟩ = some (.slice (some ⟨jb, 0, none⟩) n jc) ∧ w11.cell? ⟨jb, k * 2, none⟩ = some (.int .i64 0) ∧ w11.cell? ⟨xb, gi, none⟩ = some (.int .i64 (X.getD gi 0))) := HW.out w11 S11.out; clear b11)
          go_wp2_with fail
          refine hK.out _ _ (by (try dsimp only); (first | (exact ⟨c0, c1, c2, c3, j0', xg⟩) | (exact H11) | go_keep)) (fun hHeld2 => ?_)
          clear hK K hHeld
          have hHeld := hHeld2
          clear hHeld2
          try simp only [Act.put, List.setIfInBounds_toArray, List.set_cons_zero, List.set_cons_succ]
          refine wpAnyH_take (i := 11) (oi := { dst := some 41, op := Go.Op.pick (Go.Operand.tmp 37) (Go.Operand.tmp 40) (Go.Operand.const (Go.Value.bool false)), type := 4, pos := "l24_suites.go:95", after := #[{ on := 7, ground := Go.Ground.data }, { on := 10, ground := Go.Ground.data }], guard := none }) (v := ?_) rfl (by kernel_rfl) (by kernel_rfl) (by kernel_rfl) (fun _ _ _ h => h) (Or.inl ⟨by rfl, ?_⟩) (by assumption) ?_
          rotate_left 1
          · (intro w hSw; (try dsimp only at hSw); go_simp); all_goals (with_reducible rfl)
          try simp only [Act.put, List.setIfInBounds_toArray, List.set_cons_zero, List.set_cons_succ]
          refine wpAnyH_take (i := 12) (oi := { dst := some 42, op := Go.Op.move (Go.Operand.tmp 41), type := 4, pos := "l24_suites.go:95", after := #[{ on := 11, ground := Go.Ground.data }, { on := 10, ground := Go.Ground.chain }], guard := none }) (v := ?_) rfl (by kernel_rfl) (by kernel_rfl) (by kernel_rfl) (fun _ _ _ h => h) (Or.inl ⟨by rfl, ?_⟩) (by assumption) ?_
          rotate_left 1
          · (intro w hSw; (try dsimp only at hSw); go_simp); all_goals (with_reducible rfl)
          try simp only [Act.put, List.setIfInBounds_toArray, List.set_cons_zero, List.set_cons_succ]
          refine wpAnyH_take (i := 13) (oi := { dst := some 43, op := Go.Op.load 30 (Go.Operand.tmp 5), type := 30, pos := "l24_suites.go:95", after := #[{ on := 12, ground := Go.Ground.guard }], guard := some (12, true) }) (v := undef) rfl (by kernel_rfl) (by kernel_rfl) (by kernel_rfl) (fun _ _ _ h => h) (Or.inr ⟨by rfl, rfl⟩) (by assumption) ?_
          try simp only [Act.put, List.setIfInBounds_toArray, List.set_cons_zero, List.set_cons_succ]
          refine wpAnyH_take (i := 14) (oi := { dst := some 44, op := Go.Op.move (Go.Operand.tmp 7), type := 2, pos := "l24_suites.go:95", after := #[{ on := 12, ground := Go.Ground.guard }], guard := some (12, true) }) (v := undef) rfl (by kernel_rfl) (by kernel_rfl) (by kernel_rfl) (fun _ _ _ h => h) (Or.inr ⟨by rfl, rfl⟩) (by assumption) ?_
          try simp only [Act.put, List.setIfInBounds_toArray, List.set_cons_zero, List.set_cons_succ]
          refine wpAnyH_take (i := 15) (oi := { dst := some 45, op := Go.Op.call { callee := Go.Callee.value (Go.Operand.func 43), args := #[Go.Operand.tmp 43, Go.Operand.tmp 44], argTypes := #[30, 2] }, type := 2, pos := "l24_suites.go:95", after := #[{ on := 13, ground := Go.Ground.data }, { on := 14, ground := Go.Ground.data }, { on := 12, ground := Go.Ground.chain }, { on := 12, ground := Go.Ground.guard }], guard := some (12, true) }) (v := undef) rfl (by kernel_rfl) (by kernel_rfl) (by kernel_rfl) (fun _ _ _ h => h) (Or.inr ⟨by rfl, rfl⟩) (by assumption) ?_
          try simp only [Act.put, List.setIfInBounds_toArray, List.set_cons_zero, List.set_cons_succ]
          refine wpAnyH_take (i := 16) (oi := { dst := some 46, op := Go.Op.fieldAddr 30 (Go.Operand.tmp 5) 0, type := 0, pos := "l24_suites.go:95", after := #[{ on := 12, ground := Go.Ground.guard }], guard := some (12, true) }) (v := undef) rfl (by kernel_rfl) (by kernel_rfl) (by kernel_rfl) (fun _ _ _ h => h) (Or.inr ⟨by rfl, rfl⟩) (by assumption) ?_
          try simp only [Act.put, List.setIfInBounds_toArray, List.set_cons_zero, List.set_cons_succ]
          refine wpAnyH_take (i := 17) (oi := { dst := some 47, op := Go.Op.fieldAddr 27 (Go.Operand.tmp 46) 1, type := 0, pos := "l24_suites.go:95", after := #[{ on := 16, ground := Go.Ground.data }, { on := 12, ground := Go.Ground.guard }], guard := some (12, true) }) (v := undef) rfl (by kernel_rfl) (by kernel_rfl) (by kernel_rfl) (fun _ _ _ h => h) (Or.inr ⟨by rfl, rfl⟩) (by assumption) ?_
          try simp only [Act.put, List.setIfInBounds_toArray, List.set_cons_zero, List.set_cons_succ]
          refine wpAnyH_take (i := 18) (oi := { dst := some 48, op := Go.Op.load 25 (Go.Operand.tmp 47), type := 25, pos := "l24_suites.go:95", after := #[{ on := 17, ground := Go.Ground.data }, { on := 12, ground := Go.Ground.guard }], guard := some (12, true) }) (v := undef) rfl (by kernel_rfl) (by kernel_rfl) (by kernel_rfl) (fun _ _ _ h => h) (Or.inr ⟨by rfl, rfl⟩) (by assumption) ?_
          try simp only [Act.put, List.setIfInBounds_toArray, List.set_cons_zero, List.set_cons_succ]
          refine wpAnyH_take (i := 19) (oi := { dst := some 49, op := Go.Op.move (Go.Operand.tmp 7), type := 2, pos := "l24_suites.go:95", after := #[{ on := 12, ground := Go.Ground.guard }], guard := some (12, true) }) (v := undef) rfl (by kernel_rfl) (by kernel_rfl) (by kernel_rfl) (fun _ _ _ h => h) (Or.inr ⟨by rfl, rfl⟩) (by assumption) ?_
          try simp only [Act.put, List.setIfInBounds_toArray, List.set_cons_zero, List.set_cons_succ]
          refine wpAnyH_take (i := 20) (oi := { dst := some 50, op := Go.Op.binOp Go.BinOp.sub 2 (Go.Operand.tmp 49) (Go.Operand.const (Go.Value.int Go.IntKind.i64 1)) 2, type := 2, pos := "l24_suites.go:95", after := #[{ on := 19, ground := Go.Ground.data }, { on := 12, ground := Go.Ground.guard }], guard := some (12, true) }) (v := undef) rfl (by kernel_rfl) (by kernel_rfl) (by kernel_rfl) (fun _ _ _ h => h) (Or.inr ⟨by rfl, rfl⟩) (by assumption) ?_
          try simp only [Act.put, List.setIfInBounds_toArray, List.set_cons_zero, List.set_cons_succ]
          refine wpAnyH_take (i := 21) (oi := { dst := some 51, op := Go.Op.indexAddr 25 (Go.Operand.tmp 48) (Go.Operand.tmp 50), type := 0, pos := "l24_suites.go:95", after := #[{ on := 18, ground := Go.Ground.data }, { on := 20, ground := Go.Ground.data }, { on := 12, ground := Go.Ground.guard }], guard := some (12, true) }) (v := undef) rfl (by kernel_rfl) (by kernel_rfl) (by kernel_rfl) (fun _ _ _ h => h) (Or.inr ⟨by rfl, rfl⟩) (by assumption) ?_
          try simp only [Act.put, List.setIfInBounds_toArray, List.set_cons_zero, List.set_cons_succ]
          refine wpAnyH_take (i := 22) (oi := { dst := some 52, op := Go.Op.load 2 (Go.Operand.tmp 51), type := 2, pos := "l24_suites.go:95", after := #[{ on := 21, ground := Go.Ground.data }, { on := 12, ground := Go.Ground.guard }], guard := some (12, true) }) (v := undef) rfl (by kernel_rfl) (by kernel_rfl) (by kernel_rfl) (fun _ _ _ h => h) (Or.inr ⟨by rfl, rfl⟩) (by assumption) ?_
          try simp only [Act.put, List.setIfInBounds_toArray, List.set_cons_zero, List.set_cons_succ]
          refine wpAnyH_take (i := 23) (oi := { dst := some 53, op := Go.Op.binOp Go.BinOp.lss 2 (Go.Operand.tmp 45) (Go.Operand.tmp 52) 2, type := 4, pos := "l24_suites.go:95", after := #[{ on := 15, ground := Go.Ground.data }, { on := 22, ground := Go.Ground.data }, { on := 12, ground := Go.Ground.guard }], guard := some (12, true) }) (v := undef) rfl (by kernel_rfl) (by kernel_rfl) (by kernel_rfl) (fun _ _ _ h => h) (Or.inr ⟨by rfl, rfl⟩) (by assumption) ?_
          try simp only [Act.put, List.setIfInBounds_toArray, List.set_cons_zero, List.set_cons_succ]
          refine wpAnyH_take (i := 24) (oi := { dst := some 54, op := Go.Op.pick (Go.Operand.tmp 42) (Go.Operand.tmp 53) (Go.Operand.const (Go.Value.bool false)), type := 4, pos := "l24_suites.go:95", after := #[{ on := 12, ground := Go.Ground.data }, { on := 23, ground := Go.Ground.data }], guard := none }) (v := ?_) rfl (by kernel_rfl) (by kernel_rfl) (by kernel_rfl) (fun _ _ _ h => h) (Or.inl ⟨by rfl, ?_⟩) (by assumption) ?_
          rotate_left 1
          · (intro w hSw; (try dsimp only at hSw); go_simp); all_goals (with_reducible rfl)
          try simp only [Act.put, List.setIfInBounds_toArray, List.set_cons_zero, List.set_cons_succ]
          refine wpAnyH_done (by kernel_rfl) ?_ _
          go_wp2_with fail
          go_roundw
          case rel => exact ⟨k + 1, la, lc, by omega, by go_num, by rw [HL.out.2], by rw [HL.out.1, HL.out.2]; exact SW.out _ S11.out⟩
          case measure => simp [intOf]; omega
        · rw [hf] at F30
          by_cases hr : rn R (jn R X J k) ((gi : Int) + 1) n < X.getD gi 0
          · have HL : Hid (jn R X J (k + 1) = js (jn R X J k) k 1 (tr (jn R X J k) k + 1) ∧ ln R X J (k + 1) = ln R X J k ++ [(k : Int) + 1]) := jn_yes (by rw [CN.out, hf, hs, decide_eq_true hr]; rfl)
            have hrd : decide (rn R (jn R X J k) ((gi : Int) + 1) n < X.getD gi 0) = true := decide_eq_true hr
            clear hf hs j0 MW CN
            generalize rn R (jn R X J k) ((gi : Int) + 1) n = rr at *
            generalize X.getD gi 0 = xx at *
            go_upto_region 9 with fail
            go_region_held3 (fun w' => w'.cell? ⟨nb, 0, none⟩ = some (.slice (some ⟨rb, 0, none⟩) n rc) ∧ w'.cell? ⟨nb, 1, none⟩ = some (.slice (some ⟨xb, 0, none⟩) m xc) ∧ w'.cell? ⟨nb, 2, none⟩ = some (.int .i64 now) ∧ w'.cell? ⟨nb, 3, none⟩ = some (.slice (some ⟨jb, 0, none⟩) n jc) ∧ w'.cell? ⟨jb, k * 2, none⟩ = some (.int .i64 0) ∧ w'.cell? ⟨xb, gi, none⟩ = some (.int .i64 (xx))) (first | (exact ⟨c0, c1, c2, c3, j0', xg⟩) | (exact H11) | (exact H12) | go_keep)
              (first
              | (go_at_call 42; refine (F30.out _ BD.out).mono ?_; rintro e w11 ⟨rfl, b11⟩; have S11 : Hid (Below wr.heap.size wr w11) := BD.out.trans (b11.mono BD.out.size); have H11 : (w11.cell? ⟨nb, 0, none⟩ = some (.slice (some ⟨rb, 0, none⟩) n rc) ∧ w11.cell? ⟨nb, 1, none⟩ = some (.slice (some ⟨xb, 0, none⟩) m xc) ∧ w11.cell? ⟨nb, 2, none⟩ = some (.int .i64 now) ∧ w11.cell? ⟨nb, 3, none⟩ = some (.slice (some ⟨jb, 0, none⟩) n jc) ∧ w11.cell? ⟨jb, k * 2, none⟩ = some (.int .i64 0) ∧ w11.cell? ⟨xb, gi, none⟩ = some (.int .i64 (xx))) := HW.out w11 S11.out; clear b11)
              | (go_at_call 43; refine (F31.out _ S11.out).mono ?_; rintro e w12 ⟨rfl, b12⟩; have S12 : Hid (Below wr.heap.size wr w12) := S11.out.trans (b12.mono S11.out.size); have H12 : (w12.cell? ⟨nb, 0, none⟩ = some (.slice (some ⟨rb, 0, none⟩) n rc) ∧ w12.cell? ⟨nb, 1, none⟩ = some (.slice (some ⟨xb, 0, none⟩) m xc) ∧ w12.cell? ⟨nb, 2, none⟩ = some (.int .i64 now) ∧ w12.cell? ⟨nb, 3, none⟩ = some (.slice (some ⟨jb, 0, none⟩) n jc) ∧ w12.cell? ⟨jb, k * 2, none⟩ = some (.int .i64 0) ∧ w12.cell? ⟨xb, gi, none⟩ = some (.int .i64 (xx))) := HW.out w12 S12.out; clear b12))
            go_upto_region 10 with fail
            have SS := SW.out w12 S12.out
            have QR2 : Jb.Row w12 (w.heap.size + 3) (.slice (some ⟨jb, 0, none⟩) (jn R X J k).length jc) (jn R X J k) := by rw [HCL.out]; exact SS.2.1
            obtain ⟨_, jq1⟩ := jrow_cell QR2 k hkC
            have jq1' : w12.cell? ⟨jb, k * 2 + 1, none⟩ = some (.int .i64 (tr J k)) := by rw [← TR1]; exact jq1
            have jg0 := jrow_fz QR2 (k * 2)
            have jg1 := jrow_fz QR2 (k * 2 + 1)
            obtain ⟨d0, d1, d2, d3, d4, _⟩ := H12
            have dnj : ¬ nb = jb := NJB.out
            rw [TR1] at HL
            have SJ : Hid (∀ q, KB (fun b => b = w.heap.size + 2 ∨ b = jb ∨ H0 ≤ b) w3 (((w12.setCell ⟨jb, k * 2, none⟩ (.int .i64 1)).setCell ⟨jb, k * 2 + 1, none⟩ (.int .i64 (tr J k + 1))).drewN q) ∧ Jb.Row (((w12.setCell ⟨jb, k * 2, none⟩ (.int .i64 1)).setCell ⟨jb, k * 2 + 1, none⟩ (.int .i64 (tr J k + 1))).drewN q) (w.heap.size + 3) (.slice (some ⟨jb, 0, none⟩) n jc) (js (jn R X J k) k 1 (tr J k + 1)) ∧ World.ownsRow (((w12.setCell ⟨jb, k * 2, none⟩ (.int .i64 1)).setCell ⟨jb, k * 2 + 1, none⟩ (.int .i64 (tr J k + 1))).drewN q) (w.heap.size + 2) 2 1 (.slice la (ln R X J k).length lc) (ln R X J k).length (ints (ln R X J k)) ∧ (∀ g, Value.ownBlock (.slice la (ln R X J k).length lc) = some g → g = w.heap.size + 2 ∨ H0 ≤ g)) := fun q => (by
              obtain ⟨s1, s2, s3, s4⟩ := SS
              obtain ⟨r1, r2⟩ := two_jobs QR2 k hkC 1 (tr J k + 1)
              have ht := jrow_ty QR2
              have bq : Below ((w12.setCell ⟨jb, k * 2, none⟩ (.int .i64 1)).setCell ⟨jb, k * 2 + 1, none⟩ (.int .i64 (tr J k + 1))).heap.size ((w12.setCell ⟨jb, k * 2, none⟩ (.int .i64 1)).setCell ⟨jb, k * 2 + 1, none⟩ (.int .i64 (tr J k + 1))) (((w12.setCell ⟨jb, k * 2, none⟩ (.int .i64 1)).setCell ⟨jb, k * 2 + 1, none⟩ (.int .i64 (tr J k + 1))).drewN q) := below_drewN (Below.refl _ _) q
              rw [HCL.out] at r1
              exact ⟨(s1.trans (r2.mono (fun b hb => .inr (.inl hb)))).trans (KB.of_below bq), r1.on bq, Tk1.row_on (row_kb s3 r2 (fun b hb e => (row_ty s3 b hb).ne ht (by decide) e)) bq, s4⟩)
            clear jq1 SS QR2 c0 c1 c2 c3 j0' xg j1 jf0 jf1 QR d4
            go_region
            go_upto_region 11 with fail
            have SS : Hid (KB (fun b => b = w.heap.size + 2 ∨ b = jb ∨ H0 ≤ b) w3 (((w12.setCell ⟨jb, k * 2, none⟩ (.int .i64 1)).setCell ⟨jb, k * 2 + 1, none⟩ (.int .i64 (tr J k + 1))).drew) ∧ Jb.Row (((w12.setCell ⟨jb, k * 2, none⟩ (.int .i64 1)).setCell ⟨jb, k * 2 + 1, none⟩ (.int .i64 (tr J k + 1))).drew) (w.heap.size + 3) (.slice (some ⟨jb, 0, none⟩) n jc) (js (jn R X J k) k 1 (tr J k + 1)) ∧ World.ownsRow (((w12.setCell ⟨jb, k * 2, none⟩ (.int .i64 1)).setCell ⟨jb, k * 2 + 1, none⟩ (.int .i64 (tr J k + 1))).drew) (w.heap.size + 2) 2 1 (.slice la (ln R X J k).length lc) (ln R X J k).length (ints (ln R X J k)) ∧ (∀ g, Value.ownBlock (.slice la (ln R X J k).length lc) = some g → g = w.heap.size + 2 ∨ H0 ≤ g)) := SJ.out 1
            clear SJ
            generalize ((w12.setCell ⟨jb, k * 2, none⟩ (.int .i64 1)).setCell ⟨jb, k * 2 + 1, none⟩ (.int .i64 (tr J k + 1))).drew = wq at SS ⊢
            clear d0 d1 d2 d3 jq1' jg0 jg1
            have OA : Hid ((wq.alloc (.cells #[.int .i64 ((k : Int) + 1)] 2)).ownsRow (w.heap.size + 2) 2 1 (.slice la (ln R X J k).length lc) (ln R X J k).length (ints (ln R X J k))) := SS.out.2.2.1.alloc _
            have ZA : Hid (w.heap.size + 2 ≤ (wq.alloc (.cells #[.int .i64 ((k : Int) + 1)] 2)).heap.size ∧ H0 ≤ wq.heap.size) := (by have := SS.out.1.size; have := Z3.out; have := NBH.out; exact ⟨by simp; omega, by omega⟩)
            obtain ⟨len, hlen⟩ : ∃ y, (ln R X J k).length = y := ⟨_, rfl⟩
            rw [hlen] at hl
            have HLN : Hid ((ln R X J k).length = len) := hlen
            simp only [hlen] at OA SS ⊢
            clear hlen
            go_wp2_with (at_builtin; refine wpList_append_own_at _ rfl _ _ 25 rfl (w.heap.size + 2) 2 i0 (.int .i64 0) 1 8 Try.underlying25 hi hz0 hz1 hz2 rfl (by decide) _ _ _ rfl OA.out ⟨wq.heap.size, 0, none⟩ 1 1 [.int .i64 ((k : Int) + 1)] rfl rfl ?c1 ?c2 ?c3 ?c4 ZA.out.1 ?_)
            case c1 =>
              intro j u hj
              match j, hj with
              | 0, hj => simp at hj; subst hj; simp [Addr.add]
            case c2 => first | rfl | (intro u hu; simp at hu; subst hu; rfl)
            case c3 => first | omega | (unfold maxLen; omega)
            case c4 => omega
            intro v5 w5 hown hgrow hnil5 hat
            obtain ⟨g5, c5, rfl, p1, p2, p3, p4⟩ := Cp.row_some hown (by first | exact hnil5 | (intro e; have := hnil5.1 e; simp at this))
            have SN : Hid (KB (fun b => b = w.heap.size + 2 ∨ b = jb ∨ H0 ≤ b) w3 w5 ∧ Jb.Row w5 (w.heap.size + 3) (.slice (some ⟨jb, 0, none⟩) n jc) (jn R X J (k + 1)) ∧ World.ownsRow w5 (w.heap.size + 2) 2 1 (.slice (some ⟨g5, 0, none⟩) (len + 1) c5) (ln R X J (k + 1)).length (ints (ln R X J (k + 1))) ∧ (∀ g, Value.ownBlock (.slice (some ⟨g5, 0, none⟩) (len + 1) c5) = some g → g = w.heap.size + 2 ∨ H0 ≤ g)) := (by
              obtain ⟨s1, s2, s3, s4⟩ := SS.out
              have bA : Below wq.heap.size wq (wq.alloc (.cells #[.int .i64 ((k : Int) + 1)] 2)) := (Below.refl _ _).alloc (Nat.le_refl _) _
              have kg := KB.of_grown (S := fun b => (Value.slice la len lc).ownBlock = some b) hgrow (fun b hb => hb)
              rw [HL.out.1]
              refine ⟨(s1.trans (KB.of_below bA)).trans (kg.mono (fun b hb => by rcases s4 b hb with q | q; exact .inl q; exact .inr (.inr q))), ?_, ?_, ?_⟩
              · exact jrow_kb (s2.on bA) kg (fun g hg hc => (row_ty OA.out g hc).ne ((row_ty s2.choose_spec.1 g hg).on bA) (by decide) rfl)
              · rw [HL.out.2]
                simpa [ints, HLN.out] using hown
              · intro g hg
                rcases hat with q | q
                · exact s4 g (by rw [← q]; exact hg)
                · have e1 : Value.ownBlock (.slice (some ⟨g5, 0, none⟩) (len + 1) c5) = some g := hg
                  rw [q] at e1
                  simp at e1
                  have := ZA.out.2
                  omega)
            have HL2 : Hid ((ln R X J (k + 1)).length = len + 1) := (by show _ = _; rw [HL.out.2]; simp [HLN.out])
            clear hown hgrow hnil5 hat p1 p2 p3 p4 SS OA ZA
            go_wp2_with fail
            go_roundw
            case rel => exact ⟨k + 1, some ⟨g5, 0, none⟩, c5, by omega, by go_num, by rw [HL2.out], by have q := SN; rw [HL2.out] at q ⊢; exact q⟩
            case measure => simp [intOf]; omega
          · have HL : Hid (jn R X J (k + 1) = jn R X J k ∧ ln R X J (k + 1) = ln R X J k) := jn_no (by rw [CN.out, decide_eq_false hr, Bool.and_false, Bool.and_false])
            have hrd : decide (rn R (jn R X J k) ((gi : Int) + 1) n < X.getD gi 0) = false := decide_eq_false hr
            clear hf hs j0 j1 MW CN
            generalize rn R (jn R X J k) ((gi : Int) + 1) n = rr at *
            generalize X.getD gi 0 = xx at *
            go_upto_region 9 with fail
            go_region_held3 (fun w' => w'.cell? ⟨nb, 0, none⟩ = some (.slice (some ⟨rb, 0, none⟩) n rc) ∧ w'.cell? ⟨nb, 1, none⟩ = some (.slice (some ⟨xb, 0, none⟩) m xc) ∧ w'.cell? ⟨nb, 2, none⟩ = some (.int .i64 now) ∧ w'.cell? ⟨nb, 3, none⟩ = some (.slice (some ⟨jb, 0, none⟩) n jc) ∧ w'.cell? ⟨jb, k * 2, none⟩ = some (.int .i64 0) ∧ w'.cell? ⟨xb, gi, none⟩ = some (.int .i64 (xx))) (first | (exact ⟨c0, c1, c2, c3, j0', xg⟩) | (exact H11) | (exact H12) | go_keep)
              (first
              | (go_at_call 42; refine (F30.out _ BD.out).mono ?_; rintro e w11 ⟨rfl, b11⟩; have S11 : Hid (Below wr.heap.size wr w11) := BD.out.trans (b11.mono BD.out.size); have H11 : (w11.cell? ⟨nb, 0, none⟩ = some (.slice (some ⟨rb, 0, none⟩) n rc) ∧ w11.cell? ⟨nb, 1, none⟩ = some (.slice (some ⟨xb, 0, none⟩) m xc) ∧ w11.cell? ⟨nb, 2, none⟩ = some (.int .i64 now) ∧ w11.cell? ⟨nb, 3, none⟩ = some (.slice (some ⟨jb, 0, none⟩) n jc) ∧ w11.cell? ⟨jb, k * 2, none⟩ = some (.int .i64 0) ∧ w11.cell? ⟨xb, gi, none⟩ = some (.int .i64 (xx))) := HW.out w11 S11.out; clear b11)
              | (go_at_call 43; refine (F31.out _ S11.out).mono ?_; rintro e w12 ⟨rfl, b12⟩; have S12 : Hid (Below wr.heap.size wr w12) := S11.out.trans (b12.mono S11.out.size); have H12 : (w12.cell? ⟨nb, 0, none⟩ = some (.slice (some ⟨rb, 0, none⟩) n rc) ∧ w12.cell? ⟨nb, 1, none⟩ = some (.slice (some ⟨xb, 0, none⟩) m xc) ∧ w12.cell? ⟨nb, 2, none⟩ = some (.int .i64 now) ∧ w12.cell? ⟨nb, 3, none⟩ = some (.slice (some ⟨jb, 0, none⟩) n jc) ∧ w12.cell? ⟨jb, k * 2, none⟩ = some (.int .i64 0) ∧ w12.cell? ⟨xb, gi, none⟩ = some (.int .i64 (xx))) := HW.out w12 S12.out; clear b12))
            go_wp2_with fail
            go_roundw
            case rel => exact ⟨k + 1, la, lc, by omega, by go_num, by rw [HL.out.2], by rw [HL.out.1, HL.out.2]; exact SW.out _ S12.out⟩
            case measure => simp [intOf]; omega
      · have hs2 : (hw (jn R X J k) k == 0) = false := by simpa using hs
        have j0' : wr.cell? ⟨jb, k * 2, none⟩ = some (.int .i64 (hw (jn R X J k) k)) := j0
        have HL : Hid (jn R X J (k + 1) = jn R X J k ∧ ln R X J (k + 1) = ln R X J k) := jn_no (by rw [CN.out, hs2, Bool.false_and])
        clear hs j0 MW
        go_wp2_with fail
        go_quiet (fail)
        go_wp2_with fail
        go_roundw
        case rel => exact ⟨k + 1, la, lc, by omega, by go_num, by rw [HL.out.2], by rw [HL.out.1, HL.out.2]; exact SW.out _ (below_drewN (Below.refl _ _) _)⟩
        case measure => simp [intOf]; omega
    · have ek : k = n := by omega
      subst ek
      have nne := XW.ne
      have i1 : ¬ (k : Int) < (k : Int) := by omega
      go_wp2_with fail
      have kq := kb4 wr (w.heap.size + 1) (.slice (some ⟨rb, 0, none⟩) k rc) (.slice (some ⟨xb, 0, none⟩) m xc) (.int .i64 now) (.slice (some ⟨jb, 0, none⟩) k jc)
      refine bodyPost_ret (v := .tuple #[rv (.slice (some ⟨rb, 0, none⟩) k rc) (.slice (some ⟨xb, 0, none⟩) m xc) now (.slice (some ⟨jb, 0, none⟩) k jc), (.slice la (ln R X J k).length lc)]) (by simp [results, Try.results57, go_sem, z0, z1, z2, z3]) rfl ⟨some ⟨rb, 0, none⟩, rc, some ⟨xb, 0, none⟩, xc, some ⟨jb, 0, none⟩, jc, la, lc, rfl, (mo_box MW kq XW.res.ty).down (by omega), ?_, bel4 BW (by omega) _ _ _ _⟩
      exact Lists.reads_row (row_kb S.out.2.2.1 kq (fun g hg e => (row_ty S.out.2.2.1 g hg).ne XW.res.ty (by decide) e))
end Go.Proofs.Ytfhpomfdkpfooaa.Ty
