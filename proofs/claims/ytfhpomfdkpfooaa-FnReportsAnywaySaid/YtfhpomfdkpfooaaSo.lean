/- Whether a suite is right: the model and the program. -/
import Derived.Test.YtfhpomfdkpfooaaSu
import Derived.Test.YtfhpomfdkpfooaaAlA
namespace Go.Proofs.Ytfhpomfdkpfooaa.So
open Go.ChangeShapes Go.WideShapes Go.ChangeAt Go.RowKit
open Go.Proofs.Ytfhpomfdkpfooaa.Lists Go.Proofs.Ytfhpomfdkpfooaa.Al

theorem below_drewN {B : Nat} {a w : World} (h : Below B a w) (n : Nat) : Below B a (w.drewN n) := h.trans ⟨rfl, rfl, rfl, Nat.le_refl _, fun _ _ => rfl⟩
/-- Is the k-th of those that a task comes behind a number up to hi, above the one ahead of it? -/
def eA (L : List Int) (hi : Int) (k : Nat) : Bool := inn (L.getD k 0) 1 hi && (decide (k = 0) || decide (L.getD (k - 1) 0 < L.getD k 0))
def eAs (L : List Int) (hi : Int) : Bool := (List.range L.length).all (eA L hi)
def tok (z1 z2 z3 : Int) (L : List Int) (hi g : Int) : Bool := eAs L hi && (inn z1 1 g && (inn z2 0 1000000000000 && inn z3 1 5))
def okT (R : Tk.Ls) (g : Int) (i : Nat) : Bool := tok (Tk.cz R i 1) (Tk.cz R i 2) (Tk.cz R i 3) (Tk.cl R i) (i : Int) g
def oks (R : Tk.Ls) (g : Int) : Bool := (List.range R.length).all (okT R g)
/-- Is a suite right? -/
def okS (R : Tk.Ls) (X : List Int) : Bool := inn (R.length : Int) 1 60 && (inn (X.length : Int) 1 6 && (X.all (fun d => inn d 1 60) && oks R (X.length : Int)))
theorem eAs_no {L : List Int} {hi : Int} {k : Nat} (hk : k < L.length) (h : eA L hi k = false) : eAs L hi = false := by
  unfold eAs
  rw [List.all_eq_false]
  exact ⟨k, List.mem_range.2 hk, by simp [h]⟩
theorem eAs_yes {L : List Int} {hi : Int} (h : ∀ j, j < L.length → eA L hi j = true) : eAs L hi = true := by
  unfold eAs
  rw [List.all_eq_true]
  intro x hx
  exact h x (List.mem_range.1 hx)
theorem oks_no {R : Tk.Ls} {g : Int} {k : Nat} (hk : k < R.length) (h : okT R g k = false) : oks R g = false := by
  unfold oks
  rw [List.all_eq_false]
  exact ⟨k, List.mem_range.2 hk, by simp [h]⟩
theorem oks_yes {R : Tk.Ls} {g : Int} (h : ∀ j, j < R.length → okT R g j = true) : oks R g = true := by
  unfold oks
  rw [List.all_eq_true]
  intro x hx
  exact h x (List.mem_range.1 hx)
/-- What stood ahead of the k-th. -/
def pr (L : List Int) : Nat → Int
  | 0 => 0
  | k + 1 => L.getD k 0
theorem pr_rng {L : List Int} {hi : Int} : ∀ k, (∀ j, j < k → eA L hi j = true) → (k : Int) ≤ pr L k ∧ (0 < k → pr L k ≤ hi)
  | 0, _ => by simp [pr]
  | k + 1, h => by
    have ih := pr_rng k (fun j hj => h j (by omega))
    have e := h k (by omega)
    unfold eA at e
    rw [Bool.and_eq_true, inn_iff] at e
    refine ⟨?_, fun _ => e.1.2⟩
    show ((k + 1 : Nat) : Int) ≤ L.getD k 0
    cases k with
    | zero => have := e.1.1; omega
    | succ p =>
      have e2 := e.2
      simp only [Nat.add_sub_cancel, decide_eq_false (by omega : ¬ p + 1 = 0), Bool.false_or, decide_eq_true_eq] at e2
      have := ih.1
      rw [show pr L (p + 1) = L.getD p 0 from rfl] at this
      omega
theorem eA_pr {L : List Int} {hi : Int} {k : Nat} (h : ∀ j, j < k → eA L hi j = true) : eA L hi k = inn (L.getD k 0) (pr L k + 1) hi := by
  have hp := pr_rng k h
  cases k with
  | zero => unfold eA pr; simp
  | succ p =>
    have hp1 := hp.1
    unfold eA
    have e : pr L (p + 1) = L.getD p 0 := rfl
    rw [e] at hp1 ⊢
    rw [Nat.add_sub_cancel, decide_eq_false (by omega : ¬ p + 1 = 0), Bool.false_or]
    unfold inn
    by_cases c : L.getD p 0 < L.getD (p + 1) 0
    · rw [decide_eq_true c, decide_eq_true (by omega : 1 ≤ L.getD (p + 1) 0), decide_eq_true (by omega : L.getD p 0 + 1 ≤ L.getD (p + 1) 0)]; simp
    · rw [decide_eq_false c, decide_eq_false (by omega : ¬ L.getD p 0 + 1 ≤ L.getD (p + 1) 0)]; simp
theorem eAs_len {L : List Int} {hi : Int} (h0 : 0 ≤ hi) (h : eAs L hi = true) : (L.length : Int) ≤ hi := by
  have hh : ∀ j, j < L.length → eA L hi j = true := fun j hj => by
    unfold eAs at h
    rw [List.all_eq_true] at h
    exact h j (List.mem_range.2 hj)
  have := pr_rng L.length hh
  by_cases e : 0 < L.length
  · have := this.2 e; omega
  · omega
theorem tok_no1 {z1 z2 z3 : Int} {L : List Int} {hi g : Int} (h : eAs L hi = false) : tok z1 z2 z3 L hi g = false := by unfold tok; rw [h]; rfl
theorem tok_no2 {z1 z2 z3 : Int} {L : List Int} {hi g : Int} (h : inn z1 1 g = false) : tok z1 z2 z3 L hi g = false := by unfold tok; rw [h]; simp
theorem tok_no3 {z1 z2 z3 : Int} {L : List Int} {hi g : Int} (h : inn z2 0 1000000000000 = false) : tok z1 z2 z3 L hi g = false := by unfold tok; rw [h]; simp
theorem tok_no4 {z1 z2 z3 : Int} {L : List Int} {hi g : Int} (h : inn z3 1 5 = false) : tok z1 z2 z3 L hi g = false := by unfold tok; rw [h]; simp
theorem tok_yes {z1 z2 z3 : Int} {L : List Int} {hi g : Int} (h1 : eAs L hi = true) (h2 : inn z1 1 g = true) (h3 : inn z2 0 1000000000000 = true) (h4 : inn z3 1 5 = true) : tok z1 z2 z3 L hi g = true := by unfold tok; rw [h1, h2, h3, h4]; rfl
theorem rows_at {w : World} {v : Value} {L : Tk.Ls} (h : Tk.Reads w v L) : ∃ b o, (∀ i, i < L.length → Tk.Cs w b o L i) ∧ (0 < L.length → b < w.heap.size ∧ ∃ cap, v = .slice (some ⟨b, o, none⟩) L.length cap) := by
  rcases h with ⟨rfl, _⟩ | ⟨b, o, cap, h1, h2, h3, h4, h5⟩
  · exact ⟨0, 0, fun i hi => by simp at hi, fun hi => by simp at hi⟩
  · exact ⟨b, o, h5, fun _ => ⟨h4, cap, h1⟩⟩

set_option maxHeartbeats 1000000 in
theorem itask (z1 z2 z3 : Int) (L : List Int) (v : Value) (n g : Int) (w : World) (hn1 : 1 ≤ n) (hn2 : n ≤ 100) (hL : Lists.Reads w v L) (fL : L.length < 9223372036854775808) :
    Calls Try.prog 51 #[Tk1.sv z1 z2 z3 v, .int .i64 n, .int .i64 g] w fun e w' => e = .returned (.bool (tok z1 z2 z3 L (n - 1) g)) ∧ Below w.heap.size w w' := by
  obtain ⟨w0, hw0⟩ : ∃ w0, w0 = w.alloc (Obj.cells #[v, .int .i64 z1, .int .i64 z2, .int .i64 z3] 50) := ⟨_, rfl⟩
  have HW0 : Hid (w0 = w.alloc (Obj.cells #[v, .int .i64 z1, .int .i64 z2, .int .i64 z3] 50)) := hw0
  have B0 : Hid (Below w.heap.size w w0) := (by show Below _ _ _; rw [hw0]; exact (Below.refl _ _).alloc (Nat.le_refl _) _)
  have K0 : Hid (Tk1.Box w0 w.heap.size v (.int .i64 z1) (.int .i64 z2) (.int .i64 z3)) := (by show Tk1.Box _ _ _ _ _ _; rw [hw0]; unfold Tk1.Box; simp [go_sem])
  obtain ⟨b, o, hcell, hvv⟩ := reads_at (hL.on B0.out)
  obtain ⟨a, cap, rfl⟩ := hL.form
  have HC : Hid (∀ i, i < L.length → w0.cell? ⟨b, o + i, none⟩ = some (.int .i64 (L.getD i 0))) := hcell
  have HB : Hid (0 < L.length → b < w0.heap.size ∧ a = some ⟨b, o, none⟩) := fun hi => by
    obtain ⟨h1, c, h2⟩ := hvv hi
    simp at h2
    exact ⟨h1, h2.1⟩
  obtain ⟨bo, hbo⟩ : ∃ bo, tok z1 z2 z3 L (n - 1) g = bo := ⟨_, rfl⟩
  have HO : Hid (tok z1 z2 z3 L (n - 1) g = bo) := hbo
  rw [hbo]
  obtain ⟨m, hm⟩ : ∃ m, m = L.length := ⟨_, rfl⟩
  rw [← hm] at fL HW0 K0 ⊢
  have HN : Hid (m = L.length) := hm
  have D1 : Hid (∀ w, Calls Try.prog 29 #[.int .i64 z1, .int .i64 1, .int .i64 g] w fun e w' => e = .returned (.bool (inn z1 1 g)) ∧ w' = w) := fun w => i_in _ _ _ w
  have D2 : Hid (∀ w, Calls Try.prog 29 #[.int .i64 z2, .int .i64 0, .int .i64 1000000000000] w fun e w' => e = .returned (.bool (inn z2 0 1000000000000)) ∧ w' = w) := fun w => i_in _ _ _ w
  have D3 : Hid (∀ w, Calls Try.prog 29 #[.int .i64 z3, .int .i64 1, .int .i64 5] w fun e w' => e = .returned (.bool (inn z3 1 5)) ∧ w' = w) := fun w => i_in _ _ _ w
  clear hL hcell hvv hw0 hm hbo
  obtain ⟨k0, k1, k2, k3⟩ := K0.out
  go_enter Try.func51, Try.ntmps51
  go_wp2_with fail
  rw [← HW0.out]
  go_loop [7, 13] (fun l i => ∃ (k : Nat) (p : Int), k ≤ m ∧ i = .int .i64 k ∧ l = .int .i64 p ∧ 0 ≤ p ∧ p ≤ 100 ∧ Hid (p = pr L k ∧ ∀ j, j < k → eA L (n - 1) j = true)) (fun _ i => m - (intOf i).toNat)
  case atStart => exact ⟨0, 0, by omega, rfl, rfl, by omega, by omega, rfl, fun j hj => by omega⟩
  case round =>
    obtain ⟨k, p, hk, rfl, rfl, p0, p1, OK⟩ := hrel
    by_cases hlt : k < m
    · have hkl : k < L.length := by rw [← HN.out]; exact hlt
      obtain ⟨hb, hx⟩ := HB.out (by omega)
      subst hx
      have q : w0.cell? ⟨b, o + k, none⟩ = some (.int .i64 (L.getD k 0)) := HC.out k hkl
      have i1 : (0 : Int) ≤ (k : Int) := by omega
      have i2 : (k : Int) < (m : Int) := by omega
      have EA : Hid (eA L (n - 1) k = inn (L.getD k 0) (p + 1) (n - 1)) := (by show _ = _; rw [OK.out.1]; exact eA_pr OK.out.2)
      have C3 : Hid (∀ w, Calls Try.prog 29 #[.int .i64 (L.getD k 0), .int .i64 (p + 1), .int .i64 (n - 1)] w fun e w' => e = .returned (.bool (inn (L.getD k 0) (p + 1) (n - 1))) ∧ w' = w) := fun w => i_in _ _ _ w
      have HG : Hid (pr L (k + 1) = L.getD k 0) := rfl
      cases hz : inn (L.getD k 0) (p + 1) (n - 1)
      · have HF : Hid (bo = false) := (by show _ = _; rw [← HO.out]; exact tok_no1 (eAs_no hkl (EA.out.trans hz)))
        rw [hz] at C3
        clear hz HG EA
        generalize L.getD k 0 = z at *
        go_wp2_with fail
        refine (C3.out _).mono ?_
        rintro e w3 ⟨rfl, hw⟩
        have hw' := hw.symm
        subst hw'
        go_wp2_with fail
        go_ret
        exact ⟨by rw [HF.out]; rfl, B0.out⟩
      · have OK2 : Hid (∀ j, j < k + 1 → eA L (n - 1) j = true) := fun j hj => by
          by_cases e : j = k
          · rw [e]; exact EA.out.trans hz
          · exact OK.out.2 j (by omega)
        have hzz := (inn_iff _ _ _).1 hz
        have z0 : 0 ≤ L.getD k 0 := by omega
        have z100 : L.getD k 0 ≤ 100 := by omega
        rw [hz] at C3
        clear hz EA hzz
        generalize L.getD k 0 = z at *
        go_wp2_with fail
        refine (C3.out _).mono ?_
        rintro e w3 ⟨rfl, hw⟩
        have hw' := hw.symm
        subst hw'
        go_wp2_with fail
        go_round
        case rel => exact ⟨k + 1, z, by omega, by go_num, rfl, z0, z100, HG.out.symm, OK2.out⟩
        case measure => simp [intOf]; omega
    · have EY : Hid (eAs L (n - 1) = true) := (by show _ = _; exact eAs_yes (fun j hj => OK.out.2 j (by have := HN.out; omega)))
      clear p0 p1
      cases c1 : inn z1 1 g
      · have HF : Hid (bo = false) := (by show _ = _; rw [← HO.out]; exact tok_no2 c1)
        rw [c1] at D1
        clear c1
        go_wp2_with fail
        refine (D1.out _).mono ?_
        rintro e w3 ⟨rfl, hw⟩
        have hw' := hw.symm
        subst hw'
        go_wp2_with fail
        go_ret
        exact ⟨by rw [HF.out]; rfl, B0.out⟩
      cases c2 : inn z2 0 1000000000000
      · have HF : Hid (bo = false) := (by show _ = _; rw [← HO.out]; exact tok_no3 c2)
        rw [c1] at D1
        rw [c2] at D2
        clear c1 c2
        go_wp2_with fail
        refine (D1.out _).mono ?_
        rintro e w3 ⟨rfl, hw⟩
        have hw' := hw.symm
        subst hw'
        go_wp2_with fail
        refine (D2.out _).mono ?_
        rintro e w3 ⟨rfl, hw⟩
        have hw' := hw.symm
        subst hw'
        go_wp2_with fail
        go_ret
        exact ⟨by rw [HF.out]; rfl, B0.out⟩
      have HE : Hid (bo = inn z3 1 5) := (by show _ = _; rw [← HO.out]; unfold tok; rw [EY.out, c1, c2]; rfl)
      rw [c1] at D1
      rw [c2] at D2
      clear c1 c2
      go_wp2_with fail
      refine (D1.out _).mono ?_
      rintro e w3 ⟨rfl, hw⟩
      have hw' := hw.symm
      subst hw'
      go_wp2_with fail
      refine (D2.out _).mono ?_
      rintro e w3 ⟨rfl, hw⟩
      have hw' := hw.symm
      subst hw'
      go_wp2_with fail
      refine (D3.out _).mono ?_
      rintro e w3 ⟨rfl, hw⟩
      have hw' := hw.symm
      subst hw'
      go_wp2_with fail
      go_ret
      exact ⟨by rw [HE.out]; rfl, B0.out⟩

theorem okS_no1 {R : Tk.Ls} {X : List Int} (h : inn (R.length : Int) 1 60 = false) : okS R X = false := by unfold okS; rw [h]; rfl
theorem okS_no2 {R : Tk.Ls} {X : List Int} (h : inn (X.length : Int) 1 6 = false) : okS R X = false := by unfold okS; rw [h]; simp
theorem okS_no3 {R : Tk.Ls} {X : List Int} (h : X.all (fun d => inn d 1 60) = false) : okS R X = false := by unfold okS; rw [h]; simp
theorem okS_no4 {R : Tk.Ls} {X : List Int} (h : oks R (X.length : Int) = false) : okS R X = false := by unfold okS; rw [h]; simp

set_option maxHeartbeats 1000000 in
set_option maxRecDepth 20000 in
theorem isuite (R : Tk.Ls) (X : List Int) (vr vx : Value) (w : World) (hR : Tk.Reads w vr R) (hX : Lists.Reads w vx X) :
    Calls Try.prog 35 #[Su.pv vr vx] w fun e w' => e = .returned (.bool (okS R X)) ∧ Below w.heap.size w w' := by
  obtain ⟨br, or, hcr, hvr⟩ := rows_at hR
  have rf := hR.fits
  have xf := Tk.lfits hX
  obtain ⟨sr, cr, er⟩ := hR.form
  obtain ⟨sx, cx, ex⟩ := hX.form
  subst er ex
  obtain ⟨w0, hw0⟩ : ∃ w0, w0 = w.alloc (Obj.cells #[.slice sr R.length cr, .slice sx X.length cx] 27) := ⟨_, rfl⟩
  have HW0 : Hid (w0 = w.alloc (Obj.cells #[.slice sr R.length cr, .slice sx X.length cx] 27)) := hw0
  have B0 : Hid (Below w.heap.size w w0) := (by show Below _ _ _; rw [hw0]; exact (Below.refl _ _).alloc (Nat.le_refl _) _)
  have Z0 : Hid (w0.heap.size = w.heap.size + 1) := (by show _ = _; rw [hw0]; simp)
  have K0 : Hid (Su.Box w0 w.heap.size (.slice sr R.length cr) (.slice sx X.length cx)) := (by show Su.Box _ _ _ _; rw [hw0]; unfold Su.Box; simp [go_sem])
  have HCR : Hid (∀ i, i < R.length → Tk.Cs w br or R i) := hcr
  have HVR : Hid (0 < R.length → br < w.heap.size ∧ sr = some ⟨br, or, none⟩) := fun hi => by
    obtain ⟨h1, c, h2⟩ := hvr hi
    simp at h2
    exact ⟨h1, h2.1⟩
  have D1 : Hid (∀ w, Calls Try.prog 29 #[.int .i64 (R.length : Int), .int .i64 1, .int .i64 60] w fun e w' => e = .returned (.bool (inn (R.length : Int) 1 60)) ∧ w' = w) := fun w => i_in _ _ _ w
  have D2 : Hid (∀ w, Calls Try.prog 29 #[.int .i64 (X.length : Int), .int .i64 1, .int .i64 6] w fun e w' => e = .returned (.bool (inn (X.length : Int) 1 6)) ∧ w' = w) := fun w => i_in _ _ _ w
  have D3 : Hid (Calls Try.prog 50 #[.slice sx X.length cx, .int .i64 1, .int .i64 60] w0 fun e w' => e = .returned (.bool (X.all (fun d => inn d 1 60))) ∧ w' = w0) := iall_any X 1 60 _ w0 (hX.on B0.out) xf
  obtain ⟨bo, hbo⟩ : ∃ bo, okS R X = bo := ⟨_, rfl⟩
  have HO : Hid (okS R X = bo) := hbo
  rw [hbo]
  have N1 : Hid (inn (R.length : Int) 1 60 = false → bo = false) := fun h => by rw [← HO.out]; exact okS_no1 h
  have N2 : Hid (inn (X.length : Int) 1 6 = false → bo = false) := fun h => by rw [← HO.out]; exact okS_no2 h
  have N3 : Hid (X.all (fun d => inn d 1 60) = false → bo = false) := fun h => by rw [← HO.out]; exact okS_no3 h
  have N4 : Hid (∀ k, k < R.length → okT R (X.length : Int) k = false → bo = false) := fun k hk h => by rw [← HO.out]; exact okS_no4 (oks_no hk h)
  have Y1 : Hid (inn (R.length : Int) 1 60 = true → inn (X.length : Int) 1 6 = true → X.all (fun d => inn d 1 60) = true → (∀ k, k < R.length → okT R (X.length : Int) k = true) → bo = true) := fun h1 h2 h3 h => by rw [← HO.out]; unfold okS; rw [h1, h2, h3, oks_yes h]; rfl
  obtain ⟨nr, hnr⟩ : ∃ nr, nr = R.length := ⟨_, rfl⟩
  have HN : Hid (nr = R.length) := hnr
  obtain ⟨nx, hnx⟩ : ∃ nx, nx = X.length := ⟨_, rfl⟩
  rw [← hnr] at HW0 K0 rf D1 N1 Y1 ⊢
  rw [← hnx] at HW0 K0 xf D2 D3 N2 N4 Y1 ⊢
  clear hR hX hcr hvr hw0 hbo hnr hnx
  obtain ⟨k0, k1⟩ := K0.out
  cases c1 : inn (nr : Int) 1 60
  · have HF : Hid (bo = false) := N1.out c1
    rw [c1] at D1
    clear c1
    go_enter Try.func35, Try.ntmps35
    go_wp2_with fail
    rw [← HW0.out]
    refine (D1.out _).mono ?_
    rintro e w3 ⟨rfl, hw⟩
    have hw' := hw.symm
    subst hw'
    go_wp2_with fail
    go_ret
    exact ⟨by rw [HF.out]; rfl, B0.out⟩
  have Q1 : Hid (inn (nr : Int) 1 60 = true) := c1
  have n60 := ((inn_iff _ _ _).1 c1).2
  rw [c1] at D1
  clear c1
  cases c2 : inn (nx : Int) 1 6
  · have HF : Hid (bo = false) := N2.out c2
    rw [c2] at D2
    clear c2
    go_enter Try.func35, Try.ntmps35
    go_wp2_with fail
    rw [← HW0.out]
    refine (D1.out _).mono ?_
    rintro e w3 ⟨rfl, hw⟩
    have hw' := hw.symm
    subst hw'
    go_wp2_with fail
    refine (D2.out _).mono ?_
    rintro e w3 ⟨rfl, hw⟩
    have hw' := hw.symm
    subst hw'
    go_wp2_with fail
    go_ret
    exact ⟨by rw [HF.out]; rfl, B0.out⟩
  have Q2 : Hid (inn (nx : Int) 1 6 = true) := c2
  rw [c2] at D2
  clear c2
  cases c3 : X.all (fun d => inn d 1 60)
  · have HF : Hid (bo = false) := N3.out c3
    rw [c3] at D3
    clear c3
    go_enter Try.func35, Try.ntmps35
    go_wp2_with fail
    rw [← HW0.out]
    refine (D1.out _).mono ?_
    rintro e w3 ⟨rfl, hw⟩
    have hw' := hw.symm
    subst hw'
    go_wp2_with fail
    refine (D2.out _).mono ?_
    rintro e w3 ⟨rfl, hw⟩
    have hw' := hw.symm
    subst hw'
    go_wp2_with fail
    refine (D3.out).mono ?_
    rintro e w3 ⟨rfl, hw⟩
    have hw' := hw.symm
    subst hw'
    go_wp2_with fail
    go_ret
    exact ⟨by rw [HF.out]; rfl, B0.out⟩
  have Q3 : Hid (X.all (fun d => inn d 1 60) = true) := c3
  rw [c3] at D3
  clear c3
  go_enter Try.func35, Try.ntmps35
  go_wp2_with fail
  rw [← HW0.out]
  refine (D1.out _).mono ?_
  rintro e w3 ⟨rfl, hw⟩
  have hw' := hw.symm
  subst hw'
  go_wp2_with fail
  refine (D2.out _).mono ?_
  rintro e w3 ⟨rfl, hw⟩
  have hw' := hw.symm
  subst hw'
  go_wp2_with fail
  refine (D3.out).mono ?_
  rintro e w3 ⟨rfl, hw⟩
  have hw' := hw.symm
  subst hw'
  go_wp2_with fail
  go_loopw [28] (fun i wr => ∃ k : Nat, k ≤ nr ∧ i = .int .i64 k ∧ Hid (∀ j, j < k → okT R (nx : Int) j = true) ∧ Hid (Below w0.heap.size w0 wr)) (fun i _ => nr - (intOf i).toNat)
  case atStart => exact ⟨0, by omega, rfl, fun j hj => by omega, Below.refl _ _⟩
  case round =>
    obtain ⟨k, hk, rfl, OK, BB⟩ := hrel
    clear k0 k1
    have z0 := Z0.out
    have zr := BB.out.size
    have KR : Hid (Su.Box wr w.heap.size (.slice sr nr cr) (.slice sx nx cx)) := K0.out.on BB.out (by omega)
    obtain ⟨k0, k1⟩ := KR.out
    by_cases hlt : k < nr
    · have hkl : k < R.length := by rw [← HN.out]; exact hlt
      obtain ⟨hb, hx⟩ := HVR.out (by omega)
      subst hx
      obtain ⟨q1, q2, q3, u, q0, ru⟩ : Tk.Cs wr br or R k := ((HCR.out k hkl).on B0.out hb).on BB.out (by omega)
      obtain ⟨su, cu, eu⟩ := ru.form
      subst eu
      obtain ⟨w2, hw2⟩ : ∃ x, x = wr.alloc (Obj.cells #[.slice su (Tk.cl R k).length cu, .int .i64 (Tk.cz R k 1), .int .i64 (Tk.cz R k 2), .int .i64 (Tk.cz R k 3)] 50) := ⟨_, rfl⟩
      have HW2 : Hid (w2 = wr.alloc (Obj.cells #[.slice su (Tk.cl R k).length cu, .int .i64 (Tk.cz R k 1), .int .i64 (Tk.cz R k 2), .int .i64 (Tk.cz R k 3)] 50)) := hw2
      have b2 : Below wr.heap.size wr w2 := by rw [hw2]; exact (Below.refl _ _).alloc (Nat.le_refl _) _
      have B2 : Hid (Below w0.heap.size w0 w2) := BB.out.trans (b2.mono zr)
      have X2 : Tk1.Box w2 wr.heap.size (.slice su (Tk.cl R k).length cu) (.int .i64 (Tk.cz R k 1)) (.int .i64 (Tk.cz R k 2)) (.int .i64 (Tk.cz R k 3)) := by rw [hw2]; unfold Tk1.Box; simp [go_sem]
      obtain ⟨x0, x1, x2, x3⟩ := X2
      have TT : Hid (Calls Try.prog 51 #[Tk1.sv (Tk.cz R k 1) (Tk.cz R k 2) (Tk.cz R k 3) (.slice su (Tk.cl R k).length cu), .int .i64 ((k : Int) + 1), .int .i64 (nx : Int)] w2 fun e w' => e = .returned (.bool (okT R (nx : Int) k)) ∧ Below w2.heap.size w2 w') := (by
        have := itask (Tk.cz R k 1) (Tk.cz R k 2) (Tk.cz R k 3) (Tk.cl R k) _ ((k : Int) + 1) (nx : Int) w2 (by omega) (by omega) (ru.on b2) (Tk.lfits ru)
        rw [Int.add_sub_cancel] at this
        exact this)
      have NF : Hid (okT R (nx : Int) k = false → bo = false) := fun h => N4.out k hkl h
      have NX : Hid (okT R (nx : Int) k = true → ∀ j, j < k + 1 → okT R (nx : Int) j = true) := fun h j hj => by
        by_cases e : j = k
        · rw [e]; exact h
        · exact OK.out j (by omega)
      have S2 : Hid (w0.heap.size ≤ w2.heap.size) := B2.out.size
      have i2 : (0 : Int) ≤ (k : Int) := by omega
      have i3 : (k : Int) < (nr : Int) := by omega
      clear hw2 b2 ru z0 zr
      generalize okT R (nx : Int) k = c at *
      generalize (Tk.cl R k).length = lh at *
      generalize Tk.cz R k 1 = y1 at *
      generalize Tk.cz R k 2 = y2 at *
      generalize Tk.cz R k 3 = y3 at *
      cases c
      · have HF : Hid (bo = false) := NF.out rfl
        go_wp2_with fail
        rw [← HW2.out]
        refine TT.out.mono ?_
        rintro e w5 ⟨rfl, hb5⟩
        have B5 : Hid (Below w.heap.size w w5) := (B0.out.trans (B2.out.mono B0.out.size)).trans (hb5.mono (by have := S2.out; have := B0.out.size; omega))
        clear hb5
        go_wp2_with fail
        go_ret
        exact ⟨by rw [HF.out]; rfl, B5.out⟩
      · have OK2 : Hid (∀ j, j < k + 1 → okT R (nx : Int) j = true) := NX.out rfl
        go_wp2_with fail
        rw [← HW2.out]
        refine TT.out.mono ?_
        rintro e w5 ⟨rfl, hb5⟩
        have B5 : Hid (Below w0.heap.size w0 w5) := B2.out.trans (hb5.mono S2.out)
        clear hb5
        go_wp2_with fail
        go_roundw
        case rel => exact ⟨k + 1, by omega, by go_num, OK2, B5.out⟩
        case measure => simp [intOf]; omega
    · have HT : Hid (bo = true) := Y1.out Q1.out Q2.out Q3.out (fun j hj => OK.out j (by have := HN.out; omega))
      have BW : Hid (Below w.heap.size w wr) := B0.out.trans (BB.out.mono (by omega))
      clear z0 zr
      go_wp2_with fail
      go_ret
      exact ⟨by rw [HT.out]; rfl, BW.out⟩
end Go.Proofs.Ytfhpomfdkpfooaa.So
