/- Whether a table is right: the model and the program. -/
import Derived.Test.YteidipdjhkmgpaaPoB
namespace Go.Proofs.Yteidipdjhkmgpaa.Lists
open Go.ChangeShapes Go.WideShapes Go.ChangeAt Go.RowKit

def bt (n a b : Int) : Bool := decide (a ≤ n) && decide (n ≤ b)
theorem bt_yes {n a b : Int} (h : bt n a b = true) : a ≤ n ∧ n ≤ b := by unfold bt at h; simpa using h
theorem bt_mk {n a b : Int} (h1 : a ≤ n) (h2 : n ≤ b) : bt n a b = true := by unfold bt; simp [h1, h2]
theorem bt_no {n a b : Int} (h : ¬ (a ≤ n ∧ n ≤ b)) : bt n a b = false := by
  cases hb : bt n a b
  · rfl
  · exact absurd (bt_yes hb) h
def eOk (T : El) (k : Nat) : Bool := bt (cO T k) 1 99999 && ((k == 0 || decide (cO T (k - 1) < cO T k)) && (bt (wO T k) 1 32 && (bt (sO T k) (-10) 10 && bt (rO T k) (-1000000000) 1000000000)))
def tOk (T : El) : Bool := decide (T.length ≤ 200) && (List.range T.length).all (eOk T)
theorem tOk_iff {T : El} : tOk T = true ↔ T.length ≤ 200 ∧ ∀ i, i < T.length → eOk T i = true := by
  unfold tOk
  simp
theorem tOk_no {T : El} {k : Nat} (hk : k < T.length) (h : eOk T k = false) : tOk T = false := by
  cases hb : tOk T
  · rfl
  · have := (tOk_iff.1 hb).2 k hk; rw [h] at this; cases this
theorem eOk_code {T : El} {k : Nat} (h : eOk T k = true) : 1 ≤ cO T k ∧ cO T k ≤ 99999 := by
  unfold eOk at h
  simp only [Bool.and_eq_true] at h
  exact bt_yes h.1
theorem eOk_up {T : El} {k : Nat} (h : eOk T (k + 1) = true) : cO T k < cO T (k + 1) := by
  unfold eOk at h
  simp only [Bool.and_eq_true] at h
  have := h.2.1
  simpa using this
theorem sin_bt (n a b : Int) (r : Bool) (w : World) (h : bt n a b = r) : Calls Try.prog 18 #[.int .i64 n, .int .i64 a, .int .i64 b] w fun e w' => e = .returned (.bool r) ∧ w' = w := by rw [← h]; exact sin_any n a b w
theorem win_bt (n a b : Int) (r : Bool) (w : World) (h : bt n a b = r) : Calls Try.prog 20 #[.int .i64 n, .int .i64 a, .int .i64 b] w fun e w' => e = .returned (.bool r) ∧ w' = w := by rw [← h]; exact win_any n a b w
set_option maxHeartbeats 400000 in
theorem wid_any (x s : Int) (r : Bool) (w : World) (h : (bt x 1 32 && bt s (-10) 10) = r) : Calls Try.prog 21 #[.int .i64 x, .int .i64 s] w fun e w' => e = .returned (.bool r) ∧ w' = w := by
  cases h1 : bt x 1 32
  · rw [h1] at h
    have hr : r = false := h.symm
    subst hr
    have H1 : Hid (bt x 1 32 = false) := h1
    clear h1 h
    go_enter Try.func21, Try.ntmps21
    go_wp2_with (go_at_call 20; refine (win_bt _ _ _ _ _ H1.out).mono ?_; rintro e w' ⟨rfl, hw⟩; have hw' := hw.symm; subst hw')
    go_ret
    exact ⟨rfl, rfl⟩
  · rw [h1] at h
    have H1 : Hid (bt x 1 32 = true) := h1
    have H2 : Hid (bt s (-10) 10 = r) := h
    clear h1 h
    go_enter Try.func21, Try.ntmps21
    go_wp2_with (first | (go_at_call_of 20 (Value.int IntKind.i64 x); refine (win_bt _ _ _ _ _ H1.out).mono ?_; rintro e w' ⟨rfl, hw⟩; have hw' := hw.symm; subst hw') | (go_at_call 20; refine (win_bt _ _ _ _ _ H2.out).mono ?_; rintro e w' ⟨rfl, hw⟩; have hw' := hw.symm; subst hw'))
    go_ret
    exact ⟨by simp, rfl⟩
theorem below_drewN {B : Nat} {a w : World} (h : Below B a w) (n : Nat) : Below B a (w.drewN n) := h.trans ⟨rfl, rfl, rfl, Nat.le_refl _, fun _ _ => rfl⟩

set_option maxRecDepth 20000 in
set_option maxHeartbeats 2000000 in
theorem stab_any (w : World) (v : Value) (T : El) (h : ReadsE w v T) (hmax : T.length ≤ 1048576) :
    Calls Try.prog 11 #[v] w fun e w' => e = .returned (.bool (tOk T)) ∧ Below w.heap.size w w' := by
  obtain ⟨a, cap, rfl⟩ := h.form
  by_cases hb : 200 < T.length
  · have e : tOk T = false := by unfold tOk; simp; omega
    rw [e]
    have i1 : (200 : Int) < (T.length : Int) := by omega
    go_enter Try.func11, Try.ntmps11
    go_wp2
    go_ret
    exact ⟨rfl, Below.refl _ _⟩
  have c1 : ¬ ((200 : Int) < (T.length : Int)) := by omega
  have HC : Hid (∀ i, i < T.length → ∃ b o, a = some ⟨b, o, none⟩ ∧ T.length ≤ cap ∧ cap ≤ maxLen ∧ b < w.heap.size ∧ C4 w b o T i) := h.at
  obtain ⟨n, hn⟩ : ∃ n, n = T.length := ⟨_, rfl⟩
  have HN : Hid (n = T.length) := hn
  have hn2 : n ≤ 200 := by omega
  rw [← hn] at c1 ⊢
  obtain ⟨R, hR⟩ : ∃ r, r = tOk T := ⟨_, rfl⟩
  have HR : Hid (R = tOk T) := hR
  rw [← hR]
  clear h hb hn hR hmax
  go_enter Try.func11, Try.ntmps11
  go_wp2_with fail
  go_loopw [3, 4] (fun c _ wr => ∃ j : Nat, j ≤ n ∧ c = .int .i64 j ∧ Hid (∀ i, i < j → eOk T i = true) ∧ Hid (Below w.heap.size w wr)) (fun c _ _ => n - (intOf c).toNat)
  case atStart => exact ⟨0, Nat.zero_le _, rfl, fun i hi => by omega, Below.refl _ _⟩
  case round =>
    obtain ⟨j, hj, rfl, HJ, BR⟩ := hrel
    by_cases hlt : j < n
    · obtain ⟨b, o, rfl, x1, x2, x3, x4⟩ := HC.out j (by rw [← HN.out]; exact hlt)
      have x5 := x4.on BR.out x3
      unfold C4 at x5
      obtain ⟨q0, q1, q2, q3⟩ := x5
      have i0 : (0 : Int) ≤ (j : Int) := by omega
      have i1 : (j : Int) < (n : Int) := by omega
      unfold maxLen at x2
      rw [← HN.out] at x1
      clear x4
      have B1 : Hid (Below w.heap.size w (wr.alloc (.cells #[.int .i64 (cO T j), .int .i64 (wO T j), .int .i64 (sO T j), .int .i64 (rO T j)] 34))) := BR.out.alloc BR.out.size _
      have bw : b < wr.heap.size := Nat.lt_of_lt_of_le x3 BR.out.size
      obtain ⟨c, hcx⟩ : ∃ c, c = cO T j := ⟨_, rfl⟩
      obtain ⟨x, hxx⟩ : ∃ c, c = wO T j := ⟨_, rfl⟩
      obtain ⟨s, hsx⟩ : ∃ c, c = sO T j := ⟨_, rfl⟩
      obtain ⟨r, hrx⟩ : ∃ c, c = rO T j := ⟨_, rfl⟩
      have HE : Hid (eOk T j = (bt c 1 99999 && ((j == 0 || decide (cO T (j - 1) < c)) && (bt x 1 32 && (bt s (-10) 10 && bt r (-1000000000) 1000000000))))) := (by rw [hcx, hxx, hsx, hrx]; exact rfl)
      rw [← hcx] at q0 B1
      rw [← hxx] at q1 B1
      rw [← hsx] at q2 B1
      rw [← hrx] at q3 B1
      clear hcx hxx hsx hrx
      have BAD : Hid (eOk T j = false → R = false) := fun h => by rw [HR.out]; exact tOk_no (by rw [← HN.out]; exact hlt) h
      have PV : Hid (0 < j → ∃ p, p = cO T (j - 1) ∧ wr.cell? ⟨b, o + (j - 1) * 4, none⟩ = some (.int .i64 p)) := fun hj0 => ⟨_, rfl, by
        obtain ⟨b', o', e, _, _, y3, y4⟩ := HC.out (j - 1) (by rw [← HN.out]; omega)
        injection e with e
        injection e with e1 e2
        subst e1 e2
        exact (y4.on BR.out y3).1⟩
      by_cases hj0 : 0 < j
      · obtain ⟨p, hpe, hpc⟩ := PV.out hj0
        obtain ⟨j1, hj1⟩ : ∃ j1, j1 = j - 1 := ⟨_, rfl⟩
        have a5 : (0 : Int) < (j : Int) := by omega
        have a6 : (j : Int) - 1 = (j1 : Int) := by omega
        have a7 : (j1 : Int) < (n : Int) := by omega
        have a8 : (0 : Int) ≤ (j1 : Int) := by omega
        have a9 : IntKind.i64.wrap (j1 : Int) = (j1 : Int) := IntWalk.i64_in _ (by omega)
        have hpc' : (wr.alloc (.cells #[.int .i64 c, .int .i64 x, .int .i64 s, .int .i64 r] 34)).cell? ⟨b, o + j1 * 4, none⟩ = some (.int .i64 p) := (by rw [World.cell?_alloc_lt _ _ _ bw, hj1]; exact hpc)
        have HPE : Hid (p = cO T (j - 1)) := hpe
        clear hpc hj1 hpe
        cases h1 : bt c 1 99999
        · have H1 : Hid (bt c 1 99999 = false) := h1
          have RF : Hid (R = false) := BAD.out (by rw [HE.out, h1]; rfl)
          clear h1
          go_wp2_with fail
          go_quiet ((first | (go_at_call_of 18 (Value.int IntKind.i64 c); exact Calls.quiet_of_same (sin_bt _ _ _ _ _ H1.out))))
          go_wp2_with fail
          go_ret
          exact ⟨congrArg (fun x => Ending.returned (Value.bool x)) RF.out.symm, below_drewN B1.out _⟩
        have H1 : Hid (bt c 1 99999 = true) := h1
        by_cases h2 : c ≤ p
        · have RF : Hid (R = false) := BAD.out (by rw [HE.out, ← HPE.out, h1, show decide (p < c) = false by simp; omega, show (j == 0) = false by simp; omega]; rfl)
          clear h1
          go_wp2_with fail
          go_quiet ((first | (go_at_call_of 18 (Value.int IntKind.i64 c); exact Calls.quiet_of_same (sin_bt _ _ _ _ _ H1.out))))
          go_wp2_with fail
          go_ret
          exact ⟨congrArg (fun x => Ending.returned (Value.bool x)) RF.out.symm, below_drewN B1.out _⟩
        have h2' : decide (c ≤ p) = false := by simp; omega
        cases h3 : bt x 1 32
        · have H3 : Hid (bt x 1 32 = false) := h3
          have RF : Hid (R = false) := BAD.out (by rw [HE.out, ← HPE.out, h1, show decide (p < c) = true by simp; omega, show (j == 0) = false by simp; omega, h3]; rfl)
          clear h1 h3
          go_wp2_with fail
          go_quiet ((first | (go_at_call_of 18 (Value.int IntKind.i64 c); exact Calls.quiet_of_same (sin_bt _ _ _ _ _ H1.out)) | (go_at_call_of 18 (Value.int IntKind.i64 x); exact Calls.quiet_of_same (sin_bt _ _ _ _ _ H3.out))))
          go_wp2_with fail
          go_ret
          exact ⟨congrArg (fun x => Ending.returned (Value.bool x)) RF.out.symm, below_drewN B1.out _⟩
        have H3 : Hid (bt x 1 32 = true) := h3
        cases h4 : bt s (-10) 10
        · have H4 : Hid (bt s (-10) 10 = false) := h4
          have RF : Hid (R = false) := BAD.out (by rw [HE.out, ← HPE.out, h1, show decide (p < c) = true by simp; omega, show (j == 0) = false by simp; omega, h3, h4]; rfl)
          clear h1 h3 h4
          go_wp2_with fail
          go_quiet ((first | (go_at_call_of 18 (Value.int IntKind.i64 c); exact Calls.quiet_of_same (sin_bt _ _ _ _ _ H1.out)) | (go_at_call_of 18 (Value.int IntKind.i64 x); exact Calls.quiet_of_same (sin_bt _ _ _ _ _ H3.out)) | (go_at_call_of 18 (Value.int IntKind.i64 s); exact Calls.quiet_of_same (sin_bt _ _ _ _ _ H4.out))))
          go_wp2_with fail
          go_ret
          exact ⟨congrArg (fun x => Ending.returned (Value.bool x)) RF.out.symm, below_drewN B1.out _⟩
        have H4 : Hid (bt s (-10) 10 = true) := h4
        cases h5 : bt r (-1000000000) 1000000000
        · have H5 : Hid (bt r (-1000000000) 1000000000 = false) := h5
          have RF : Hid (R = false) := BAD.out (by rw [HE.out, ← HPE.out, h1, show decide (p < c) = true by simp; omega, show (j == 0) = false by simp; omega, h3, h4, h5]; rfl)
          clear h1 h3 h4 h5
          go_wp2_with fail
          go_quiet ((first | (go_at_call_of 18 (Value.int IntKind.i64 c); exact Calls.quiet_of_same (sin_bt _ _ _ _ _ H1.out)) | (go_at_call_of 18 (Value.int IntKind.i64 x); exact Calls.quiet_of_same (sin_bt _ _ _ _ _ H3.out)) | (go_at_call_of 18 (Value.int IntKind.i64 s); exact Calls.quiet_of_same (sin_bt _ _ _ _ _ H4.out)) | (go_at_call_of 18 (Value.int IntKind.i64 r); exact Calls.quiet_of_same (sin_bt _ _ _ _ _ H5.out))))
          go_wp2_with fail
          go_ret
          exact ⟨congrArg (fun x => Ending.returned (Value.bool x)) RF.out.symm, below_drewN B1.out _⟩
        have H5 : Hid (bt r (-1000000000) 1000000000 = true) := h5
        have GD : Hid (eOk T j = true) := (by show _ = _; rw [HE.out, ← HPE.out, h1, show decide (p < c) = true by simp; omega, show (j == 0) = false by simp; omega, h3, h4, h5]; rfl)
        clear h1 h3 h4 h5
        go_wp2_with fail
        go_quiet ((first | (go_at_call_of 18 (Value.int IntKind.i64 c); exact Calls.quiet_of_same (sin_bt _ _ _ _ _ H1.out)) | (go_at_call_of 18 (Value.int IntKind.i64 x); exact Calls.quiet_of_same (sin_bt _ _ _ _ _ H3.out)) | (go_at_call_of 18 (Value.int IntKind.i64 s); exact Calls.quiet_of_same (sin_bt _ _ _ _ _ H4.out)) | (go_at_call_of 18 (Value.int IntKind.i64 r); exact Calls.quiet_of_same (sin_bt _ _ _ _ _ H5.out))))
        go_wp2_with fail
        go_roundw
        case rel => exact ⟨j + 1, by omega, by go_num, fun i hi => by
          by_cases e : i = j
          · subst e; exact GD.out
          · exact HJ.out i (by omega), below_drewN B1.out _⟩
        case measure => simp [intOf]; omega
      · have hjz : j = 0 := by omega
        subst hjz
        simp only [Nat.zero_mul, Nat.add_zero] at q0 q1 q2 q3
        cases h1 : bt c 1 99999
        · have H1 : Hid (bt c 1 99999 = false) := h1
          have RF : Hid (R = false) := BAD.out (by rw [HE.out, h1]; rfl)
          clear h1
          go_wp2_with fail
          go_quiet ((first | (go_at_call_of 18 (Value.int IntKind.i64 c); exact Calls.quiet_of_same (sin_bt _ _ _ _ _ H1.out))))
          go_wp2_with fail
          go_ret
          exact ⟨congrArg (fun x => Ending.returned (Value.bool x)) RF.out.symm, below_drewN B1.out _⟩
        have H1 : Hid (bt c 1 99999 = true) := h1
        cases h3 : bt x 1 32
        · have H3 : Hid (bt x 1 32 = false) := h3
          have RF : Hid (R = false) := BAD.out (by rw [HE.out, h1, show ((0 : Nat) == 0) = true by rfl, h3]; rfl)
          clear h1 h3
          go_wp2_with fail
          go_quiet ((first | (go_at_call_of 18 (Value.int IntKind.i64 c); exact Calls.quiet_of_same (sin_bt _ _ _ _ _ H1.out)) | (go_at_call_of 18 (Value.int IntKind.i64 x); exact Calls.quiet_of_same (sin_bt _ _ _ _ _ H3.out))))
          go_wp2_with fail
          go_ret
          exact ⟨congrArg (fun x => Ending.returned (Value.bool x)) RF.out.symm, below_drewN B1.out _⟩
        have H3 : Hid (bt x 1 32 = true) := h3
        cases h4 : bt s (-10) 10
        · have H4 : Hid (bt s (-10) 10 = false) := h4
          have RF : Hid (R = false) := BAD.out (by rw [HE.out, h1, show ((0 : Nat) == 0) = true by rfl, h3, h4]; rfl)
          clear h1 h3 h4
          go_wp2_with fail
          go_quiet ((first | (go_at_call_of 18 (Value.int IntKind.i64 c); exact Calls.quiet_of_same (sin_bt _ _ _ _ _ H1.out)) | (go_at_call_of 18 (Value.int IntKind.i64 x); exact Calls.quiet_of_same (sin_bt _ _ _ _ _ H3.out)) | (go_at_call_of 18 (Value.int IntKind.i64 s); exact Calls.quiet_of_same (sin_bt _ _ _ _ _ H4.out))))
          go_wp2_with fail
          go_ret
          exact ⟨congrArg (fun x => Ending.returned (Value.bool x)) RF.out.symm, below_drewN B1.out _⟩
        have H4 : Hid (bt s (-10) 10 = true) := h4
        cases h5 : bt r (-1000000000) 1000000000
        · have H5 : Hid (bt r (-1000000000) 1000000000 = false) := h5
          have RF : Hid (R = false) := BAD.out (by rw [HE.out, h1, show ((0 : Nat) == 0) = true by rfl, h3, h4, h5]; rfl)
          clear h1 h3 h4 h5
          go_wp2_with fail
          go_quiet ((first | (go_at_call_of 18 (Value.int IntKind.i64 c); exact Calls.quiet_of_same (sin_bt _ _ _ _ _ H1.out)) | (go_at_call_of 18 (Value.int IntKind.i64 x); exact Calls.quiet_of_same (sin_bt _ _ _ _ _ H3.out)) | (go_at_call_of 18 (Value.int IntKind.i64 s); exact Calls.quiet_of_same (sin_bt _ _ _ _ _ H4.out)) | (go_at_call_of 18 (Value.int IntKind.i64 r); exact Calls.quiet_of_same (sin_bt _ _ _ _ _ H5.out))))
          go_wp2_with fail
          go_ret
          exact ⟨congrArg (fun x => Ending.returned (Value.bool x)) RF.out.symm, below_drewN B1.out _⟩
        have H5 : Hid (bt r (-1000000000) 1000000000 = true) := h5
        have GD : Hid (eOk T 0 = true) := (by show _ = _; rw [HE.out, h1, show ((0 : Nat) == 0) = true by rfl, h3, h4, h5]; rfl)
        clear h1 h3 h4 h5
        go_wp2_with fail
        go_quiet ((first | (go_at_call_of 18 (Value.int IntKind.i64 c); exact Calls.quiet_of_same (sin_bt _ _ _ _ _ H1.out)) | (go_at_call_of 18 (Value.int IntKind.i64 x); exact Calls.quiet_of_same (sin_bt _ _ _ _ _ H3.out)) | (go_at_call_of 18 (Value.int IntKind.i64 s); exact Calls.quiet_of_same (sin_bt _ _ _ _ _ H4.out)) | (go_at_call_of 18 (Value.int IntKind.i64 r); exact Calls.quiet_of_same (sin_bt _ _ _ _ _ H5.out))))
        go_wp2_with fail
        go_roundw
        case rel => exact ⟨0 + 1, by omega, by go_num, fun i hi => by
          by_cases e : i = 0
          · subst e; exact GD.out
          · exact HJ.out i (by omega), below_drewN B1.out _⟩
        case measure => simp [intOf]; omega
    · have a1 : ¬ ((j : Int) < (n : Int)) := by omega
      have R1 : Hid (R = true) := (by show R = true; rw [HR.out]; exact tOk_iff.2 ⟨by rw [← HN.out]; omega, fun i hi => HJ.out i (by rw [← HN.out] at hi; omega)⟩)
      go_wp2_with fail
      go_ret
      exact ⟨congrArg (fun x => Ending.returned (Value.bool x)) R1.out.symm, BR.out⟩
end Go.Proofs.Yteidipdjhkmgpaa.Lists
