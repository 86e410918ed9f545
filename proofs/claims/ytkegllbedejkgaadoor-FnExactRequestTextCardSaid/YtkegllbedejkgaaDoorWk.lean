/- wantedOk, of numbers. -/
import Derived.Test.YtkegllbedejkgaaDoorIx
namespace Go.Proofs.YtkegllbedejkgaaDoor.Ix
open Go.ChangeShapes Go.WideShapes Go.ChangeAt Go.RowKit
open Al Eo
def wI (P : Int → Bool) (L : List Int) (i : Nat) : Bool := P (L.getD i 0) && (decide (i = 0) || decide (L.getD (i - 1) 0 < L.getD i 0))
def allI (P : Int → Bool) (L : List Int) (n : Nat) : Bool := (List.range n).all (wI P L)
theorem allI_succ (P : Int → Bool) (L : List Int) (n : Nat) : allI P L (n + 1) = (allI P L n && wI P L n) := by
  unfold allI; rw [List.range_succ, List.all_append]; simp
theorem allI_at {P : Int → Bool} {L : List Int} {n k : Nat} (h : k < n) (hf : wI P L k = false) : allI P L n = false := by
  unfold allI
  rw [List.all_eq_false]
  exact ⟨k, by simpa using h, by simp [hf]⟩
def okI (P : Int → Bool) (L : List Int) : Bool := decide (L.length ≤ 40) && allI P L L.length

set_option maxHeartbeats 2000000 in
theorem wantT_any (P : Int → Bool) (HF : ∀ (x : Int) (w : World), Calls Tryd.prog 36 #[.int .i64 x] w fun e w' => e = .returned (.bool (P x)) ∧ w' = w) (L : List Int) (v : Value) (w : World) (h : Lists.Reads w v L) : Calls Tryd.prog 35 #[v, .func (.func 36) #[] #[]] w fun e w' => e = .returned (.bool (okI P L)) ∧ w' = w := by
  have ln : L.length < 9223372036854775808 := by
    rcases h with ⟨rfl, _⟩ | ⟨b, o, c, _, h1, h2, _⟩
    · decide
    · unfold maxLen at h2; omega
  obtain ⟨a, c, rfl⟩ := h.form
  obtain ⟨m, hm⟩ : ∃ m, m = L.length := ⟨_, rfl⟩
  have HM : Hid (m = L.length) := hm
  have FF : Hid (∀ (x : Int) (w : World), Calls Tryd.prog 36 #[.int .i64 x] w fun e w' => e = .returned (.bool (P x)) ∧ w' = w) := HF
  have HC : Hid (∀ i, i < m → ∃ b o, a = some ⟨b, o, none⟩ ∧ w.cell? ⟨b, o + i, none⟩ = some (.int .i64 (L.getD i 0))) := fun i hi => (by
    rw [HM.out] at hi
    rcases h with ⟨rfl, _⟩ | ⟨b, o, c, e, _, _, x, y⟩
    · simp at hi
    · simp at e; exact ⟨b, o, e.1, y i hi⟩)
  have HO : Hid (okI P L = (decide (m ≤ 40) && allI P L m)) := (by show _ = _; unfold okI; rw [HM.out])
  rw [← hm] at ln ⊢
  clear h hm HF
  by_cases h40 : 40 < m
  · have E : Hid (okI P L = false) := (by show _ = _; rw [HO.out, decide_eq_false (by omega)]; rfl)
    have j40 : (40 : Int) < (m : Int) := by omega
    go_enter Tryd.func35, Tryd.ntmps35
    go_wp2_with fail
    go_ret
    exact ⟨by rw [E.out]; rfl, rfl⟩
  have j40 : ¬ (40 : Int) < (m : Int) := by omega
  go_enter Tryd.func35, Tryd.ntmps35
  go_wp2_with fail
  go_loopw [12] (fun i wr => ∃ k : Nat, k ≤ m ∧ i = .int .i64 k ∧ wr = w ∧ Hid (allI P L k = true)) (fun i _ => m - (intOf i).toNat)
  case atStart => exact ⟨0, Nat.zero_le _, rfl, rfl, rfl⟩
  case round =>
    obtain ⟨k, hk, rfl, hw, AK⟩ := hrel
    subst hw
    by_cases hlt : k < m
    · obtain ⟨b, o, rfl, q0⟩ := HC.out k hlt
      have i0 : (0 : Int) ≤ (k : Int) := by omega
      have i1 : (k : Int) < (m : Int) := by omega
      have CF : Hid (Calls Tryd.prog 36 #[.int .i64 (L.getD k 0)] wr fun e w' => e = .returned (.bool (P (L.getD k 0))) ∧ w' = wr) := FF.out _ _
      have NO : Hid (wI P L k = false → okI P L = false) := fun h => (by rw [HO.out, allI_at hlt h]; simp)
      have YE : Hid (wI P L k = true → allI P L (k + 1) = true) := fun h => (by rw [allI_succ, AK.out, h]; rfl)
      have WW : Hid (wI P L k = (P (L.getD k 0) && (decide (k = 0) || decide (L.getD (k - 1) 0 < L.getD k 0)))) := rfl
      have HP0 : Hid (∀ k', k' + 1 = k → wr.cell? ⟨b, o + k', none⟩ = some (.int .i64 (L.getD (k - 1) 0))) := fun k' hk' => (by
        obtain ⟨b', o', e, y⟩ := HC.out k' (by omega)
        simp at e
        obtain ⟨rfl, rfl⟩ := e
        rw [y]
        have : k' = k - 1 := by omega
        rw [this])
      generalize L.getD k 0 = x at *
      generalize L.getD (k - 1) 0 = y at *
      generalize P x = px at *
      clear AK
      cases px
      · have E : Hid (okI P L = false) := NO.out (by rw [WW.out]; rfl)
        go_wp2_with fail
        refine CF.out.mono ?_
        rintro e w1 ⟨rfl, hw⟩
        subst hw
        go_wp2_with fail
        go_ret
        exact ⟨by rw [E.out]; rfl, rfl⟩
      · cases k with
        | zero =>
          rw [Nat.add_zero] at q0
          have NX : Hid (allI P L 1 = true) := YE.out (by rw [WW.out]; rfl)
          go_wp2_with fail
          refine CF.out.mono ?_
          rintro e w1 ⟨rfl, hw⟩
          subst hw
          go_wp2_with fail
          go_roundw
          case rel => exact ⟨1, by omega, by go_num, trivial, NX⟩
          case measure => simp [intOf]; omega
        | succ k =>
          have qp := HP0.out k rfl
          have k1 : (0 : Int) < ((k + 1 : Nat) : Int) := by omega
          have k2 : (((k + 1 : Nat) : Int) - 1) = (k : Int) := by omega
          have k3 : (k : Int) < (m : Int) := by omega
          have k4 : (0 : Int) ≤ (k : Int) := by omega
          have k5 : (0 : Int) < (k : Int) + 1 := by omega
          by_cases hyx : x ≤ y
          · have E : Hid (okI P L = false) := NO.out (by rw [WW.out, decide_eq_false (by omega : ¬ y < x)]; simp)
            have g1 : decide (x ≤ y) = true := decide_eq_true hyx
            go_wp2_with fail
            refine CF.out.mono ?_
            rintro e w1 ⟨rfl, hw⟩
            subst hw
            go_wp2_with fail
            go_ret
            exact ⟨by rw [E.out]; rfl, rfl⟩
          · have NX : Hid (allI P L (k + 1 + 1) = true) := YE.out (by rw [WW.out, decide_eq_true (by omega : y < x)]; simp)
            have g1 : decide (x ≤ y) = false := decide_eq_false hyx
            have g2 : y < x := by omega
            go_wp2_with fail
            refine CF.out.mono ?_
            rintro e w1 ⟨rfl, hw⟩
            subst hw
            go_wp2_with fail
            go_roundw
            case rel => exact ⟨k + 1 + 1, by omega, by go_num, trivial, NX⟩
            case measure => simp [intOf]; omega
    · have hkm : k = m := by omega
      have E : Hid (okI P L = true) := (by show _ = _; rw [HO.out, ← hkm, AK.out, decide_eq_true (by omega)]; rfl)
      have j1 : ¬ (k : Int) < (m : Int) := by omega
      go_wp2_with fail
      go_ret
      exact ⟨by rw [E.out]; rfl, rfl⟩

set_option maxHeartbeats 2000000 in
theorem wantS_any (P : Int → Bool) (HF : ∀ (x : Int) (w : World), Calls Tryd.prog 37 #[.int .i64 x] w fun e w' => e = .returned (.bool (P x)) ∧ w' = w) (L : List Int) (v : Value) (w : World) (h : Lists.Reads w v L) : Calls Tryd.prog 35 #[v, .func (.func 37) #[] #[]] w fun e w' => e = .returned (.bool (okI P L)) ∧ w' = w := by
  have ln : L.length < 9223372036854775808 := by
    rcases h with ⟨rfl, _⟩ | ⟨b, o, c, _, h1, h2, _⟩
    · decide
    · unfold maxLen at h2; omega
  obtain ⟨a, c, rfl⟩ := h.form
  obtain ⟨m, hm⟩ : ∃ m, m = L.length := ⟨_, rfl⟩
  have HM : Hid (m = L.length) := hm
  have FF : Hid (∀ (x : Int) (w : World), Calls Tryd.prog 37 #[.int .i64 x] w fun e w' => e = .returned (.bool (P x)) ∧ w' = w) := HF
  have HC : Hid (∀ i, i < m → ∃ b o, a = some ⟨b, o, none⟩ ∧ w.cell? ⟨b, o + i, none⟩ = some (.int .i64 (L.getD i 0))) := fun i hi => (by
    rw [HM.out] at hi
    rcases h with ⟨rfl, _⟩ | ⟨b, o, c, e, _, _, x, y⟩
    · simp at hi
    · simp at e; exact ⟨b, o, e.1, y i hi⟩)
  have HO : Hid (okI P L = (decide (m ≤ 40) && allI P L m)) := (by show _ = _; unfold okI; rw [HM.out])
  rw [← hm] at ln ⊢
  clear h hm HF
  by_cases h40 : 40 < m
  · have E : Hid (okI P L = false) := (by show _ = _; rw [HO.out, decide_eq_false (by omega)]; rfl)
    have j40 : (40 : Int) < (m : Int) := by omega
    go_enter Tryd.func35, Tryd.ntmps35
    go_wp2_with fail
    go_ret
    exact ⟨by rw [E.out]; rfl, rfl⟩
  have j40 : ¬ (40 : Int) < (m : Int) := by omega
  go_enter Tryd.func35, Tryd.ntmps35
  go_wp2_with fail
  go_loopw [12] (fun i wr => ∃ k : Nat, k ≤ m ∧ i = .int .i64 k ∧ wr = w ∧ Hid (allI P L k = true)) (fun i _ => m - (intOf i).toNat)
  case atStart => exact ⟨0, Nat.zero_le _, rfl, rfl, rfl⟩
  case round =>
    obtain ⟨k, hk, rfl, hw, AK⟩ := hrel
    subst hw
    by_cases hlt : k < m
    · obtain ⟨b, o, rfl, q0⟩ := HC.out k hlt
      have i0 : (0 : Int) ≤ (k : Int) := by omega
      have i1 : (k : Int) < (m : Int) := by omega
      have CF : Hid (Calls Tryd.prog 37 #[.int .i64 (L.getD k 0)] wr fun e w' => e = .returned (.bool (P (L.getD k 0))) ∧ w' = wr) := FF.out _ _
      have NO : Hid (wI P L k = false → okI P L = false) := fun h => (by rw [HO.out, allI_at hlt h]; simp)
      have YE : Hid (wI P L k = true → allI P L (k + 1) = true) := fun h => (by rw [allI_succ, AK.out, h]; rfl)
      have WW : Hid (wI P L k = (P (L.getD k 0) && (decide (k = 0) || decide (L.getD (k - 1) 0 < L.getD k 0)))) := rfl
      have HP0 : Hid (∀ k', k' + 1 = k → wr.cell? ⟨b, o + k', none⟩ = some (.int .i64 (L.getD (k - 1) 0))) := fun k' hk' => (by
        obtain ⟨b', o', e, y⟩ := HC.out k' (by omega)
        simp at e
        obtain ⟨rfl, rfl⟩ := e
        rw [y]
        have : k' = k - 1 := by omega
        rw [this])
      generalize L.getD k 0 = x at *
      generalize L.getD (k - 1) 0 = y at *
      generalize P x = px at *
      clear AK
      cases px
      · have E : Hid (okI P L = false) := NO.out (by rw [WW.out]; rfl)
        go_wp2_with fail
        refine CF.out.mono ?_
        rintro e w1 ⟨rfl, hw⟩
        subst hw
        go_wp2_with fail
        go_ret
        exact ⟨by rw [E.out]; rfl, rfl⟩
      · cases k with
        | zero =>
          rw [Nat.add_zero] at q0
          have NX : Hid (allI P L 1 = true) := YE.out (by rw [WW.out]; rfl)
          go_wp2_with fail
          refine CF.out.mono ?_
          rintro e w1 ⟨rfl, hw⟩
          subst hw
          go_wp2_with fail
          go_roundw
          case rel => exact ⟨1, by omega, by go_num, trivial, NX⟩
          case measure => simp [intOf]; omega
        | succ k =>
          have qp := HP0.out k rfl
          have k1 : (0 : Int) < ((k + 1 : Nat) : Int) := by omega
          have k2 : (((k + 1 : Nat) : Int) - 1) = (k : Int) := by omega
          have k3 : (k : Int) < (m : Int) := by omega
          have k4 : (0 : Int) ≤ (k : Int) := by omega
          have k5 : (0 : Int) < (k : Int) + 1 := by omega
          by_cases hyx : x ≤ y
          · have E : Hid (okI P L = false) := NO.out (by rw [WW.out, decide_eq_false (by omega : ¬ y < x)]; simp)
            have g1 : decide (x ≤ y) = true := decide_eq_true hyx
            go_wp2_with fail
            refine CF.out.mono ?_
            rintro e w1 ⟨rfl, hw⟩
            subst hw
            go_wp2_with fail
            go_ret
            exact ⟨by rw [E.out]; rfl, rfl⟩
          · have NX : Hid (allI P L (k + 1 + 1) = true) := YE.out (by rw [WW.out, decide_eq_true (by omega : y < x)]; simp)
            have g1 : decide (x ≤ y) = false := decide_eq_false hyx
            have g2 : y < x := by omega
            go_wp2_with fail
            refine CF.out.mono ?_
            rintro e w1 ⟨rfl, hw⟩
            subst hw
            go_wp2_with fail
            go_roundw
            case rel => exact ⟨k + 1 + 1, by omega, by go_num, trivial, NX⟩
            case measure => simp [intOf]; omega
    · have hkm : k = m := by omega
      have E : Hid (okI P L = true) := (by show _ = _; rw [HO.out, ← hkm, AK.out, decide_eq_true (by omega)]; rfl)
      have j1 : ¬ (k : Int) < (m : Int) := by omega
      go_wp2_with fail
      go_ret
      exact ⟨by rw [E.out]; rfl, rfl⟩

set_option maxHeartbeats 2000000 in
theorem wantL_any (P : Int → Bool) (HF : ∀ (x : Int) (w : World), Calls Tryd.prog 38 #[.int .i64 x] w fun e w' => e = .returned (.bool (P x)) ∧ w' = w) (L : List Int) (v : Value) (w : World) (h : Lists.Reads w v L) : Calls Tryd.prog 35 #[v, .func (.func 38) #[] #[]] w fun e w' => e = .returned (.bool (okI P L)) ∧ w' = w := by
  have ln : L.length < 9223372036854775808 := by
    rcases h with ⟨rfl, _⟩ | ⟨b, o, c, _, h1, h2, _⟩
    · decide
    · unfold maxLen at h2; omega
  obtain ⟨a, c, rfl⟩ := h.form
  obtain ⟨m, hm⟩ : ∃ m, m = L.length := ⟨_, rfl⟩
  have HM : Hid (m = L.length) := hm
  have FF : Hid (∀ (x : Int) (w : World), Calls Tryd.prog 38 #[.int .i64 x] w fun e w' => e = .returned (.bool (P x)) ∧ w' = w) := HF
  have HC : Hid (∀ i, i < m → ∃ b o, a = some ⟨b, o, none⟩ ∧ w.cell? ⟨b, o + i, none⟩ = some (.int .i64 (L.getD i 0))) := fun i hi => (by
    rw [HM.out] at hi
    rcases h with ⟨rfl, _⟩ | ⟨b, o, c, e, _, _, x, y⟩
    · simp at hi
    · simp at e; exact ⟨b, o, e.1, y i hi⟩)
  have HO : Hid (okI P L = (decide (m ≤ 40) && allI P L m)) := (by show _ = _; unfold okI; rw [HM.out])
  rw [← hm] at ln ⊢
  clear h hm HF
  by_cases h40 : 40 < m
  · have E : Hid (okI P L = false) := (by show _ = _; rw [HO.out, decide_eq_false (by omega)]; rfl)
    have j40 : (40 : Int) < (m : Int) := by omega
    go_enter Tryd.func35, Tryd.ntmps35
    go_wp2_with fail
    go_ret
    exact ⟨by rw [E.out]; rfl, rfl⟩
  have j40 : ¬ (40 : Int) < (m : Int) := by omega
  go_enter Tryd.func35, Tryd.ntmps35
  go_wp2_with fail
  go_loopw [12] (fun i wr => ∃ k : Nat, k ≤ m ∧ i = .int .i64 k ∧ wr = w ∧ Hid (allI P L k = true)) (fun i _ => m - (intOf i).toNat)
  case atStart => exact ⟨0, Nat.zero_le _, rfl, rfl, rfl⟩
  case round =>
    obtain ⟨k, hk, rfl, hw, AK⟩ := hrel
    subst hw
    by_cases hlt : k < m
    · obtain ⟨b, o, rfl, q0⟩ := HC.out k hlt
      have i0 : (0 : Int) ≤ (k : Int) := by omega
      have i1 : (k : Int) < (m : Int) := by omega
      have CF : Hid (Calls Tryd.prog 38 #[.int .i64 (L.getD k 0)] wr fun e w' => e = .returned (.bool (P (L.getD k 0))) ∧ w' = wr) := FF.out _ _
      have NO : Hid (wI P L k = false → okI P L = false) := fun h => (by rw [HO.out, allI_at hlt h]; simp)
      have YE : Hid (wI P L k = true → allI P L (k + 1) = true) := fun h => (by rw [allI_succ, AK.out, h]; rfl)
      have WW : Hid (wI P L k = (P (L.getD k 0) && (decide (k = 0) || decide (L.getD (k - 1) 0 < L.getD k 0)))) := rfl
      have HP0 : Hid (∀ k', k' + 1 = k → wr.cell? ⟨b, o + k', none⟩ = some (.int .i64 (L.getD (k - 1) 0))) := fun k' hk' => (by
        obtain ⟨b', o', e, y⟩ := HC.out k' (by omega)
        simp at e
        obtain ⟨rfl, rfl⟩ := e
        rw [y]
        have : k' = k - 1 := by omega
        rw [this])
      generalize L.getD k 0 = x at *
      generalize L.getD (k - 1) 0 = y at *
      generalize P x = px at *
      clear AK
      cases px
      · have E : Hid (okI P L = false) := NO.out (by rw [WW.out]; rfl)
        go_wp2_with fail
        refine CF.out.mono ?_
        rintro e w1 ⟨rfl, hw⟩
        subst hw
        go_wp2_with fail
        go_ret
        exact ⟨by rw [E.out]; rfl, rfl⟩
      · cases k with
        | zero =>
          rw [Nat.add_zero] at q0
          have NX : Hid (allI P L 1 = true) := YE.out (by rw [WW.out]; rfl)
          go_wp2_with fail
          refine CF.out.mono ?_
          rintro e w1 ⟨rfl, hw⟩
          subst hw
          go_wp2_with fail
          go_roundw
          case rel => exact ⟨1, by omega, by go_num, trivial, NX⟩
          case measure => simp [intOf]; omega
        | succ k =>
          have qp := HP0.out k rfl
          have k1 : (0 : Int) < ((k + 1 : Nat) : Int) := by omega
          have k2 : (((k + 1 : Nat) : Int) - 1) = (k : Int) := by omega
          have k3 : (k : Int) < (m : Int) := by omega
          have k4 : (0 : Int) ≤ (k : Int) := by omega
          have k5 : (0 : Int) < (k : Int) + 1 := by omega
          by_cases hyx : x ≤ y
          · have E : Hid (okI P L = false) := NO.out (by rw [WW.out, decide_eq_false (by omega : ¬ y < x)]; simp)
            have g1 : decide (x ≤ y) = true := decide_eq_true hyx
            go_wp2_with fail
            refine CF.out.mono ?_
            rintro e w1 ⟨rfl, hw⟩
            subst hw
            go_wp2_with fail
            go_ret
            exact ⟨by rw [E.out]; rfl, rfl⟩
          · have NX : Hid (allI P L (k + 1 + 1) = true) := YE.out (by rw [WW.out, decide_eq_true (by omega : y < x)]; simp)
            have g1 : decide (x ≤ y) = false := decide_eq_false hyx
            have g2 : y < x := by omega
            go_wp2_with fail
            refine CF.out.mono ?_
            rintro e w1 ⟨rfl, hw⟩
            subst hw
            go_wp2_with fail
            go_roundw
            case rel => exact ⟨k + 1 + 1, by omega, by go_num, trivial, NX⟩
            case measure => simp [intOf]; omega
    · have hkm : k = m := by omega
      have E : Hid (okI P L = true) := (by show _ = _; rw [HO.out, ← hkm, AK.out, decide_eq_true (by omega)]; rfl)
      have j1 : ¬ (k : Int) < (m : Int) := by omega
      go_wp2_with fail
      go_ret
      exact ⟨by rw [E.out]; rfl, rfl⟩
end Go.Proofs.YtkegllbedejkgaaDoor.Ix
