/- l25Has, l25Rises: the model. -/
import Derived.Test.YtkegllbedejkgaaDoorWp
import Derived.BigQuiet
import Derived.Deep.QuietTactic
namespace Go.Proofs.YtkegllbedejkgaaDoor.Ix
open Go.ChangeShapes Go.WideShapes Go.ChangeAt Go.RowKit
open Al Eo

set_option maxHeartbeats 2000000 in
theorem srises_any (lo hi : Int) (L : List Int) (v : Value) (w : World) (h : Lists.Reads w v L) : Calls Tryd.prog 29 #[v, .int .i64 lo, .int .i64 hi] w fun e w' => e = .returned (.bool (okI (fun n => inn n lo hi) L)) ∧ ∃ n, w' = w.drewN n := by
  have ln : L.length < 9223372036854775808 := by
    rcases h with ⟨rfl, _⟩ | ⟨b, o, c, _, h1, h2, _⟩
    · decide
    · unfold maxLen at h2; omega
  obtain ⟨a, c, rfl⟩ := h.form
  obtain ⟨m, hm⟩ : ∃ m, m = L.length := ⟨_, rfl⟩
  have HM : Hid (m = L.length) := hm
  obtain ⟨P, hP⟩ : ∃ P, P = (fun n => inn n lo hi) := ⟨_, rfl⟩
  have FF : Hid (∀ (x : Int) (w : World), Calls Tryd.prog 48 #[.int .i64 x, .int .i64 lo, .int .i64 hi] w fun e w' => e = .returned (.bool (P x)) ∧ w' = w) := fun x w => (by rw [hP]; exact Lists.sin_any x lo hi w)
  have HC : Hid (∀ i, i < m → ∃ b o, a = some ⟨b, o, none⟩ ∧ w.cell? ⟨b, o + i, none⟩ = some (.int .i64 (L.getD i 0))) := fun i hi => (by
    rw [HM.out] at hi
    rcases h with ⟨rfl, _⟩ | ⟨b, o, c, e, _, _, x, y⟩
    · simp at hi
    · simp at e; exact ⟨b, o, e.1, y i hi⟩)
  rw [← hP]
  have HO : Hid (okI P L = (decide (m ≤ 40) && allI P L m)) := (by show _ = _; unfold okI; rw [HM.out])
  rw [← hm] at ln ⊢
  clear h hm hP
  by_cases h40 : 40 < m
  · have E : Hid (okI P L = false) := (by show _ = _; rw [HO.out, decide_eq_false (by omega)]; rfl)
    have j40 : (40 : Int) < (m : Int) := by omega
    go_enter Tryd.func29, Tryd.ntmps29
    go_wp2_with fail
    go_ret
    exact ⟨by rw [E.out]; rfl, 0, rfl⟩
  have j40 : ¬ (40 : Int) < (m : Int) := by omega
  go_enter Tryd.func29, Tryd.ntmps29
  go_wp2_with fail
  go_loopw [7] (fun i wr => ∃ k n : Nat, k ≤ m ∧ i = .int .i64 k ∧ wr = w.drewN n ∧ Hid (allI P L k = true)) (fun i _ => m - (intOf i).toNat)
  case atStart => exact ⟨0, 0, Nat.zero_le _, rfl, rfl, rfl⟩
  case round =>
    obtain ⟨k, n, hk, rfl, hw, AK⟩ := hrel
    by_cases hlt : k < m
    · obtain ⟨b, o, rfl, q0⟩ := HC.out k hlt
      have q0 : wr.cell? ⟨b, o + k, none⟩ = some (.int .i64 (L.getD k 0)) := by rw [hw]; exact q0
      have i0 : (0 : Int) ≤ (k : Int) := by omega
      have i1 : (k : Int) < (m : Int) := by omega
      have CF : Hid (∀ w, Calls Tryd.prog 48 #[.int .i64 (L.getD k 0), .int .i64 lo, .int .i64 hi] w fun e w' => e = .returned (.bool (P (L.getD k 0))) ∧ w' = w) := FF.out _
      have NO : Hid (wI P L k = false → okI P L = false) := fun h => (by rw [HO.out, allI_at hlt h]; simp)
      have YE : Hid (wI P L k = true → allI P L (k + 1) = true) := fun h => (by rw [allI_succ, AK.out, h]; rfl)
      have WW : Hid (wI P L k = (P (L.getD k 0) && (decide (k = 0) || decide (L.getD (k - 1) 0 < L.getD k 0)))) := rfl
      have HP0 : Hid (∀ k', k' + 1 = k → wr.cell? ⟨b, o + k', none⟩ = some (.int .i64 (L.getD (k - 1) 0))) := fun k' hk' => (by
        obtain ⟨b', o', e, y⟩ := HC.out k' (by omega)
        simp at e
        obtain ⟨rfl, rfl⟩ := e
        rw [hw]
        have : k' = k - 1 := by omega
        rw [← this]
        exact y)
      have HW : Hid (∀ j, ∃ n', wr.drewN j = w.drewN n') := fun j => ⟨n + j, by rw [hw, World.drewN_drewN]⟩
      generalize L.getD k 0 = x at *
      generalize L.getD (k - 1) 0 = y at *
      generalize P x = px at *
      clear AK hw FF
      cases px
      · have E : Hid (okI P L = false) := NO.out (by rw [WW.out]; rfl)
        go_wp2_with fail
        go_quiet (exact Calls.quiet_of_same (CF.out _))
        go_wp2_with fail
        go_ret
        exact ⟨by rw [E.out]; rfl, HW.out _⟩
      · cases k with
        | zero =>
          rw [Nat.add_zero] at q0
          have NX : Hid (allI P L 1 = true) := YE.out (by rw [WW.out]; rfl)
          go_wp2_with fail
          go_quiet (exact Calls.quiet_of_same (CF.out _))
          obtain ⟨n', hn'⟩ := HW.out nq
          have HN' : Hid (wr.drewN nq = w.drewN n') := hn'
          clear hn'
          go_wp2_with fail
          go_roundw
          case rel => exact ⟨1, n', by omega, by go_num, HN'.out, NX⟩
          case measure => simp [intOf]; omega
        | succ k =>
          have qp := HP0.out k rfl
          have k1 : (0 : Int) < ((k + 1 : Nat) : Int) := by omega
          have k2 : (((k + 1 : Nat) : Int) - 1) = (k : Int) := by omega
          have k3 : (k : Int) < (m : Int) := by omega
          have k4 : (0 : Int) ≤ (k : Int) := by omega
          have k5 : (0 : Int) < (k : Int) + 1 := by omega
          have k6 : decide ((0 : Int) < ((k + 1 : Nat) : Int)) = true := decide_eq_true (by omega)
          by_cases hyx : x ≤ y
          · have E : Hid (okI P L = false) := NO.out (by rw [WW.out, decide_eq_false (by omega : ¬ y < x)]; simp)
            have g1 : decide (x ≤ y) = true := decide_eq_true hyx
            go_wp2_with fail
            go_quiet (exact Calls.quiet_of_same (CF.out _))
            go_wp2_with fail
            go_ret
            exact ⟨by rw [E.out]; rfl, HW.out _⟩
          · have NX : Hid (allI P L (k + 1 + 1) = true) := YE.out (by rw [WW.out, decide_eq_true (by omega : y < x)]; simp)
            have g1 : decide (x ≤ y) = false := decide_eq_false hyx
            have g2 : y < x := by omega
            go_wp2_with fail
            go_quiet (exact Calls.quiet_of_same (CF.out _))
            obtain ⟨n', hn'⟩ := HW.out nq
            have HN' : Hid (wr.drewN nq = w.drewN n') := hn'
            clear hn'
            go_wp2_with fail
            go_roundw
            case rel => exact ⟨k + 1 + 1, n', by omega, by go_num, HN'.out, NX⟩
            case measure => simp [intOf]; omega
    · have hkm : k = m := by omega
      have E : Hid (okI P L = true) := (by show _ = _; rw [HO.out, ← hkm, AK.out, decide_eq_true (by omega)]; rfl)
      have j1 : ¬ (k : Int) < (m : Int) := by omega
      have HW : Hid (∃ n', wr = w.drewN n') := ⟨n, hw⟩
      clear hw
      go_wp2_with fail
      go_ret
      exact ⟨by rw [E.out]; rfl, HW.out⟩
end Go.Proofs.YtkegllbedejkgaaDoor.Ix
