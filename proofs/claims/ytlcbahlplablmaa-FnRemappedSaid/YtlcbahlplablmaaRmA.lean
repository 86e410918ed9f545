/- Whether edges are right: the model. -/
import Derived.Test.YtlcbahlplablmaaXoA
import Derived.Deep.QuietTactic
import Derived.BigQuiet
namespace Go.Proofs.Ytlcbahlplablmaa.Rm
open Go.ChangeShapes Go.WideShapes Go.ChangeAt Go.RowKit
open Go.Proofs.Ytlcbahlplablmaa.Lists

def inn (a lo hi : Int) : Bool := decide (lo ≤ a) && decide (a ≤ hi)
theorem inn_iff (a lo hi : Int) : inn a lo hi = true ↔ lo ≤ a ∧ a ≤ hi := by simp [inn]
theorem s_in (n a b : Int) (w : World) : Calls Try.prog 15 #[.int .i64 n, .int .i64 a, .int .i64 b] w fun e w' => e = .returned (.bool (inn n a b)) ∧ w' = w := sin_any n a b w
theorem reads_at {w : World} {v : Value} {L : List Int} (hL : Lists.Reads w v L) : ∃ b o, (∀ i, i < L.length → w.cell? ⟨b, o + i, none⟩ = some (.int .i64 (L.getD i 0))) ∧ (0 < L.length → b < w.heap.size ∧ ∃ cap, v = .slice (some ⟨b, o, none⟩) L.length cap) := by
  rcases hL with ⟨rfl, _⟩ | ⟨b, o, cap, h1, h2, h3, h4, h5⟩
  · exact ⟨0, 0, fun i hi => by simp at hi, fun hi => by simp at hi⟩
  · exact ⟨b, o, h5, fun _ => ⟨h4, cap, h1⟩⟩

def eAt (L : List Int) (i : Nat) : Bool := inn (L.getD i 0) (-1000000) 1000000 && (decide (i = 0) || decide (L.getD (i - 1) 0 < L.getD i 0))
def okE (L : List Int) : Bool := decide (2 ≤ L.length) && (decide (L.length ≤ 257) && (List.range L.length).all (eAt L))
theorem okE_short {L : List Int} (h : L.length < 2 ∨ 257 < L.length) : okE L = false := by
  unfold okE
  rcases h with h | h
  · rw [decide_eq_false (by omega)]; rfl
  · rw [decide_eq_false (by omega : ¬ L.length ≤ 257)]; simp
theorem okE_no {L : List Int} {k : Nat} (hk : k < L.length) (h : eAt L k = false) : okE L = false := by
  unfold okE
  have : (List.range L.length).all (eAt L) = false := by
    rw [List.all_eq_false]
    exact ⟨k, List.mem_range.2 hk, by simp [h]⟩
  rw [this]
  simp
theorem okE_yes {L : List Int} (h2 : 2 ≤ L.length) (h4 : L.length ≤ 257) (h : ∀ j, j < L.length → eAt L j = true) : okE L = true := by
  unfold okE
  have : (List.range L.length).all (eAt L) = true := by
    rw [List.all_eq_true]
    intro x hx
    exact h x (List.mem_range.1 hx)
  rw [this]
  simp
  omega
theorem okE_parts {L : List Int} (h : okE L = true) : 2 ≤ L.length ∧ L.length ≤ 257 ∧ (∀ j, j < L.length → -1000000 ≤ L.getD j 0 ∧ L.getD j 0 ≤ 1000000) ∧ ∀ j, j + 1 < L.length → L.getD j 0 < L.getD (j + 1) 0 := by
  unfold okE at h
  simp only [Bool.and_eq_true, decide_eq_true_eq, List.all_eq_true, List.mem_range] at h
  refine ⟨h.1, h.2.1, fun j hj => ?_, fun j hj => ?_⟩
  · have := h.2.2 j hj
    unfold eAt at this
    rw [Bool.and_eq_true, inn_iff] at this
    exact this.1
  · have := h.2.2 (j + 1) hj
    unfold eAt at this
    simp at this
    exact this.2

set_option maxHeartbeats 1000000 in
theorem sok_short (a : Option Addr) (n cap : Nat) (w : World) (hn : n < 9223372036854775808) (h : n < 2 ∨ 257 < n) : Calls Try.prog 14 #[.slice a n cap] w fun e w' => e = .returned (.bool false) ∧ ∃ m, w' = w.drewN m := by
  by_cases h1 : n < 2
  · have i1 : (n : Int) < 2 := by omega
    go_enter Try.func14, Try.ntmps14
    go_wp2_with fail
    go_ret
    exact ⟨rfl, 0, rfl⟩
  · have i1 : ¬ (n : Int) < 2 := by omega
    have i2 : (257 : Int) < (n : Int) := by omega
    go_enter Try.func14, Try.ntmps14
    go_wp2_with fail
    go_ret
    exact ⟨rfl, 0, rfl⟩

set_option maxHeartbeats 1000000 in
theorem sok_long (L : List Int) (v : Value) (w : World) (hL : Lists.Reads w v L) (l2 : 2 ≤ L.length) (l3 : L.length ≤ 257) : Calls Try.prog 14 #[v] w fun e w' => e = .returned (.bool (okE L)) ∧ ∃ m, w' = w.drewN m := by
  obtain ⟨b, o, hc, hv⟩ := reads_at hL
  obtain ⟨_, cap, rfl⟩ := hv (by omega)
  have HC : Hid (∀ i, i < L.length → w.cell? ⟨b, o + i, none⟩ = some (.int .i64 (L.getD i 0))) := hc
  obtain ⟨R, hR⟩ : ∃ R, okE L = R := ⟨_, rfl⟩
  have HR : Hid (okE L = R) := hR
  rw [hR]
  obtain ⟨n, hn⟩ : ∃ n, n = L.length := ⟨_, rfl⟩
  rw [← hn] at l2 l3 ⊢
  have HN : Hid (n = L.length) := hn
  have j1 : ¬ (n : Int) < 2 := by omega
  have j2 : ¬ (257 : Int) < (n : Int) := by omega
  clear hL hc hv hR hn
  go_enter Try.func14, Try.ntmps14
  go_wp2_with fail
  go_loopw [3] (fun i wr => ∃ k m : Nat, k ≤ n ∧ i = .int .i64 k ∧ Hid (∀ j, j < k → eAt L j = true) ∧ Hid (wr = w.drewN m)) (fun i _ => n - (intOf i).toNat)
  case atStart => exact ⟨0, 0, Nat.zero_le _, rfl, fun j hj => absurd hj (by omega), rfl⟩
  case round =>
    obtain ⟨k, m, hk, rfl, OK, HW⟩ := hrel
    by_cases hlt : k < n
    · have hkl : k < L.length := by have := HN.out; omega
      have q : wr.cell? ⟨b, o + k, none⟩ = some (.int .i64 (L.getD k 0)) := by rw [HW.out]; exact HC.out k hkl
      have i2 : (0 : Int) ≤ (k : Int) := by omega
      have i3 : (k : Int) < (n : Int) := by omega
      have EA : Hid (eAt L k = (inn (L.getD k 0) (-1000000) 1000000 && (decide (k = 0) || decide (L.getD (k - 1) 0 < L.getD k 0)))) := rfl
      have NX : Hid (eAt L k = true → ∀ j, j < k + 1 → eAt L j = true) := fun h j hj => by
        by_cases e : j = k
        · rw [e]; exact h
        · exact OK.out j (by omega)
      have NO : Hid (eAt L k = false → R = false) := fun h => by rw [← HR.out]; exact okE_no hkl h
      have C3 : Hid (∀ w, Calls Try.prog 15 #[.int .i64 (L.getD k 0), .int .i64 (-1000000), .int .i64 1000000] w fun e w' => e = .returned (.bool (inn (L.getD k 0) (-1000000) 1000000)) ∧ w' = w) := fun w => s_in _ _ _ w
      by_cases k0 : k = 0
      · subst k0
        rw [Nat.add_zero] at q
        cases hz : inn (L.getD 0 0) (-1000000) 1000000
        · rw [hz] at C3 EA
          clear hz
          generalize L.getD 0 0 = z at *
          have HF : Hid (R = false) := NO.out (by rw [EA.out, Bool.false_and])
          clear NO NX EA
          go_wp2_with fail
          go_quiet ((go_at_call 15; exact Calls.quiet_of_same (C3.out _)))
          go_wp2_with fail
          go_ret
          exact ⟨by rw [HF.out]; rfl, m + nq, by rw [HW.out]; exact World.drewN_drewN _ _ _⟩
        · rw [hz] at C3 EA
          clear hz
          generalize L.getD 0 0 = z at *
          have OK2 : Hid (∀ j, j < 0 + 1 → eAt L j = true) := NX.out (by rw [EA.out, decide_eq_true rfl]; rfl)
          clear NO NX EA
          go_wp2_with fail
          go_quiet ((go_at_call 15; exact Calls.quiet_of_same (C3.out _)))
          go_wp2_with fail
          go_roundw
          case rel => exact ⟨0 + 1, m + nq, by omega, by go_num, OK2, (by show _ = _; rw [HW.out]; exact World.drewN_drewN _ _ _)⟩
          case measure => simp [intOf]; omega
      · obtain ⟨p, rfl⟩ : ∃ p, k = p + 1 := ⟨k - 1, by omega⟩
        have q' : wr.cell? ⟨b, o + p, none⟩ = some (.int .i64 (L.getD p 0)) := by rw [HW.out]; exact HC.out p (by omega)
        rw [Nat.add_sub_cancel] at EA
        have j3 : (p : Int) + 1 - 1 = (p : Int) := by omega
        have j4 : IntKind.i64.wrap ((p : Int) + 1 - 1) = (p : Int) := by rw [j3]; exact IntWalk.i64_in _ (by omega)
        have j5 : (p : Int) < (n : Int) := by omega
        have j7 : IntKind.i64.wrap (p : Int) = (p : Int) := IntWalk.i64_in _ (by omega)
        have j8 : (0 : Int) ≤ (p : Int) := by omega
        have j6 : (0 : Int) < (p : Int) + 1 := by omega
        rw [decide_eq_false k0] at EA
        cases hz : inn (L.getD (p + 1) 0) (-1000000) 1000000
        · rw [hz] at C3 EA
          clear hz k0
          generalize L.getD (p + 1) 0 = z at *
          generalize L.getD p 0 = z' at *
          have HF : Hid (R = false) := NO.out (by rw [EA.out, Bool.false_and])
          clear NO NX EA
          go_wp2_with fail
          go_quiet ((go_at_call 15; exact Calls.quiet_of_same (C3.out _)))
          go_wp2_with fail
          go_ret
          exact ⟨by rw [HF.out]; rfl, m + nq, by rw [HW.out]; exact World.drewN_drewN _ _ _⟩
        · rw [hz] at C3 EA
          clear hz k0
          generalize L.getD (p + 1) 0 = z at *
          generalize L.getD p 0 = z' at *
          by_cases c2 : z ≤ z'
          · have c3 : decide (z' < z) = false := decide_eq_false (by omega)
            rw [c3] at EA
            clear c3
            have HF : Hid (R = false) := NO.out (by rw [EA.out, Bool.true_and]; rfl)
            clear NO NX EA
            go_wp2_with fail
            go_quiet ((go_at_call 15; exact Calls.quiet_of_same (C3.out _)))
            go_wp2_with fail
            go_ret
            exact ⟨by rw [HF.out]; rfl, m + nq, by rw [HW.out]; exact World.drewN_drewN _ _ _⟩
          · have c3 : decide (z' < z) = true := decide_eq_true (by omega)
            rw [c3] at EA
            clear c3
            have OK2 : Hid (∀ j, j < p + 1 + 1 → eAt L j = true) := NX.out (by rw [EA.out, Bool.true_and]; rfl)
            clear NO NX EA
            go_wp2_with fail
            go_quiet ((go_at_call 15; exact Calls.quiet_of_same (C3.out _)))
            go_wp2_with fail
            go_roundw
            case rel => exact ⟨p + 1 + 1, m + nq, by omega, by go_num, OK2, (by show _ = _; rw [HW.out]; exact World.drewN_drewN _ _ _)⟩
            case measure => simp [intOf]; omega
    · have HT : Hid (R = true) := (by
        show _ = _
        rw [← HR.out]
        exact okE_yes (by have := HN.out; omega) (by have := HN.out; omega) (fun j hj => OK.out j (by have := HN.out; omega)))
      go_wp2_with fail
      go_ret
      exact ⟨by rw [HT.out]; rfl, m, HW.out⟩
theorem sedges_any (L : List Int) (v : Value) (w : World) (hL : Lists.Reads w v L) (hf : L.length < 9223372036854775808) : Calls Try.prog 14 #[v] w fun e w' => e = .returned (.bool (okE L)) ∧ ∃ m, w' = w.drewN m := by
  by_cases h : L.length < 2 ∨ 257 < L.length
  · rw [okE_short h]
    obtain ⟨a, cap, rfl⟩ := hL.form
    exact sok_short a L.length cap w hf h
  · exact sok_long L v w hL (by omega) (by omega)
end Go.Proofs.Ytlcbahlplablmaa.Rm
