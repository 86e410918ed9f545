/- Numbers within bounds, whole lists of them: the model and the program. -/
import Derived.Test.YtaakiemmodncpaaXoA
import Derived.Deep.QuietTactic
import Derived.BigQuiet
namespace Go.Proofs.Ytaakiemmodncpaa.Al
open Go.ChangeShapes Go.WideShapes Go.ChangeAt Go.RowKit
open Go.Proofs.Ytaakiemmodncpaa.Lists

def inn (a lo hi : Int) : Bool := decide (lo ≤ a) && decide (a ≤ hi)
theorem inn_iff (a lo hi : Int) : inn a lo hi = true ↔ lo ≤ a ∧ a ≤ hi := by simp [inn]
theorem s_in (n a b : Int) (w : World) : Calls Try.prog 26 #[.int .i64 n, .int .i64 a, .int .i64 b] w fun e w' => e = .returned (.bool (inn n a b)) ∧ w' = w := sin_any n a b w
theorem i_in (n a b : Int) (w : World) : Calls Try.prog 32 #[.int .i64 n, .int .i64 a, .int .i64 b] w fun e w' => e = .returned (.bool (inn n a b)) ∧ w' = w := win_any n a b w
theorem reads_at {w : World} {v : Value} {L : List Int} (hL : Lists.Reads w v L) : ∃ b o, (∀ i, i < L.length → w.cell? ⟨b, o + i, none⟩ = some (.int .i64 (L.getD i 0))) ∧ (0 < L.length → b < w.heap.size ∧ ∃ cap, v = .slice (some ⟨b, o, none⟩) L.length cap) := by
  rcases hL with ⟨rfl, _⟩ | ⟨b, o, cap, h1, h2, h3, h4, h5⟩
  · exact ⟨0, 0, fun i hi => by simp at hi, fun hi => by simp at hi⟩
  · exact ⟨b, o, h5, fun _ => ⟨h4, cap, h1⟩⟩
def nums (L : List Int) (n lo hi : Int) : Bool := decide ((L.length : Int) = n) && L.all (fun d => inn d lo hi)
theorem nums_parts {L : List Int} {n lo hi : Int} (h : nums L n lo hi = true) : (L.length : Int) = n ∧ ∀ j, j < L.length → lo ≤ L.getD j 0 ∧ L.getD j 0 ≤ hi := by
  unfold nums at h
  rw [Bool.and_eq_true, decide_eq_true_eq, List.all_eq_true] at h
  refine ⟨h.1, fun j hj => ?_⟩
  have := h.2 (L.getD j 0) (by simp [List.getD_eq_getElem?_getD, hj])
  rw [inn_iff] at this
  exact this

set_option maxHeartbeats 1000000 in
theorem iall_any (L : List Int) (lo hi : Int) (v : Value) (w : World) (hL : Lists.Reads w v L) (hf : L.length < 9223372036854775808) :
    Calls Try.prog 60 #[v, .int .i64 lo, .int .i64 hi] w fun e w' => e = .returned (.bool (L.all (fun d => inn d lo hi))) ∧ w' = w := by
  obtain ⟨b, o, hcell, hvv⟩ := reads_at hL
  obtain ⟨a, cap, rfl⟩ := hL.form
  have HC : Hid (∀ i, i < L.length → w.cell? ⟨b, o + i, none⟩ = some (.int .i64 (L.getD i 0))) := hcell
  have HB : Hid (0 < L.length → b < w.heap.size ∧ a = some ⟨b, o, none⟩) := fun hi => by
    obtain ⟨h1, c, h2⟩ := hvv hi
    simp at h2
    exact ⟨h1, h2.1⟩
  obtain ⟨bo, hbo⟩ : ∃ bo, L.all (fun d => inn d lo hi) = bo := ⟨_, rfl⟩
  rw [hbo]
  have HO : Hid (L.all (fun d => inn d lo hi) = bo) := hbo
  obtain ⟨n, hn⟩ : ∃ n, n = L.length := ⟨_, rfl⟩
  rw [← hn] at hf ⊢
  have HN : Hid (n = L.length) := hn
  clear hL hcell hvv hbo hn
  go_enter Try.func60, Try.ntmps60
  go_wp2_with fail
  go_loop [11] (fun i => ∃ k : Nat, k ≤ n ∧ i = .int .i64 k ∧ Hid (∀ j, j < k → inn (L.getD j 0) lo hi = true)) (fun i => n - (intOf i).toNat)
  case atStart => exact ⟨0, by omega, rfl, fun j hj => by omega⟩
  case round =>
    obtain ⟨k, hk, rfl, OK⟩ := hrel
    by_cases hlt : k < n
    · have hkl : k < L.length := by rw [← HN.out]; exact hlt
      obtain ⟨hb, hx⟩ := HB.out (by omega)
      subst hx
      have q : w.cell? ⟨b, o + k, none⟩ = some (.int .i64 (L.getD k 0)) := HC.out k hkl
      have i1 : (0 : Int) ≤ (k : Int) := by omega
      have i2 : (k : Int) < (n : Int) := by omega
      have C3 : Hid (∀ w, Calls Try.prog 32 #[.int .i64 (L.getD k 0), .int .i64 lo, .int .i64 hi] w fun e w' => e = .returned (.bool (inn (L.getD k 0) lo hi)) ∧ w' = w) := fun w => i_in _ _ _ w
      cases hz : inn (L.getD k 0) lo hi
      · have HF : Hid (bo = false) := (by
          show _ = _
          rw [← HO.out, List.all_eq_false]
          exact ⟨L.getD k 0, by simp [List.getD_eq_getElem?_getD, hkl], by rw [hz]; simp⟩)
        rw [hz] at C3
        clear hz
        generalize L.getD k 0 = z at *
        go_wp2_with fail
        refine (C3.out _).mono ?_
        rintro e w3 ⟨rfl, hw⟩
        have hw' := hw.symm
        subst hw'
        go_wp2_with fail
        go_ret
        exact ⟨by rw [HF.out]; rfl, rfl⟩
      · have OK2 : Hid (∀ j, j < k + 1 → inn (L.getD j 0) lo hi = true) := fun j hj => by
          by_cases e : j = k
          · rw [e]; exact hz
          · exact OK.out j (by omega)
        rw [hz] at C3
        clear hz
        generalize L.getD k 0 = z at *
        go_wp2_with fail
        refine (C3.out _).mono ?_
        rintro e w3 ⟨rfl, hw⟩
        have hw' := hw.symm
        subst hw'
        go_wp2_with fail
        go_round
        case rel => exact ⟨k + 1, by omega, by go_num, OK2⟩
        case measure => simp [intOf]; omega
    · have HT : Hid (bo = true) := (by
        show _ = _
        rw [← HO.out, List.all_eq_true]
        intro d hd
        obtain ⟨j, hj, rfl⟩ := List.getElem_of_mem hd
        have := OK.out j (by have := HN.out; omega)
        simpa [List.getD_eq_getElem?_getD, hj] using this)
      go_wp2_with fail
      go_ret
      exact ⟨by rw [HT.out]; rfl, rfl⟩

set_option maxHeartbeats 1000000 in
theorem sall_any (L : List Int) (c lo hi : Int) (v : Value) (w : World) (hL : Lists.Reads w v L) (hf : L.length < 9223372036854775808) :
    Calls Try.prog 25 #[v, .int .i64 c, .int .i64 lo, .int .i64 hi] w fun e w' => e = .returned (.bool (nums L c lo hi)) ∧ ∃ m, w' = w.drewN m := by
  obtain ⟨b, o, hcell, hvv⟩ := reads_at hL
  obtain ⟨a, cap, rfl⟩ := hL.form
  have HC : Hid (∀ i, i < L.length → w.cell? ⟨b, o + i, none⟩ = some (.int .i64 (L.getD i 0))) := hcell
  have HB : Hid (0 < L.length → b < w.heap.size ∧ a = some ⟨b, o, none⟩) := fun hi => by
    obtain ⟨h1, c, h2⟩ := hvv hi
    simp at h2
    exact ⟨h1, h2.1⟩
  obtain ⟨bo, hbo⟩ : ∃ bo, nums L c lo hi = bo := ⟨_, rfl⟩
  rw [hbo]
  by_cases hc : (L.length : Int) = c
  · have hbo2 : L.all (fun d => inn d lo hi) = bo := by rw [← hbo]; unfold nums; simp [hc]
    have HO : Hid (L.all (fun d => inn d lo hi) = bo) := hbo2
    subst hc
    obtain ⟨n, hn⟩ : ∃ n, n = L.length := ⟨_, rfl⟩
    rw [← hn] at hf ⊢
    have HN : Hid (n = L.length) := hn
    have e1 : ((n : Int) != (n : Int)) = false := by simp
    clear hL hcell hvv hbo hbo2 hn
    go_enter Try.func25, Try.ntmps25
    go_wp2_with fail
    go_loopw [9] (fun i wr => ∃ k : Nat, k ≤ n ∧ i = .int .i64 k ∧ (∃ m, wr = w.drewN m) ∧ Hid (∀ j, j < k → inn (L.getD j 0) lo hi = true)) (fun i _ => n - (intOf i).toNat)
    case atStart => exact ⟨0, by omega, rfl, ⟨0, rfl⟩, fun j hj => by omega⟩
    case round =>
      obtain ⟨k, hk, rfl, ⟨m, rfl⟩, OK⟩ := hrel
      by_cases hlt : k < n
      · have hkl : k < L.length := by rw [← HN.out]; exact hlt
        obtain ⟨hb, hx⟩ := HB.out (by omega)
        subst hx
        have q : (w.drewN m).cell? ⟨b, o + k, none⟩ = some (.int .i64 (L.getD k 0)) := HC.out k hkl
        have i1 : (0 : Int) ≤ (k : Int) := by omega
        have i2 : (k : Int) < (n : Int) := by omega
        have C3 : Hid (∀ w, Calls Try.prog 26 #[.int .i64 (L.getD k 0), .int .i64 lo, .int .i64 hi] w fun e w' => e = .returned (.bool (inn (L.getD k 0) lo hi)) ∧ w' = w) := fun w => s_in _ _ _ w
        cases hz : inn (L.getD k 0) lo hi
        · have HF : Hid (bo = false) := (by
            show _ = _
            rw [← HO.out, List.all_eq_false]
            exact ⟨L.getD k 0, by simp [List.getD_eq_getElem?_getD, hkl], by rw [hz]; simp⟩)
          rw [hz] at C3
          clear hz
          generalize L.getD k 0 = z at *
          go_wp2_with fail
          refine (C3.out _).mono ?_
          rintro e w3 ⟨rfl, hw⟩
          subst hw
          go_wp2_with fail
          go_ret
          exact ⟨by rw [HF.out]; rfl, _, rfl⟩
        · have OK2 : Hid (∀ j, j < k + 1 → inn (L.getD j 0) lo hi = true) := fun j hj => by
            by_cases e : j = k
            · rw [e]; exact hz
            · exact OK.out j (by omega)
          rw [hz] at C3
          clear hz
          generalize L.getD k 0 = z at *
          go_wp2_with fail
          refine (C3.out _).mono ?_
          rintro e w3 ⟨rfl, hw⟩
          subst hw
          go_wp2_with fail
          go_roundw
          case rel => exact ⟨k + 1, by omega, by go_num, ⟨_, rfl⟩, OK2⟩
          case measure => simp [intOf]; omega
      · have HT : Hid (bo = true) := (by
          show _ = _
          rw [← HO.out, List.all_eq_true]
          intro d hd
          obtain ⟨j, hj, rfl⟩ := List.getElem_of_mem hd
          have := OK.out j (by have := HN.out; omega)
          simpa [List.getD_eq_getElem?_getD, hj] using this)
        go_wp2_with fail
        go_ret
        exact ⟨by rw [HT.out]; rfl, _, rfl⟩
  · have hb0 : bo = false := by rw [← hbo]; unfold nums; simp [hc]
    subst hb0
    have e1 : (((L.length : Nat) : Int) != c) = true := by simp [hc]
    generalize L.length = n at *
    go_enter Try.func25, Try.ntmps25
    go_wp2_with fail
    go_ret
    exact ⟨rfl, 0, rfl⟩

set_option maxHeartbeats 1000000 in
theorem inums_any (L : List Int) (c lo hi : Int) (v : Value) (w : World) (hL : Lists.Reads w v L) (hf : L.length < 9223372036854775808) :
    Calls Try.prog 46 #[v, .int .i64 c, .int .i64 lo, .int .i64 hi] w fun e w' => e = .returned (.bool (nums L c lo hi)) ∧ w' = w := by
  have C : Hid (Calls Try.prog 60 #[v, .int .i64 lo, .int .i64 hi] w fun e w' => e = .returned (.bool (L.all (fun d => inn d lo hi))) ∧ w' = w) := iall_any L lo hi v w hL hf
  unfold nums
  obtain ⟨a, cap, rfl⟩ := hL.form
  clear hL
  generalize L.all (fun d => inn d lo hi) = bo at *
  generalize L.length = n at *
  by_cases hc : (n : Int) = c
  · subst hc
    have e1 : ((n : Int) == (n : Int)) = true := by simp
    have e2 : decide ((n : Int) = (n : Int)) = true := by simp
    rw [e2]
    go_enter Try.func46, Try.ntmps46
    go_wp2_with fail
    refine C.out.mono ?_
    rintro e w1 ⟨rfl, hw⟩
    subst hw
    go_wp2_with fail
    go_ret
    exact ⟨rfl, rfl⟩
  · have e1 : ((n : Int) == c) = false := by simp [hc]
    rw [decide_eq_false hc]
    go_enter Try.func46, Try.ntmps46
    go_wp2_with fail
    go_ret
    exact ⟨rfl, rfl⟩
end Go.Proofs.Ytaakiemmodncpaa.Al
