/- An element looked for by its code: the model one by one, the program by halves. -/
import Derived.Test.YteidipdjhkmgpaaPoD
namespace Go.Proofs.Yteidipdjhkmgpaa.Lists
open Go.ChangeShapes Go.WideShapes Go.ChangeAt Go.RowKit

def has (T : El) (d : Int) : Bool := (List.range T.length).any fun i => cO T i == d
theorem has_yes {T : El} {d : Int} {i : Nat} (hi : i < T.length) (h : cO T i = d) : has T d = true := by
  unfold has
  rw [List.any_eq_true]
  exact ⟨i, List.mem_range.2 hi, by simp [h]⟩
theorem has_no {T : El} {d : Int} (h : ∀ i, i < T.length → cO T i ≠ d) : has T d = false := by
  cases hb : has T d
  · rfl
  · unfold has at hb
    rw [List.any_eq_true] at hb
    obtain ⟨i, hi, he⟩ := hb
    exact absurd (by simpa using he) (h i (List.mem_range.1 hi))
theorem has_ex {T : El} {d : Int} (h : has T d = true) : ∃ i, i < T.length ∧ cO T i = d := by
  unfold has at h
  rw [List.any_eq_true] at h
  obtain ⟨i, hi, he⟩ := h
  exact ⟨i, List.mem_range.1 hi, by simpa using he⟩
theorem rise {T : El} (h : ∀ i, i < T.length → eOk T i = true) : ∀ j i, i < j → j < T.length → cO T i < cO T j := by
  intro j
  induction j with
  | zero => intro i hi; omega
  | succ j ih =>
    intro i hi hj
    have u := eOk_up (h (j + 1) hj)
    by_cases e : i = j
    · subst e; exact u
    · have := ih i (by omega) (by omega); omega

set_option maxHeartbeats 1000000 in
theorem slook_any (w : World) (v : Value) (T : El) (d : Int) (h : ReadsE w v T) :
    Calls Try.prog 19 #[v, .int .i64 d] w fun e w' => (∃ c x s r, e = .returned (.tuple #[el c x s r, .bool (has T d)])) ∧ Below w.heap.size w w' := by
  obtain ⟨a, cap, rfl⟩ := h.form
  have B0 : Hid (Below w.heap.size w (w.alloc (.cells #[.int .i64 0, .int .i64 0, .int .i64 0, .int .i64 0] 34))) := (Below.refl _ _).alloc (Nat.le_refl _) _
  have HC : Hid (∀ i, i < T.length → ∃ b o, a = some ⟨b, o, none⟩ ∧ T.length ≤ cap ∧ cap ≤ maxLen ∧ b < w.heap.size ∧ C4 (w.alloc (.cells #[.int .i64 0, .int .i64 0, .int .i64 0, .int .i64 0] 34)) b o T i) := fun i hi => by
    obtain ⟨b, o, h1, h2, h3, h4, h5⟩ := h.at i hi
    exact ⟨b, o, h1, h2, h3, h4, h5.on B0.out h4⟩
  obtain ⟨n, hn⟩ : ∃ n, n = T.length := ⟨_, rfl⟩
  have HN : Hid (n = T.length) := hn
  rw [← hn]
  obtain ⟨R, hR⟩ : ∃ r, r = has T d := ⟨_, rfl⟩
  have HR : Hid (R = has T d) := hR
  rw [← hR]
  clear h hn hR
  go_enter Try.func19, Try.ntmps19
  go_wp2_with fail
  go_loop [6] (fun c => ∃ j : Nat, j ≤ n ∧ c = .int .i64 j ∧ Hid (∀ i, i < j → cO T i ≠ d)) (fun c => n - (intOf c).toNat)
  case atStart => exact ⟨0, Nat.zero_le _, rfl, fun i hi => by omega⟩
  case round =>
    obtain ⟨j, hj, rfl, HJ⟩ := hrel
    by_cases hlt : j < n
    · obtain ⟨b, o, rfl, x1, x2, x3, x4⟩ := HC.out j (by rw [← HN.out]; exact hlt)
      unfold C4 at x4
      obtain ⟨q0, q1, q2, q3⟩ := x4
      have i0 : (0 : Int) ≤ (j : Int) := by omega
      have i1 : (j : Int) < (n : Int) := by omega
      unfold maxLen at x2
      rw [← HN.out] at x1
      obtain ⟨c, hcx⟩ : ∃ c, c = cO T j := ⟨_, rfl⟩
      have HCC : Hid (c = cO T j) := hcx
      rw [← hcx] at q0
      clear hcx
      by_cases he : c = d
      · have RT : Hid (R = true) := (by show R = true; rw [HR.out]; exact has_yes (by rw [← HN.out]; exact hlt) (by rw [← HCC.out]; exact he))
        have e1 : (c == d) = true := by simp [he]
        have HE : Hid (c = d) := he
        clear he
        go_wp2_with fail
        refine bodyPost_ret (v := .tuple #[el c (wO T j) (sO T j) (rO T j), .bool true]) (by simp [results, Try.results19, go_sem]) rfl ⟨⟨c, wO T j, sO T j, rO T j, ?_⟩, (Below.refl _ _).alloc (Nat.le_refl _) _⟩
        rw [RT.out]
      · have e1 : (c == d) = false := by simp [he]
        have HE : Hid (c ≠ d) := he
        clear he
        go_wp2_with fail
        go_round
        case rel => exact ⟨j + 1, by omega, by go_num, fun i hi => by
          by_cases e : i = j
          · subst e; rw [← HCC.out]; exact HE.out
          · exact HJ.out i (by omega)⟩
        case measure => simp [intOf]; omega
    · have RF : Hid (R = false) := (by show R = false; rw [HR.out]; exact has_no fun i hi => HJ.out i (by rw [← HN.out] at hi; omega))
      have a1 : ¬ ((j : Int) < (n : Int)) := by omega
      go_wp2_with fail
      refine bodyPost_ret (v := .tuple #[el 0 0 0 0, .bool false]) (by simp [results, Try.results19, go_sem]) rfl ⟨⟨0, 0, 0, 0, ?_⟩, (Below.refl _ _).alloc (Nat.le_refl _) _⟩
      rw [RF.out]

def cm (c d : Int) : Int := if c < d then -1 else if d < c then 1 else 0
set_option maxHeartbeats 400000 in
theorem nan_any (c : Int) (w : World) : Calls Try.prog 28 #[.int .i64 c] w fun e w' => e = .returned (.bool false) ∧ w' = w := by
  have n0 : (c != c) = false := by simp
  go_enter Try.func28, Try.ntmps28
  go_wp2
  go_ret
  exact ⟨rfl, rfl⟩
set_option maxHeartbeats 400000 in
theorem cmp_any (c d : Int) (w : World) : Calls Try.prog 27 #[.int .i64 c, .int .i64 d] w fun e w' => e = .returned (.int .i64 (cm c d)) ∧ w' = w := by
  by_cases h1 : c < d
  · have e : cm c d = -1 := by unfold cm; rw [if_pos h1]
    rw [e]
    go_enter Try.func27, Try.ntmps27
    go_wp2_with (go_at_call 28; refine (nan_any _ _).mono ?_; rintro e w' ⟨rfl, hw⟩; have hw' := hw.symm; subst hw')
    go_ret
    exact ⟨rfl, rfl⟩
  · by_cases h2 : d < c
    · have e : cm c d = 1 := by unfold cm; rw [if_neg h1, if_pos h2]
      rw [e]
      go_enter Try.func27, Try.ntmps27
      go_wp2_with (go_at_call 28; refine (nan_any _ _).mono ?_; rintro e w' ⟨rfl, hw⟩; have hw' := hw.symm; subst hw')
      go_ret
      exact ⟨rfl, rfl⟩
    · have e : cm c d = 0 := by unfold cm; rw [if_neg h1, if_neg h2]
      rw [e]
      go_enter Try.func27, Try.ntmps27
      go_wp2_with (go_at_call 28; refine (nan_any _ _).mono ?_; rintro e w' ⟨rfl, hw⟩; have hw' := hw.symm; subst hw')
      go_ret
      exact ⟨rfl, rfl⟩
set_option maxHeartbeats 400000 in
theorem clo_any (c x s r d : Int) (w : World) : Calls Try.prog 26 #[el c x s r, .int .i64 d] w fun e w' => e = .returned (.int .i64 (cm c d)) ∧ Below w.heap.size w w' := by
  go_enter Try.func26, Try.ntmps26
  go_wp2_with (go_at_call 27; refine (cmp_any _ _ _).mono ?_; rintro e w' ⟨rfl, hw⟩; have hw' := hw.symm; subst hw')
  go_ret
  exact ⟨rfl, (Below.refl _ _).alloc (Nat.le_refl _) _⟩
end Go.Proofs.Yteidipdjhkmgpaa.Lists
