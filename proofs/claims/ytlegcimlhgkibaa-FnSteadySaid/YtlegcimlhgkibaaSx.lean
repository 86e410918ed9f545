/- A series: whether it is one. -/
import Derived.Test.YtlegcimlhgkibaaAlA
namespace Go.Proofs.Ytlegcimlhgkibaa.Se
open Go.ChangeShapes Go.WideShapes Go.ChangeAt Go.RowKit
open Go.Proofs.Ytlegcimlhgkibaa.Lists Go.Proofs.Ytlegcimlhgkibaa.Al

def okS (L : List Int) : Bool := inn L.length 1 500 && L.all (fun d => inn d (-100000) 100000)
theorem okS_parts {L : List Int} (h : okS L = true) : 1 ≤ L.length ∧ L.length ≤ 500 ∧ ∀ j, j < L.length → -100000 ≤ L.getD j 0 ∧ L.getD j 0 ≤ 100000 := by
  unfold okS at h
  rw [Bool.and_eq_true, List.all_eq_true, inn_iff] at h
  refine ⟨by omega, by omega, fun j hj => ?_⟩
  have := h.2 (L.getD j 0) (by simp [List.getD_eq_getElem?_getD, hj])
  rw [inn_iff] at this
  exact this

set_option maxHeartbeats 1000000 in
theorem sok_any (L : List Int) (v : Value) (w : World) (hL : Lists.Reads w v L) (hf : L.length < 9223372036854775808) :
    Calls Try.prog 12 #[v] w fun e w' => e = .returned (.bool (okS L)) ∧ ∃ m, w' = w.drewN m := by
  have C : Hid (∀ m, Calls Try.prog 21 #[v, .int .i64 (L.length : Int), .int .i64 (-100000), .int .i64 100000] (w.drewN m) fun e w' => e = .returned (.bool (L.all (fun d => inn d (-100000) 100000))) ∧ ∃ m, w' = w.drewN m) := fun m => by
    have := sall_any L L.length (-100000) 100000 v (w.drewN m) hL hf
    unfold nums at this
    simp only [decide_true, Bool.true_and] at this
    refine this.mono ?_
    rintro e w' ⟨rfl, m', rfl⟩
    exact ⟨rfl, m + m', by simp⟩
  unfold okS
  obtain ⟨a, cap, rfl⟩ := hL.form
  clear hL
  generalize L.all (fun d => inn d (-100000) 100000) = bo at *
  generalize L.length = n at *
  by_cases h1 : (1 : Int) ≤ n
  · by_cases h2 : (n : Int) ≤ 500
    · have e : inn n 1 500 = true := by simp [inn]; omega
      rw [e]
      go_enter Try.func12, Try.ntmps12
      go_wp2_with fail
      refine (C.out 0).mono ?_
      rintro e w1 ⟨rfl, m, rfl⟩
      go_wp2_with fail
      go_ret
      exact ⟨rfl, _, rfl⟩
    · have e : inn n 1 500 = false := by simp [inn]; omega
      rw [e]
      go_enter Try.func12, Try.ntmps12
      go_wp2_with fail
      go_ret
      exact ⟨rfl, 0, rfl⟩
  · have e : inn n 1 500 = false := by simp [inn]; omega
    rw [e]
    go_enter Try.func12, Try.ntmps12
    go_wp2_with fail
    go_ret
    exact ⟨rfl, 0, rfl⟩

set_option maxHeartbeats 1000000 in
theorem iok_any (L : List Int) (v : Value) (w : World) (hL : Lists.Reads w v L) (hf : L.length < 9223372036854775808) :
    Calls Try.prog 15 #[v] w fun e w' => e = .returned (.bool (okS L)) ∧ w' = w := by
  have C1 : Hid (Calls Try.prog 17 #[.int .i64 (L.length : Int), .int .i64 1, .int .i64 500] w fun e w' => e = .returned (.bool (inn L.length 1 500)) ∧ w' = w) := i_in _ _ _ w
  have C : Hid (Calls Try.prog 23 #[v, .int .i64 (-100000), .int .i64 100000] w fun e w' => e = .returned (.bool (L.all (fun d => inn d (-100000) 100000))) ∧ w' = w) := iall_any L _ _ v w hL hf
  unfold okS
  obtain ⟨a, cap, rfl⟩ := hL.form
  clear hL
  generalize L.all (fun d => inn d (-100000) 100000) = bo at *
  generalize L.length = n at *
  generalize inn n 1 500 = bn at *
  cases bn
  · go_enter Try.func15, Try.ntmps15
    go_wp2_with fail
    refine C1.out.mono ?_
    rintro e w1 ⟨rfl, hw⟩
    subst hw
    go_wp2_with fail
    go_ret
    exact ⟨rfl, rfl⟩
  · go_enter Try.func15, Try.ntmps15
    go_wp2_with fail
    refine C1.out.mono ?_
    rintro e w1 ⟨rfl, hw⟩
    subst hw
    go_wp2_with fail
    refine C.out.mono ?_
    rintro e w1 ⟨rfl, hw⟩
    subst hw
    go_wp2_with fail
    go_ret
    exact ⟨rfl, rfl⟩

end Go.Proofs.Ytlegcimlhgkibaa.Se
