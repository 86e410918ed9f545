/- Contracts for spans: whether one is right, what two have in common, in the program and in its model. -/
import Derived.Test.YtdnmedgcoflcdaaRows
import Derived.WalkKit
import Derived.ProofKit
import Derived.OpenShut
import Derived.WalkSpells
import Derived.Below
import Derived.Outline
namespace Go.Proofs.Ytdnmedgcoflcdaa.Spans
open Go.ChangeShapes Go.WideShapes Go.ChangeAt Go.RowKit

def okB (f t : Int) : Bool := decide (0 ≤ f ∧ f ≤ 52596000 ∧ 0 ≤ t ∧ t ≤ 52596000 ∧ f ≤ t)

set_option maxHeartbeats 1000000 in
theorem sok_yes (f t : Int) (w : World) (h : okB f t = true) :
    Calls Try.prog 12 #[.agg #[.int .i64 f, .int .i64 t]] w fun e w' => e = .returned (.bool true) ∧ Below w.heap.size w w' := by
  simp only [okB, decide_eq_true_eq] at h
  obtain ⟨h1, h2, h3, h4, h5⟩ := h
  go_enter Try.func12, Try.ntmps12
  go_wp2
  go_ret
  exact ⟨rfl, (Below.refl _ _).alloc (Nat.le_refl _) _⟩

set_option maxHeartbeats 1000000 in
theorem sok_no (f t : Int) (w : World) (h : okB f t = false) :
    Calls Try.prog 12 #[.agg #[.int .i64 f, .int .i64 t]] w fun e w' => e = .returned (.bool false) ∧ Below w.heap.size w w' := by
  simp only [okB, decide_eq_false_iff_not] at h
  by_cases h1 : 0 ≤ f
  · by_cases h2 : f ≤ 52596000
    · by_cases h3 : 0 ≤ t
      · by_cases h4 : t ≤ 52596000
        · have h5 : decide (f ≤ t) = false := by simp; omega
          clear h
          go_enter Try.func12, Try.ntmps12
          go_wp2
          go_ret
          exact ⟨rfl, (Below.refl _ _).alloc (Nat.le_refl _) _⟩
        · have h5 : decide (t ≤ 52596000) = false := by simp; omega
          clear h h4
          go_enter Try.func12, Try.ntmps12
          go_wp2
          go_ret
          exact ⟨rfl, (Below.refl _ _).alloc (Nat.le_refl _) _⟩
      · have h5 : decide (0 ≤ t) = false := by simp; omega
        clear h h3
        go_enter Try.func12, Try.ntmps12
        go_wp2
        go_ret
        exact ⟨rfl, (Below.refl _ _).alloc (Nat.le_refl _) _⟩
    · have h5 : decide (f ≤ 52596000) = false := by simp; omega
      clear h h2
      go_enter Try.func12, Try.ntmps12
      go_wp2
      go_ret
      exact ⟨rfl, (Below.refl _ _).alloc (Nat.le_refl _) _⟩
  · have h5 : decide (0 ≤ f) = false := by simp; omega
    clear h h1
    go_enter Try.func12, Try.ntmps12
    go_wp2
    go_ret
    exact ⟨rfl, (Below.refl _ _).alloc (Nat.le_refl _) _⟩

set_option maxHeartbeats 1000000 in
theorem iok_yes (f t : Int) (w : World) (h : okB f t = true) :
    Calls Try.prog 13 #[.agg #[.int .i64 f, .int .i64 t]] w fun e w' => e = .returned (.bool true) ∧ Below w.heap.size w w' := by
  simp only [okB, decide_eq_true_eq] at h
  obtain ⟨h1, h2, h3, h4, h5⟩ := h
  go_enter Try.func13, Try.ntmps13
  go_wp2
  go_ret
  exact ⟨rfl, (Below.refl _ _).alloc (Nat.le_refl _) _⟩

set_option maxHeartbeats 1000000 in
theorem iok_no (f t : Int) (w : World) (h : okB f t = false) :
    Calls Try.prog 13 #[.agg #[.int .i64 f, .int .i64 t]] w fun e w' => e = .returned (.bool false) ∧ Below w.heap.size w w' := by
  simp only [okB, decide_eq_false_iff_not] at h
  by_cases h1 : 0 ≤ f
  · by_cases h2 : f ≤ 52596000
    · by_cases h3 : 0 ≤ t
      · by_cases h4 : t ≤ 52596000
        · have h5 : decide (f ≤ t) = false := by simp; omega
          clear h
          go_enter Try.func13, Try.ntmps13
          go_wp2
          go_ret
          exact ⟨rfl, (Below.refl _ _).alloc (Nat.le_refl _) _⟩
        · have h5 : decide (t ≤ 52596000) = false := by simp; omega
          clear h h4
          go_enter Try.func13, Try.ntmps13
          go_wp2
          go_ret
          exact ⟨rfl, (Below.refl _ _).alloc (Nat.le_refl _) _⟩
      · have h5 : decide (0 ≤ t) = false := by simp; omega
        clear h h3
        go_enter Try.func13, Try.ntmps13
        go_wp2
        go_ret
        exact ⟨rfl, (Below.refl _ _).alloc (Nat.le_refl _) _⟩
    · have h5 : decide (f ≤ 52596000) = false := by simp; omega
      clear h h2
      go_enter Try.func13, Try.ntmps13
      go_wp2
      go_ret
      exact ⟨rfl, (Below.refl _ _).alloc (Nat.le_refl _) _⟩
  · have h5 : decide (0 ≤ f) = false := by simp; omega
    clear h h1
    go_enter Try.func13, Try.ntmps13
    go_wp2
    go_ret
    exact ⟨rfl, (Below.refl _ _).alloc (Nat.le_refl _) _⟩
end Go.Proofs.Ytdnmedgcoflcdaa.Spans
