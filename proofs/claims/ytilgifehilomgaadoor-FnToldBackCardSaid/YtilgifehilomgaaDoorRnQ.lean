/- A told number's text opens with a sign or a digit: it is none of the words, and not empty. -/
import Derived.Test.YtilgifehilomgaaDoorRnS
namespace Go.Proofs.YtilgifehilomgaaDoor.Dec
open Flt

theorem tz_first (z : Int) (p : Nat) : ∃ b l, tz z p = b :: l ∧ (b = 45 ∨ isD b = true) := by
  unfold tz
  obtain ⟨b, l, e, hb⟩ := body_head z.natAbs p
  split
  · rw [pnt_sign]
    exact ⟨45, _, rfl, .inl rfl⟩
  · exact ⟨b, l, e, .inr hb⟩
theorem tz_not (z : Int) (p : Nat) (c : UInt8) (l : List UInt8) (h1 : c ≠ 45) (h2 : isD c = false) : tz z p ≠ c :: l := by
  obtain ⟨b, l', e, h⟩ := tz_first z p
  intro x
  rw [e] at x
  injection x with x1 x2
  subst x1
  rcases h with h | h
  · exact h1 h
  · rw [h2] at h; cases h
theorem tz_some (z : Int) (p : Nat) : tz z p ≠ [] := by
  obtain ⟨b, l', e, h⟩ := tz_first z p
  rw [e]; simp
theorem tz_slash (z : Int) (p : Nat) : (tz z p == [47]) = false := by
  rw [beq_eq_false_iff_ne]; exact tz_not z p 47 [] (by decide) (by decide)
theorem tz_high (z : Int) (p : Nat) : (tz z p == [104, 105, 103, 104]) = false := by
  rw [beq_eq_false_iff_ne]; exact tz_not z p 104 _ (by decide) (by decide)
theorem tz_low (z : Int) (p : Nat) : (tz z p == [108, 111, 119]) = false := by
  rw [beq_eq_false_iff_ne]; exact tz_not z p 108 _ (by decide) (by decide)
theorem tz_far (z : Int) (p : Nat) : tz z p ≠ [102, 97, 114] := tz_not z p 102 _ (by decide) (by decide)

/-- of the empty text and of far no number is read; of a told number its own -/
theorem ans_far : Ans [102, 97, 114] 0 false ∧ Ans [] 0 false := by
  refine ⟨⟨fun _ => ⟨rfl, rfl⟩, fun _ _ _ _ => ⟨rfl, rfl⟩, fun z p _ _ h => absurd h (tz_far z p), fun _ => ⟨rfl, rfl⟩⟩, ⟨fun _ => ⟨rfl, rfl⟩, fun _ _ _ _ => ⟨rfl, rfl⟩, fun z p _ _ h => absurd h (tz_some z p), fun _ => ⟨rfl, rfl⟩⟩⟩
theorem ans_tz (z : Int) (p : Nat) (hz : z.natAbs ≤ 1000000000000000) (hp : p ≤ 6) : Ans (tz z p) (opF .quo (cn (floatOfInt .f64 z)) (cn (tenF p))) true := by
  obtain ⟨V, B, A⟩ := ans_ex (tz z p)
  obtain ⟨rfl, rfl⟩ := A.yes z p hz hp rfl
  exact A
end Go.Proofs.YtilgifehilomgaaDoor.Dec
