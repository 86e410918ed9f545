/- The program's Same; the law FnExactSame walked. -/
import Derived.Test.YtokjlclncihjlaaKnownC
namespace Go.Proofs.Ytokjlclncihjlaa.Flt
open Go.ChangeShapes Go.WideShapes Go.ChangeAt Go.RowKit

set_option maxHeartbeats 400000 in
theorem isnan_any (x : Nat) (w : World) : Calls Try.prog 13 #[.float .f64 x] w fun e w' => e = .returned (.bool (nan x)) ∧ w' = w := by
  have n1 := self_ne x
  go_enter Try.func13, Try.ntmps13
  go_wp2
  go_ret
  exact ⟨rfl, rfl⟩

set_option maxHeartbeats 1000000 in
theorem isame_any (a b : Nat) (w : World) :
    Calls Try.prog 7 #[.float .f64 a, .float .f64 b] w fun e w' => e = .returned (.bool (sameB a b)) ∧ w' = w := by
  have ba := run_bits a
  have bb := run_bits b
  cases ea : nan a
  · cases eb : nan b
    · have hs : sameB a b = ((a : Int) == (b : Int)) := by
        unfold sameB
        rw [ea, eb, Bool.eq_iff_iff]
        simp
        omega
      rw [hs]
      clear hs
      go_enter Try.func7, Try.ntmps7
      go_wp2_with (go_at_call 13; refine (isnan_any _ _).mono ?_; rintro e w' ⟨rfl, rfl⟩)
      go_ret
      exact ⟨rfl, rfl⟩
    · have hs : sameB a b = false := by unfold sameB; rw [ea, eb]; rfl
      rw [hs]
      clear hs
      go_enter Try.func7, Try.ntmps7
      go_wp2_with (go_at_call 13; refine (isnan_any _ _).mono ?_; rintro e w' ⟨rfl, rfl⟩)
      go_ret
      exact ⟨rfl, rfl⟩
  · have hs : sameB a b = nan b := by unfold sameB; rw [ea]; cases nan b <;> rfl
    rw [hs]
    clear hs
    cases eb : nan b
    · go_enter Try.func7, Try.ntmps7
      go_wp2_with (go_at_call 13; refine (isnan_any _ _).mono ?_; rintro e w' ⟨rfl, rfl⟩)
      go_ret
      exact ⟨rfl, rfl⟩
    · go_enter Try.func7, Try.ntmps7
      go_wp2_with (go_at_call 13; refine (isnan_any _ _).mono ?_; rintro e w' ⟨rfl, rfl⟩)
      go_ret
      exact ⟨rfl, rfl⟩

set_option maxHeartbeats 400000 in
theorem sameLaw (a b : Nat) (w : World) (ha : a < 18446744073709551616) (hb : b < 18446744073709551616) :
    Calls Try.prog 3 #[.float .f64 a, .float .f64 b] w fun e w' => e = .returned (.bool true) ∧ Below w.heap.size w w' := by
  have hbb : (sameB a b != sameB a b) = false := by simp
  go_enter Try.func3, Try.ntmps3
  go_wp2_with (first | (go_at_call 6; refine (same_any _ _ _ ha hb).mono ?_; rintro e w' ⟨rfl, rfl⟩) | (go_at_call 7; refine (isame_any _ _ _).mono ?_; rintro e w' ⟨rfl, rfl⟩))
  go_ret
  exact ⟨rfl, Below.refl _ _⟩
end Go.Proofs.Ytokjlclncihjlaa.Flt
