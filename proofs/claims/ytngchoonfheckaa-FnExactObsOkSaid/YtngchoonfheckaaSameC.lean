/- The program's Same; the law FnExactSame walked. -/
import Derived.Test.YtngchoonfheckaaKnownC
namespace Go.Proofs.Ytngchoonfheckaa.Flt
open Go.ChangeShapes Go.WideShapes Go.ChangeAt Go.RowKit

set_option maxHeartbeats 400000 in
theorem isnan_any (x : Nat) (w : World) : Calls Try.prog 25 #[.float .f64 x] w fun e w' => e = .returned (.bool (nan x)) ∧ w' = w := by
  have n1 := self_ne x
  go_enter Try.func25, Try.ntmps25
  go_wp2
  go_ret
  exact ⟨rfl, rfl⟩

set_option maxHeartbeats 1000000 in
theorem isame_any (a b : Nat) (w : World) :
    Calls Try.prog 34 #[.float .f64 a, .float .f64 b] w fun e w' => e = .returned (.bool (sameB a b)) ∧ w' = w := by
  have ba := run_bits a
  have bb := run_bits b
  cases ea : nan a
  · cases eb : nan b
    · have hs : sameB a b = ((a : Int) == (b : Int)) := by
        unfold sameB
        rw [ea, eb, Bool.eq_iff_iff]
        simp
        omega
      rw [hs]
      clear hs
      go_enter Try.func34, Try.ntmps34
      go_wp2_with (go_at_call 25; refine (isnan_any _ _).mono ?_; rintro e w' ⟨rfl, rfl⟩)
      go_ret
      exact ⟨rfl, rfl⟩
    · have hs : sameB a b = false := by unfold sameB; rw [ea, eb]; rfl
      rw [hs]
      clear hs
      go_enter Try.func34, Try.ntmps34
      go_wp2_with (go_at_call 25; refine (isnan_any _ _).mono ?_; rintro e w' ⟨rfl, rfl⟩)
      go_ret
      exact ⟨rfl, rfl⟩
  · have hs : sameB a b = nan b := by unfold sameB; rw [ea]; cases nan b <;> rfl
    rw [hs]
    clear hs
    cases eb : nan b
    · go_enter Try.func34, Try.ntmps34
      go_wp2_with (go_at_call 25; refine (isnan_any _ _).mono ?_; rintro e w' ⟨rfl, rfl⟩)
      go_ret
      exact ⟨rfl, rfl⟩
    · go_enter Try.func34, Try.ntmps34
      go_wp2_with (go_at_call 25; refine (isnan_any _ _).mono ?_; rintro e w' ⟨rfl, rfl⟩)
      go_ret
      exact ⟨rfl, rfl⟩

end Go.Proofs.Ytngchoonfheckaa.Flt
