/- The number that is missing, as the program and its model make it. -/
import Derived.Test.YtgnnmepjdmcecaaSin
import Derived.Laws.Cover2
import Derived.WalkSmall
namespace Go.Proofs.Ytgnnmepjdmcecaa.Flt
open Go.ChangeShapes Go.WideShapes Go.ChangeAt Go.RowKit



set_option maxHeartbeats 400000 in
theorem none_any (w : World) : Calls Try.prog 34 #[] w fun e w' => ∃ b, e = .returned (.float .f64 b) ∧ cn b = qn ∧ b < 18446744073709551616 ∧ w' = w.drew := by
  obtain ⟨b, hb, hl, hrun⟩ := run_nan Try.prog .quo 27 0 0 (Or.inr (Or.inr (Or.inr rfl))) rfl w
  have HN : Hid (cn b = qn) := cn_nan (decide_eq_true hb)
  have HL : Hid (b < 18446744073709551616) := hl
  clear hb hl
  go_enter Try.func34, Try.ntmps34
  go_wp2
  go_ret
  exact ⟨b, rfl, HN.out, HL.out, rfl⟩

end Go.Proofs.Ytgnnmepjdmcecaa.Flt
