/- The number that is missing, as the program and its model make it. -/
import Derived.Test.YtfjkchkcgnjkaaaCn
import Derived.Laws.Cover2
import Derived.WalkSmall
namespace Go.Proofs.Ytfjkchkcgnjkaaa.Flt
open Go.ChangeShapes Go.WideShapes Go.ChangeAt Go.RowKit

theorem run_store_float {P : Program} (w : World) (a : Addr) (m : Mode) (k : FloatKind) (b : Nat) : (store a (.float k b) m).run P w = stored P w a (.float k b) m := run_store P w a _ m rfl
attribute [local go_sem] run_store_float

theorem arAdd : Arith .add := .inl rfl
theorem arSub : Arith .sub := .inr (.inl rfl)
theorem arMul : Arith .mul := .inr (.inr (.inl rfl))
theorem arQuo : Arith .quo := .inr (.inr (.inr rfl))

set_option maxHeartbeats 400000 in
theorem none_any (w : World) : Calls Try.prog 38 #[] w fun e w' => ∃ b, e = .returned (.float .f64 b) ∧ cn b = qn ∧ b < 18446744073709551616 ∧ w' = w.drew := by
  obtain ⟨b, hb, hl, hrun⟩ := run_nan Try.prog .quo 31 0 0 (Or.inr (Or.inr (Or.inr rfl))) rfl w
  have HN : Hid (cn b = qn) := cn_nan (decide_eq_true hb)
  have HL : Hid (b < 18446744073709551616) := hl
  clear hb hl
  go_enter Try.func38, Try.ntmps38
  go_wp2
  go_ret
  exact ⟨b, rfl, HN.out, HL.out, rfl⟩

end Go.Proofs.Ytfjkchkcgnjkaaa.Flt
