/- The number that is missing, as the program and its model make it. -/
import Derived.Test.YtleejjdedceajaaCn
import Derived.Laws.Cover2
import Derived.WalkSmall
namespace Go.Proofs.Ytleejjdedceajaa.Flt
open Go.ChangeShapes Go.WideShapes Go.ChangeAt Go.RowKit

theorem run_store_float {P : Program} (w : World) (a : Addr) (m : Mode) (k : FloatKind) (b : Nat) : (store a (.float k b) m).run P w = stored P w a (.float k b) m := run_store P w a _ m rfl
attribute [local go_sem] run_store_float

theorem arAdd : Arith .add := .inl rfl
theorem arSub : Arith .sub := .inr (.inl rfl)
theorem arMul : Arith .mul := .inr (.inr (.inl rfl))
theorem arQuo : Arith .quo := .inr (.inr (.inr rfl))

end Go.Proofs.Ytleejjdedceajaa.Flt
