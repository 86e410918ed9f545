/- Flood: the law, with both answers in it. -/
import Derived.Test.YtpenjblhnihjkaaFd
import Derived.Test.YtpenjblhnihjkaaFdL
namespace Go.Proofs.Ytpenjblhnihjkaa.Fd
open Go.ChangeShapes Go.WideShapes Go.ChangeAt Go.RowKit
open Go.Proofs.Ytpenjblhnihjkaa.Lists
theorem floodAll (w : World) (z1 z2 : Int) (vw : Value) (W : List Int) (hW : Lists.Reads w vw W) (lW : W.length < 9223372036854775808) (vm : Value) (M : List Int) (hM : Lists.Reads w vm M) (lM : M.length < 9223372036854775808) :
    Calls Try.prog 3 #[Bk.sv z1 z2 vw, vm] w fun e w' => e = .returned (.bool true) ∧ Below w.heap.size w w' :=
  LawFdL.floodLaw w z1 z2 vw W hW lW vm M hM lM (flood W M) (flood_len W M) (sflood_any z1 z2 W M lM) (iflood_any z1 z2 W M)
end Go.Proofs.Ytpenjblhnihjkaa.Fd
