/- Remap: the law at every three lists. -/
import Derived.Test.YtekpgcdfcnfgnaaRmK
namespace Go.Proofs.Ytekpgcdfcnfgnaa.Rm
open Go.ChangeShapes Go.WideShapes Go.ChangeAt Go.RowKit
open Go.Proofs.Ytekpgcdfcnfgnaa.Lists
theorem remapAll (v0 : Value) (E : List Int) (v1 : Value) (A : List Int) (v2 : Value) (T : List Int) (w : World) (h0 : Lists.Reads w v0 E) (f0 : E.length < 9223372036854775808) (h1 : Lists.Reads w v1 A) (f1 : A.length < 9223372036854775808) (h2 : Lists.Reads w v2 T) (f2 : T.length < 9223372036854775808) :
    Calls Try.prog 3 #[v0, v1, v2] w fun e w' => e = .returned (.bool true) ∧ Below w.heap.size w w' :=
  remapLaw w v0 E h0 f0 v1 A h1 f1 v2 T h2 f2 (remap E A T) (okR E A T) (Nat.le_trans (remap_len E A T) (by decide))
    (fun w t0 t1 t2 r0 r1 r2 => sremap_any E A T t0 t1 t2 w r0 r1 r2 f0 f2) (fun w t0 t1 t2 r0 r1 r2 => iremap_any E A T t0 t1 t2 w r0 r1 r2 f0)
end Go.Proofs.Ytekpgcdfcnfgnaa.Rm
