/- Blend: the law, with both answers in it. -/
import Derived.Test.YtnnmklkpgdpkgaaBlS
import Derived.Test.YtnnmklkpgdpkgaaBlL
namespace Go.Proofs.Ytnnmklkpgdpkgaa.Bl
open Go.ChangeShapes Go.WideShapes Go.ChangeAt Go.RowKit
open Go.Proofs.Ytnnmklkpgdpkgaa.Lists
theorem sblend_any (V S : List Int) (lV : V.length < 9223372036854775808) (lS : S.length < 9223372036854775808) (w : World) (v s : Value) (hV : Lists.Reads w v V) (hS : Lists.Reads w s S) :
    Calls Try.prog 5 #[v, s] w fun e w' => e = .returned (.tuple #[.int .i64 (r0 V S), .int .i64 (r1 V S)]) ∧ Below w.heap.size w w' := by
  unfold r0 r1
  cases h : okB V S
  · refine (sblend_no V S v s w hV hS lV lS h).mono ?_
    rintro e w' ⟨rfl, m, rfl⟩
    exact ⟨rfl, below_drewN (Below.refl _ _) m⟩
  · refine (sblend_yes V S v s w hV hS h).mono ?_
    rintro e w' ⟨rfl, m, rfl⟩
    exact ⟨rfl, below_drewN (Below.refl _ _) m⟩
theorem iblend_any (V S : List Int) (lV : V.length < 9223372036854775808) (lS : S.length < 9223372036854775808) (w : World) (v s : Value) (hV : Lists.Reads w v V) (hS : Lists.Reads w s S) :
    Calls Try.prog 7 #[v, s] w fun e w' => e = .returned (.tuple #[.int .i64 (r0 V S), .int .i64 (r1 V S)]) ∧ Below w.heap.size w w' := by
  unfold r0 r1
  cases h : okB V S
  · exact iblend_no V S v s w hV hS lV lS h
  · exact iblend_yes V S v s w hV hS h
theorem blendAll (w : World) (v : Value) (V : List Int) (hV : Lists.Reads w v V) (lV : V.length < 9223372036854775808) (s : Value) (S : List Int) (hS : Lists.Reads w s S) (lS : S.length < 9223372036854775808) :
    Calls Try.prog 3 #[v, s] w fun e w' => e = .returned (.bool true) ∧ Below w.heap.size w w' :=
  LawBlL.blendLaw w v V hV lV s S hS lS (r0 V S) (r1 V S) (sblend_any V S lV lS) (iblend_any V S lV lS)
end Go.Proofs.Ytnnmklkpgdpkgaa.Bl
