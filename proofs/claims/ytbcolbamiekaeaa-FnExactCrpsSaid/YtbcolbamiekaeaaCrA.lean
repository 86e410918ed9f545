/- Crps: the law, with both answers in it. -/
import Derived.Test.YtbcolbamiekaeaaCrL
import Derived.Test.YtbcolbamiekaeaaOvA
namespace Go.Proofs.Ytbcolbamiekaeaa.Sc
open Go.ChangeShapes Go.WideShapes Go.ChangeAt Go.RowKit
open Go.Proofs.Ytbcolbamiekaeaa.Lists Go.Proofs.Ytbcolbamiekaeaa.Al
theorem crpsAll (w : World) (v : Value) (L : List Int) (hL : Lists.Reads w v L) (hf : L.length < 9223372036854775808) (x : Int) :
    Calls Try.prog 5 #[v, .int .i64 x] w fun e w' => e = .returned (.bool true) ∧ Below w.heap.size w w' :=
  LawCrL.crpsLaw w v L hL hf x (crp L x) (fun w t h => by
    unfold crp
    cases hb : (okM L && inn x (-1000000) 1000000)
    · refine (scrps_no L x t w h hf hb).mono ?_
      rintro e w' ⟨rfl, m, rfl⟩
      exact ⟨rfl, below_drewN (Below.refl _ _) m⟩
    · refine (scrps_yes L x t w h hb).mono ?_
      rintro e w' ⟨rfl, m, rfl⟩
      exact ⟨rfl, below_drewN (Below.refl _ _) m⟩) (fun w t h => iCrps_any L x t w h hf)
end Go.Proofs.Ytbcolbamiekaeaa.Sc
