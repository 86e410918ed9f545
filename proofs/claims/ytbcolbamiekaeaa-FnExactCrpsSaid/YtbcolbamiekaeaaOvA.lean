/- Over and Rank: the laws, with both answers in them. -/
import Derived.Test.YtbcolbamiekaeaaOvL
import Derived.Test.YtbcolbamiekaeaaRkL
namespace Go.Proofs.Ytbcolbamiekaeaa.Sc
open Go.ChangeShapes Go.WideShapes Go.ChangeAt Go.RowKit
open Go.Proofs.Ytbcolbamiekaeaa.Lists
theorem below_drewN {B : Nat} {a w : World} (h : Below B a w) (n : Nat) : Below B a (w.drewN n) := h.trans ⟨rfl, rfl, rfl, Nat.le_refl _, fun _ _ => rfl⟩
theorem overAll (w : World) (v : Value) (L : List Int) (hL : Lists.Reads w v L) (hf : L.length < 9223372036854775808) (x : Int) :
    Calls Try.prog 3 #[v, .int .i64 x] w fun e w' => e = .returned (.bool true) ∧ Below w.heap.size w w' :=
  LawOvL.overLaw w v L hL hf x (if okM L then cge L x L.length else -1) (fun w t h => by
    refine (sover_any L x t w h hf).mono ?_
    rintro e w' ⟨rfl, m, rfl⟩
    exact ⟨rfl, below_drewN (Below.refl _ _) m⟩) (fun w t h => iOver_any L x t w h hf)
theorem rankAll (w : World) (v : Value) (L : List Int) (hL : Lists.Reads w v L) (hf : L.length < 9223372036854775808) (x : Int) :
    Calls Try.prog 4 #[v, .int .i64 x] w fun e w' => e = .returned (.bool true) ∧ Below w.heap.size w w' :=
  LawRkL.rankLaw w v L hL hf x (if okM L then clt L x L.length else -1) (fun w t h => by
    refine (srank_any L x t w h hf).mono ?_
    rintro e w' ⟨rfl, m, rfl⟩
    exact ⟨rfl, below_drewN (Below.refl _ _) m⟩) (fun w t h => iRank_any L x t w h hf)
end Go.Proofs.Ytbcolbamiekaeaa.Sc
