/- Moved: the law, with both answers in it. -/
import Derived.Test.YthmknlejnnnbaaaMvN
import Derived.Test.YthmknlejnnnbaaaMvO
import Derived.Test.YthmknlejnnnbaaaMvL
namespace Go.Proofs.Ythmknlejnnnbaaa.Mv
open Go.ChangeShapes Go.WideShapes Go.ChangeAt Go.RowKit
open Go.Proofs.Ythmknlejnnnbaaa.Lists
theorem movedAll (w : World) (r c : Int) (v : Value) (L : List Int) (hL : Lists.Reads w v L) (fL : L.length < 9223372036854775808) (lv : Int) (r' c' : Int) (u : Value) (M : List Int) (hM : Lists.Reads w u M) (fM : M.length < 9223372036854775808) :
    Calls Try.prog 3 #[Bo.sv r c v, .int .i64 lv, Bo.sv r' c' u] w fun e w' => e = .returned (.bool true) ∧ Below w.heap.size w w' := by
  cases h : okM r c L r' c' M
  · exact LawMvL.movedLaw w r c v L hL fL lv r' c' u M hM fM 0 0 false (fun w t0 t2 h0 h2 => smoved_no r c L lv r' c' M t0 t2 w h0 h2 fL fM h) (fun w t0 t2 h0 h2 => imoved_no r c L lv r' c' M t0 t2 w h0 h2 fL fM h)
  · obtain ⟨h1, h2, rfl, rfl⟩ := okM_of h
    obtain ⟨x, y, hb⟩ := best_exists (both r c L M lv)
    refine LawMvL.movedLaw w r c v L hL fL lv r c u M hM fM x y true (fun w t0 t2 i0 i2 => ?_) (fun w t0 t2 i0 i2 => ?_)
    · refine (smoved_yes r c L lv M t0 t2 w i0 i2 fL fM h1 h2).mono ?_
      rintro e w' ⟨x', y', hb', rfl, bel⟩
      obtain ⟨rfl, rfl⟩ := best_unique hb hb'
      exact ⟨rfl, bel⟩
    · refine (imoved_yes r c L lv M t0 t2 w i0 i2 fL fM h1 h2).mono ?_
      rintro e w' ⟨x', y', hb', rfl, bel⟩
      obtain ⟨rfl, rfl⟩ := best_unique hb hb'
      exact ⟨rfl, bel⟩
end Go.Proofs.Ythmknlejnnnbaaa.Mv
