/- Permuted: the law, with both answers in it. -/
import Derived.Test.YtbklobohbbkmmaaPmL
import Derived.Test.YtbklobohbbkmmaaPj
namespace Go.Proofs.Ytbklobohbbkmmaa.Pe
open Go.ChangeShapes Go.WideShapes Go.ChangeAt Go.RowKit
open Go.Proofs.Ytbklobohbbkmmaa.Lists Go.Proofs.Ytbklobohbbkmmaa.Al
theorem smod_any (A B : List Int) (va vb : Value) (w : World) (hA : Lists.Reads w va A) (hB : Lists.Reads w vb B) (fA : A.length < 9223372036854775808) (fB : B.length < 9223372036854775808) :
    Calls Try.prog 4 #[va, vb] w fun e w' => e = .returned (.tuple #[.int .i64 (pm A B).1, .int .i64 (pm A B).2]) ∧ Below w.heap.size w w' := by
  unfold pm
  by_cases h : ((1 : Int) ≤ A.length ∧ (A.length : Int) ≤ 8) ∧ ((1 : Int) ≤ B.length ∧ (B.length : Int) ≤ 8)
  · cases g : (okU A 8 && okU B 8)
    · exact smod_no A B va vb w hA hB h.1 h.2 (by rw [okU_len h.1.2, okU_len h.2.2, ← Bool.and_eq_true, g]; simp)
    · rw [Bool.and_eq_true] at g
      exact smod_yes A B va vb w hA hB h.1 h.2 (by rw [okU_len h.1.2]; exact g.1) (by rw [okU_len h.2.2]; exact g.2)
  · have g : (okU A 8 && okU B 8) = false := by
      by_cases e : (1 : Int) ≤ A.length ∧ (A.length : Int) ≤ 8
      · rw [okU_far (L := B) (fun q => h ⟨e, q⟩), Bool.and_false]
      · rw [okU_far e, Bool.false_and]
    rw [g]
    exact smod_far A B va vb w hA hB fA fB h
theorem imod_any (A B : List Int) (va vb : Value) (w : World) (hA : Lists.Reads w va A) (hB : Lists.Reads w vb B) (fA : A.length < 9223372036854775808) (fB : B.length < 9223372036854775808) :
    Calls Try.prog 6 #[va, vb] w fun e w' => e = .returned (.tuple #[.int .i64 (pm A B).1, .int .i64 (pm A B).2]) ∧ Below w.heap.size w w' := by
  unfold pm
  cases g : (okU A 8 && okU B 8)
  · exact imod_no A B va vb w hA hB fA fB (by rw [← Bool.and_eq_true, g]; simp)
  · rw [Bool.and_eq_true] at g
    exact imod_yes A B va vb w hA hB g.1 g.2
theorem permAll (w : World) (va : Value) (A : List Int) (hA : Lists.Reads w va A) (fA : A.length < 9223372036854775808) (vb : Value) (B : List Int) (hB : Lists.Reads w vb B) (fB : B.length < 9223372036854775808) :
    Calls Try.prog 3 #[va, vb] w fun e w' => e = .returned (.bool true) ∧ Below w.heap.size w w' :=
  LawPmL.permLaw w va A hA fA vb B hB fB (pm A B).1 (pm A B).2 (fun w t0 t1 h0 h1 => smod_any A B t0 t1 w h0 h1 fA fB) (fun w t0 t1 h0 h1 => imod_any A B t0 t1 w h0 h1 fA fB)
end Go.Proofs.Ytbklobohbbkmmaa.Pe
