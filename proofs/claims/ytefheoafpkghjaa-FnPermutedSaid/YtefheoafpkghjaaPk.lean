/- Permuted: what model and program answer. -/
import Derived.Test.YtefheoafpkghjaaPj
namespace Go.Proofs.Ytefheoafpkghjaa.Pe
open Go.ChangeShapes Go.WideShapes Go.ChangeAt Go.RowKit
open Go.Proofs.Ytefheoafpkghjaa.Lists Go.Proofs.Ytefheoafpkghjaa.Al
theorem smod_any (A B : List Int) (va vb : Value) (w : World) (hA : Lists.Reads w va A) (hB : Lists.Reads w vb B) (fA : A.length < 9223372036854775808) (fB : B.length < 9223372036854775808) :
    Calls Try.prog 6 #[va, vb] w fun e w' => e = .returned (.tuple #[.int .i64 (pm A B).1, .int .i64 (pm A B).2]) ∧ Below w.heap.size w w' := by
  unfold pm
  by_cases h : ((1 : Int) ≤ A.length ∧ (A.length : Int) ≤ 8) ∧ ((1 : Int) ≤ B.length ∧ (B.length : Int) ≤ 8)
  · cases g : (okU A 8 && okU B 8)
    · exact smod_no A B va vb w hA hB h.1 h.2 (by rw [okU_len h.1.2, okU_len h.2.2, ← Bool.and_eq_true, g]; simp)
    · rw [Bool.and_eq_true] at g
      exact smod_yes A B va vb w hA hB h.1 h.2 (by rw [okU_len h.1.2]; exact g.1) (by rw [okU_len h.2.2]; exact g.2)
  · have g : (okU A 8 && okU B 8) = false := by
      by_cases e : (1 : Int) ≤ A.length ∧ (A.length : Int) ≤ 8
      · rw [okU_far (L := B) (fun q => h ⟨e, q⟩), Bool.and_false]
      · rw [okU_far e, Bool.false_and]
    rw [g]
    exact smod_far A B va vb w hA hB fA fB h
theorem imod_any (A B : List Int) (va vb : Value) (w : World) (hA : Lists.Reads w va A) (hB : Lists.Reads w vb B) (fA : A.length < 9223372036854775808) (fB : B.length < 9223372036854775808) :
    Calls Try.prog 7 #[va, vb] w fun e w' => e = .returned (.tuple #[.int .i64 (pm A B).1, .int .i64 (pm A B).2]) ∧ Below w.heap.size w w' := by
  unfold pm
  cases g : (okU A 8 && okU B 8)
  · exact imod_no A B va vb w hA hB fA fB (by rw [← Bool.and_eq_true, g]; simp)
  · rw [Bool.and_eq_true] at g
    exact imod_yes A B va vb w hA hB g.1 g.2
end Go.Proofs.Ytefheoafpkghjaa.Pe
