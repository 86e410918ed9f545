/- Mixed: the law, with both answers in it. -/
import Derived.Test.YtnnmklkpgdpkgaaMxS
import Derived.Test.YtnnmklkpgdpkgaaMxL
namespace Go.Proofs.Ytnnmklkpgdpkgaa.Mx
open Go.ChangeShapes Go.WideShapes Go.ChangeAt Go.RowKit
open Go.Proofs.Ytnnmklkpgdpkgaa.Lists
def mx (A B : List Int) : List Int := if okM A B then mixL A B A.length else []
theorem mx_len (A B : List Int) : (mx A B).length ≤ 1000 := by
  unfold mx
  cases h : okM A B
  · simp
  · have := (ok_of h).n64
    simp [mixL_len]
    omega
theorem smixed_any (A B : List Int) (lA : A.length < 9223372036854775808) (lB : B.length < 9223372036854775808) (w : World) (v s : Value) (hA : Lists.Reads w v A) (hB : Lists.Reads w s B) :
    Calls Try.prog 9 #[v, s] w fun e w' => ∃ u, e = .returned (.tuple #[u, .bool (okM A B)]) ∧ w'.ownsRow w.heap.size 2 1 u (mx A B).length (ints (mx A B)) ∧ Below w.heap.size w w' := by
  unfold mx
  cases h : okM A B
  · exact smixed_no A B v s w hA hB lA lB h
  · rw [if_pos rfl, mixL_len]
    exact smixed_yes A B v s w hA hB h
theorem imixed_any (A B : List Int) (lA : A.length < 9223372036854775808) (lB : B.length < 9223372036854775808) (w : World) (v s : Value) (hA : Lists.Reads w v A) (hB : Lists.Reads w s B) :
    Calls Try.prog 10 #[v, s] w fun e w' => ∃ u, e = .returned (.tuple #[u, .bool (okM A B)]) ∧ w'.ownsRow w.heap.size 2 1 u (mx A B).length (ints (mx A B)) ∧ Below w.heap.size w w' := by
  unfold mx
  cases h : okM A B
  · refine (imixed_no A B v s w hA hB lA lB h).mono ?_
    rintro e w' ⟨rfl, hb⟩
    exact ⟨_, rfl, nil_row _ _, hb⟩
  · rw [if_pos rfl, mixL_len]
    exact imixed_yes A B v s w hA hB h
theorem mixedAll (w : World) (v : Value) (A : List Int) (hA : Lists.Reads w v A) (lA : A.length < 9223372036854775808) (s : Value) (B : List Int) (hB : Lists.Reads w s B) (lB : B.length < 9223372036854775808) :
    Calls Try.prog 4 #[v, s] w fun e w' => e = .returned (.bool true) ∧ Below w.heap.size w w' :=
  LawMxL.mixedLaw w v A hA lA s B hB lB (mx A B) (mx_len A B) (okM A B) (smixed_any A B lA lB) (imixed_any A B lA lB)
end Go.Proofs.Ytnnmklkpgdpkgaa.Mx
