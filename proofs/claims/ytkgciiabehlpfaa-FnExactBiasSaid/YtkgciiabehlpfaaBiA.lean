/- The law FnExactBias at lists that came in. -/
import Derived.Test.YtkgciiabehlpfaaBiL
import Derived.Test.YtkgciiabehlpfaaRdArg
namespace Go.Proofs.Ytkgciiabehlpfaa.Bi
open Go.ChangeShapes Go.WideShapes Go.ChangeAt Go.RowKit

theorem fit_oks {L : Rd.Ls} (h : Rd.Fit L) : Oks L := by
  intro i hi
  have := h L[i] (List.getElem_mem hi)
  have e0 : Rd.c0 L i = L[i].1 := by simp [Rd.c0, List.getD_eq_getElem?_getD, hi]
  have e1 : Rd.c1 L i = L[i].2.1 := by simp [Rd.c1, List.getD_eq_getElem?_getD, hi]
  have e2 : Rd.c2 L i = L[i].2.2 := by simp [Rd.c2, List.getD_eq_getElem?_getD, hi]
  rw [e0, e1, e2]
  exact ⟨this.1, this.2.1, this.2.2⟩
theorem biasArg (W : World) (v : Value) (L : Rd.Ls) (h : Rd.Reads W v L) (f : Rd.Fit L) (u : Value) (B : Rd.Ls) (h' : Rd.Reads W u B) (f' : Rd.Fit B) : Calls Try.prog 4 #[v, u] W fun e w' => e = .returned (.bool true) ∧ Below W.heap.size W w' := biasLaw W v L h (fit_oks f) u B h' (fit_oks f')
end Go.Proofs.Ytkgciiabehlpfaa.Bi
