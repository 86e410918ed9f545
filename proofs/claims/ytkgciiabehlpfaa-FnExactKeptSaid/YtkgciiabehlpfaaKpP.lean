/- What is kept, plain. -/
import Derived.Test.YtkgciiabehlpfaaJd
import Derived.Test.YtkgciiabehlpfaaRd
import Derived.Deep.RegionHeldLaw
import Derived.Deep.AppendLies
import Derived.Maps.AppendAt
namespace Go.Proofs.Ytkgciiabehlpfaa.Kp
open Go.ChangeShapes Go.WideShapes Go.ChangeAt Go.RowKit

def kp (L : Jd.Ls) : Nat → Rd.Ls
  | 0 => []
  | k + 1 => if Jd.c3 L k = 0 then kp L k ++ [(Jd.c0 L k, Jd.c1 L k, Jd.c2 L k)] else kp L k
theorem kp_le (L : Jd.Ls) (k : Nat) : (kp L k).length ≤ k := by
  induction k with
  | zero => simp [kp]
  | succ k ih =>
    unfold kp
    split
    · simp; omega
    · omega
def kept (L : Jd.Ls) : Rd.Ls := if L.length ≤ 300 then kp L L.length else []
theorem kept_le (L : Jd.Ls) : (kept L).length ≤ 300 := by
  unfold kept
  split
  · rename_i h; exact Nat.le_trans (kp_le L _) h
  · simp
theorem good_snoc {xs : List Value} {C : Rd.Ls} {a b : Int} {x : Nat} (h : Rd.Good xs C C.length) (hl : xs.length = C.length * 3) : Rd.Good (xs ++ [.int .i64 a, .int .i64 b, .float .f64 x]) (C ++ [(a, b, x)]) (C ++ [(a, b, x)]).length := by
  intro i hi
  simp at hi
  by_cases e : i = C.length
  · subst e
    have q0 : Rd.c0 (C ++ [(a, b, x)]) C.length = a := by simp [Rd.c0]
    have q1 : Rd.c1 (C ++ [(a, b, x)]) C.length = b := by simp [Rd.c1]
    have q2 : Rd.c2 (C ++ [(a, b, x)]) C.length = x := by simp [Rd.c2]
    rw [q0, q1, q2]
    refine ⟨?_, ?_, ?_⟩
    · rw [List.getElem?_append_right (by omega)]; simp [hl]
    · rw [List.getElem?_append_right (by omega), show C.length * 3 + 1 - xs.length = 1 by omega]; rfl
    · rw [List.getElem?_append_right (by omega), show C.length * 3 + 2 - xs.length = 2 by omega]; rfl
  · have hi' : i < C.length := by omega
    have q : (C ++ [(a, b, x)]).getD i (0, 0, 0) = C.getD i (0, 0, 0) := by
      simp [List.getD_eq_getElem?_getD, List.getElem?_append_left hi']
    have q0 : Rd.c0 (C ++ [(a, b, x)]) i = Rd.c0 C i := by unfold Rd.c0; rw [q]
    have q1 : Rd.c1 (C ++ [(a, b, x)]) i = Rd.c1 C i := by unfold Rd.c1; rw [q]
    have q2 : Rd.c2 (C ++ [(a, b, x)]) i = Rd.c2 C i := by unfold Rd.c2; rw [q]
    rw [q0, q1, q2]
    obtain ⟨h0, h1, h2⟩ := h i hi'
    refine ⟨?_, ?_, ?_⟩
    · rw [List.getElem?_append_left (by omega)]; exact h0
    · rw [List.getElem?_append_left (by omega)]; exact h1
    · rw [List.getElem?_append_left (by omega)]; exact h2
end Go.Proofs.Ytkgciiabehlpfaa.Kp
