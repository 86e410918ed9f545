/- Levels: both sides; the law. -/
import Derived.Test.YtgnapoklkicfmaaLi
import Derived.Test.YtgnapoklkicfmaaLvL
namespace Go.Proofs.Ytgnapoklkicfmaa.Lv
open Go.ChangeShapes Go.WideShapes Go.ChangeAt Go.RowKit
open Go.Proofs.Ytgnapoklkicfmaa.Lists Go.Proofs.Ytgnapoklkicfmaa.Al Go.Proofs.Ytgnapoklkicfmaa.Se


theorem levelsAll (w : World) (v0 : Value) (S : List Int) (hS : Lists.Reads w v0 S) (fS : S.length < 9223372036854775808) (v1 : Value) (A : List Int) (hA : Lists.Reads w v1 A) (fA : A.length < 9223372036854775808) (v2 : Value) (B : List Int) (hB : Lists.Reads w v2 B) (fB : B.length < 9223372036854775808) (h : Int) :
    Calls Try.prog 3 #[v0, v1, v2, .int .i64 h] w fun e w' => e = .returned (.bool true) ∧ Below w.heap.size w w' := by
  have hlen : (X0 S A B h).length ≤ 1000 := by
    unfold X0
    split
    · rename_i hg
      rw [lvs_len]
      unfold good at hg
      rw [Bool.and_eq_true] at hg
      have := okS_parts hg.1
      omega
    · simp
  refine LawLvL.lvLaw w v0 S hS fS v1 A hA fA v2 B hB fB h (X0 S A B h) hlen (good S A B h) (fun w t0 t1 t2 k0 k1 k2 => ?_) (fun w t0 t1 t2 k0 k1 k2 => ?_)
  · cases h1 : okS S
    · obtain ⟨e1, e2⟩ := good_no1 (S := S) (A := A) (B := B) (h := h) h1
      rw [e1, e2]
      exact s_no1 S A B h t0 t1 t2 w k0 k1 k2 fS fA fB h1
    · cases h2 : (okB A B && inn h 1 100)
      · obtain ⟨e1, e2⟩ := good_no2 (S := S) (A := A) (B := B) (h := h) h2
        rw [e1, e2]
        exact s_no2 S A B h t0 t1 t2 w k0 k1 k2 fS fA fB h1 h2
      · rw [Bool.and_eq_true] at h2
        obtain ⟨e1, e2⟩ := good_yes h1 h2.1 h2.2
        have hp := (inn_iff _ _ _).1 h2.2
        have he : h = (h.toNat : Int) := by omega
        rw [e1, e2, lvs_len]
        have h3 := h2.2
        rw [he] at h3
        rw [he]
        exact s_yes S A B h.toNat t0 t1 t2 w k0 k1 k2 fS fA fB h1 h2.1 h3
  · cases h1 : okS S
    · obtain ⟨e1, e2⟩ := good_no1 (S := S) (A := A) (B := B) (h := h) h1
      rw [e1, e2]
      exact i_no1 S A B h t0 t1 t2 w k0 k1 k2 fS fA fB h1
    · cases h2 : okB A B
      · obtain ⟨e1, e2⟩ := good_no2 (S := S) (A := A) (B := B) (h := h) (by rw [h2]; rfl)
        rw [e1, e2]
        exact i_no2 S A B h t0 t1 t2 w k0 k1 k2 fS fA fB h1 h2
      · cases h3 : inn h 1 100
        · obtain ⟨e1, e2⟩ := good_no2 (S := S) (A := A) (B := B) (h := h) (by rw [h3]; simp)
          rw [e1, e2]
          exact i_no3 S A B h t0 t1 t2 w k0 k1 k2 fS fA fB h1 h2 h3
        · obtain ⟨e1, e2⟩ := good_yes h1 h2 h3
          have hp := (inn_iff _ _ _).1 h3
          have he : h = (h.toNat : Int) := by omega
          rw [e1, e2, lvs_len]
          rw [he] at h3
          rw [he]
          exact i_yes S A B h.toNat t0 t1 t2 w k0 k1 k2 fS fA fB h1 h2 h3
end Go.Proofs.Ytgnapoklkicfmaa.Lv
