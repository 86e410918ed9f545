/- What is stored again changes nothing. -/
import Derived.Test.YtfnkcoppdelmjaaKp
namespace Go.Proofs.Ytfnkcoppdelmjaa.Ky
open Go.ChangeShapes Go.WideShapes Go.ChangeAt Go.RowKit
open Al Eo
theorem ky_self (e : En1) : ky e e = 0 := by
  have := ky_cmp.anti e e
  omega
/-- a list parted at e: those ahead of e, those behind -/
theorem parts_ahead {A B : En.Ls} {e : En1} (hA : ∀ x ∈ A, ky x e < 0) (hB : ∀ x ∈ B, ky e x < 0) : (A ++ [e] ++ B).filter (fun x => decide (ky x e < 0)) = A := by
  have h1 : A.filter (fun x => decide (ky x e < 0)) = A := List.filter_eq_self.2 fun x hx => decide_eq_true (hA x hx)
  have h2 : B.filter (fun x => decide (ky x e < 0)) = [] := List.filter_eq_nil_iff.2 fun x hx => by
    have := hB x hx
    have := ky_cmp.anti e x
    simp; omega
  have h3 : [e].filter (fun x => decide (ky x e < 0)) = [] := by simp [ky_self]
  rw [List.filter_append, List.filter_append, h1, h2, h3]
  simp
theorem parts_behind {A B : En.Ls} {e : En1} (hA : ∀ x ∈ A, ky x e < 0) (hB : ∀ x ∈ B, ky e x < 0) : (A ++ [e] ++ B).filter (fun x => decide (ky e x < 0)) = B := by
  have h1 : A.filter (fun x => decide (ky e x < 0)) = [] := List.filter_eq_nil_iff.2 fun x hx => by
    have := hA x hx
    have := ky_cmp.anti e x
    simp; omega
  have h2 : B.filter (fun x => decide (ky e x < 0)) = B := List.filter_eq_self.2 fun x hx => decide_eq_true (hB x hx)
  have h3 : [e].filter (fun x => decide (ky e x < 0)) = [] := by simp [ky_self]
  rw [List.filter_append, List.filter_append, h1, h2, h3]
  simp
theorem st_again (L : En.Ls) (e : En1) : stL (stL L e) e = stL L e := by
  have hA : ∀ x ∈ L.filter (fun x => decide (ky x e < 0)), ky x e < 0 := fun x hx => by simpa using (List.mem_filter.1 hx).2
  have hB : ∀ x ∈ L.filter (fun x => decide (ky e x < 0)), ky e x < 0 := fun x hx => by simpa using (List.mem_filter.1 hx).2
  show (stL L e).filter _ ++ [e] ++ (stL L e).filter _ = stL L e
  unfold stL
  rw [parts_ahead hA hB, parts_behind hA hB]
/-- an entry that is ahead of all of a list is stored at its front -/
theorem st_front {C : En.Ls} {e : En1} (h : ∀ x ∈ C, ky e x < 0) : stL C e = e :: C := by
  have h1 : C.filter (fun x => decide (ky x e < 0)) = [] := List.filter_eq_nil_iff.2 fun x hx => by
    have := h x hx
    have := ky_cmp.anti e x
    simp; omega
  have h2 : C.filter (fun x => decide (ky e x < 0)) = C := List.filter_eq_self.2 fun x hx => decide_eq_true (h x hx)
  unfold stL
  rw [h1, h2]
  simp
end Go.Proofs.Ytfnkcoppdelmjaa.Ky
