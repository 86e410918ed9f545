/- What is picked by an entry's own key; by nothing. -/
import Derived.Test.YtfnkcoppdelmjaaPn
import Derived.Test.YtfnkcoppdelmjaaPk
namespace Go.Proofs.Ytfnkcoppdelmjaa.Ix
open Go.ChangeShapes Go.WideShapes Go.ChangeAt Go.RowKit
open Al Eo Ky
theorem pick_all (L : En.Ls) : pick L ([], [], [], []) = L := List.filter_eq_self.2 fun x _ => by simp [asks, askS, askI]
theorem asks_own (e x : En1) : asks ([e.1], [e.2.1], [e.2.2.1], [e.2.2.2.1]) x = (x.1.toList == e.1.toList && (x.2.1 == e.2.1 && (x.2.2.1 == e.2.2.1 && x.2.2.2.1 == e.2.2.2.1))) := by
  simp [asks, askS, askI, hasS, hasI]
theorem own_ky {e x : En1} (h : asks ([e.1], [e.2.1], [e.2.2.1], [e.2.2.2.1]) x = true) : ky x e = 0 := by
  rw [asks_own] at h
  simp only [Bool.and_eq_true, beq_iff_eq] at h
  obtain ⟨h1, h2, h3, h4⟩ := h
  have a1 : sc x.1 e.1 = 0 := by
    rw [sc_eq, h1]
    simp [List.lt_irrefl]
  have a2 : ic x.2.1 e.2.1 = 0 := by unfold ic; rw [h2]; simp
  have a3 : ic x.2.2.1 e.2.2.1 = 0 := by unfold ic; rw [h3]; simp
  have a4 : ic x.2.2.2.1 e.2.2.2.1 = 0 := by unfold ic; rw [h4]; simp
  rw [ky_fz, a1, a2, a3, a4]
  rfl
theorem pick_own (L : En.Ls) (e : En1) : pick (stL L e) ([e.1], [e.2.1], [e.2.2.1], [e.2.2.2.1]) = [e] := by
  unfold pick stL
  have h1 : (L.filter (fun x => decide (ky x e < 0))).filter (asks ([e.1], [e.2.1], [e.2.2.1], [e.2.2.2.1])) = [] := List.filter_eq_nil_iff.2 fun x hx ha => by
    have h2 := (List.mem_filter.1 hx).2
    have h3 := own_ky ha
    simp at h2
    omega
  have h2 : (L.filter (fun x => decide (ky e x < 0))).filter (asks ([e.1], [e.2.1], [e.2.2.1], [e.2.2.2.1])) = [] := List.filter_eq_nil_iff.2 fun x hx ha => by
    have h2 := (List.mem_filter.1 hx).2
    have h3 := own_ky ha
    have h4 := ky_cmp.anti e x
    simp at h2
    omega
  have h3 : [e].filter (asks ([e.1], [e.2.1], [e.2.2.1], [e.2.2.2.1])) = [e] := by
    have : asks ([e.1], [e.2.1], [e.2.2.1], [e.2.2.2.1]) e = true := by rw [asks_own]; simp
    simp [this]
  rw [List.filter_append, List.filter_append, h1, h2, h3]
  rfl
end Go.Proofs.Ytfnkcoppdelmjaa.Ix
