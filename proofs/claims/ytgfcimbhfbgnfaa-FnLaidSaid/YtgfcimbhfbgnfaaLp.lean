/- One sky laid over another, plainly: what the law asks. -/
import Derived.Test.YtgfcimbhfbgnfaaDr
namespace Go.Proofs.Ytgfcimbhfbgnfaa.Sk
open Go.ChangeShapes Go.WideShapes Go.ChangeAt Go.RowKit
open Go.Proofs.Ytgfcimbhfbgnfaa.Al

def non : Sky := (-1, 0, -1, E, E, 0)
def smS (a b : Sky) : Bool := sm a.1 a.2.1 a.2.2.1 a.2.2.2.1 a.2.2.2.2.1 a.2.2.2.2.2 b.1 b.2.1 b.2.2.1 b.2.2.2.1 b.2.2.2.2.1 b.2.2.2.2.2
theorem hE : E.toList = [] := by simp
theorem smS_self (a : Sky) : smS a a = true := by
  obtain ⟨d, p, v, W, C, b⟩ := a
  simp [smS, sm]
theorem ok_non : okk non = true := by
  simp [okk, non, ok, wnd, inn, wth, cld]
theorem ok_lay (x y : Sky) (hx : okk x = true) (hy : okk y = true) : okk (lay x y) = true := by
  obtain ⟨d, p, v, W, C, b⟩ := x
  obtain ⟨d2, p2, v2, W2, C2, b2⟩ := y
  simp only [okk, ok, Bool.and_eq_true] at hx hy ⊢
  obtain ⟨a1, a2, a3, a4⟩ := hx
  obtain ⟨c1, c2, c3, c4⟩ := hy
  unfold lay pkI pkS
  refine ⟨?_, ?_, ?_, ?_⟩
  · cases h : (d2 == -1)
    · exact c1
    · exact a1
  · cases h : (v2 == -1)
    · exact c2
    · exact a2
  · cases h : (W2.toList == [])
    · exact c3
    · exact a3
  · cases h : (C2.toList == [])
    · exact c4
    · exact a4
theorem lay_again (x y : Sky) : smS (lay (lay x y) y) (lay x y) = true := by
  obtain ⟨d, p, v, W, C, b⟩ := x
  obtain ⟨d2, p2, v2, W2, C2, b2⟩ := y
  unfold smS sm lay pkI pkS
  dsimp only
  cases (d2 == -1) <;> cases (v2 == -1) <;> cases (W2.toList == []) <;> cases (C2.toList == []) <;> simp
theorem lay_non (x : Sky) : lay x non = x := by
  obtain ⟨d, p, v, W, C, b⟩ := x
  simp [lay, non, pkI, pkS]
theorem non_lay (x : Sky) (h : okk x = true) : smS (lay non x) x = true := by
  obtain ⟨d, p, v, W, C, b⟩ := x
  simp only [okk, ok, Bool.and_eq_true] at h
  obtain ⟨a1, a2, a3, a4⟩ := h
  have q1 : d = -1 → p = 0 := fun e => by
    subst e
    simpa [wnd] using a1
  have q2 : C.toList = [] → b = 0 := fun e => by
    simpa [cld, e] using a4
  unfold smS sm lay pkI pkS non
  dsimp only
  by_cases h1 : d = -1 <;> by_cases h2 : v = -1 <;> by_cases h3 : W.toList = [] <;> by_cases h4 : C.toList = [] <;> simp_all
theorem lay_full (y x : Sky) (h1 : (x.1 == -1) = false) (h2 : (x.2.2.1 == -1) = false) (h3 : (x.2.2.2.1.toList == []) = false) (h4 : (x.2.2.2.2.1.toList == []) = false) : lay y x = x := by
  obtain ⟨d, p, v, W, C, b⟩ := x
  obtain ⟨d2, p2, v2, W2, C2, b2⟩ := y
  dsimp only at h1 h2 h3 h4
  unfold lay pkI pkS
  dsimp only
  rw [h1, h2, h3, h4]
  rfl
end Go.Proofs.Ytgfcimbhfbgnfaa.Sk
