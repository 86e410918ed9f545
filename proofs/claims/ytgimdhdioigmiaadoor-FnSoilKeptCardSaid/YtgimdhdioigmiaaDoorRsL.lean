/- A soil read back of its own text. -/
import Derived.Test.YtgimdhdioigmiaaDoorRsI
namespace Go.Proofs.YtgimdhdioigmiaaDoor.Rs
open Go.ChangeShapes Go.WideShapes Go.ChangeAt Go.RowKit
open Go.Proofs.YtgimdhdioigmiaaDoor.So Go.Proofs.YtgimdhdioigmiaaDoor.Dec Go.Proofs.YtgimdhdioigmiaaDoor.Head Go.Proofs.YtgimdhdioigmiaaDoor.Fig

theorem good_dd {x : Int} (h0 : 0 ≤ x) (h1 : x ≤ 1000000000000) : good ⟨(dd x).toArray⟩ = true ∧ vl ⟨(dd x).toArray⟩ = x := by
  have e : (⟨(dd x).toArray⟩ : ByteArray).data.toList = dd x := by simp
  unfold good vl
  rw [e, parse_dd h0 h1]
  exact ⟨rfl, rfl⟩
/-- What a right soil says is read back. -/
theorem iback (a b c d f : Int) (w : World) (hT : Tb3 w) (h : okB a b c d f = true) : Calls Tryd.prog 8 #[.string ⟨(tx a b c d f).toArray⟩] w fun e w' => e = .returned (.tuple #[sv a b c d f, .bool true]) ∧ Below w.heap.size w w' := by
  have ht : Tells ⟨(tx a b c d f).toArray⟩ a b c d f := ⟨h, by simp⟩
  obtain ⟨r1, r2, r3, r4, r5, _⟩ := okB_parts h
  have g0 := good_dd (x := a) (by omega) (by omega)
  have g1 := good_dd (x := b) (by omega) (by omega)
  have g2 := good_dd (x := c) (by omega) (by omega)
  have g3 := good_dd (x := d) (by omega) (by omega)
  have g4 := good_dd (x := f) (by omega) (by omega)
  obtain ⟨P, hP⟩ : ∃ P : Nat → ByteArray, P = fun j => [(⟨(dd a).toArray⟩ : ByteArray), ⟨(dd b).toArray⟩, ⟨(dd c).toArray⟩, ⟨(dd d).toArray⟩, ⟨(dd f).toArray⟩].getD j ⟨#[]⟩ := ⟨_, rfl⟩
  have e0 : P 0 = ⟨(dd a).toArray⟩ := by rw [hP]; rfl
  have e1 : P 1 = ⟨(dd b).toArray⟩ := by rw [hP]; rfl
  have e2 : P 2 = ⟨(dd c).toArray⟩ := by rw [hP]; rfl
  have e3 : P 3 = ⟨(dd d).toArray⟩ := by rw [hP]; rfl
  have e4 : P 4 = ⟨(dd f).toArray⟩ := by rw [hP]; rfl
  refine iread_five _ P w hT (by have := ht.size; omega) (by rw [e0, e1, e2, e3, e4]; exact ht.pcs) a b c d f true (.inl ?_)
  rw [e0, e1, e2, e3, e4, g0.2, g1.2, g2.2, g3.2, g4.2]
  refine ⟨fun j hj => ?_, ?_, rfl, rfl, rfl, rfl, rfl, rfl⟩
  · have : j = 0 ∨ j = 1 ∨ j = 2 ∨ j = 3 ∨ j = 4 := by omega
    rcases this with rfl | rfl | rfl | rfl | rfl
    · rw [e0]; exact g0.1
    · rw [e1]; exact g1.1
    · rw [e2]; exact g2.1
    · rw [e3]; exact g3.1
    · rw [e4]; exact g4.1
  · unfold txt
    rw [if_pos h]
end Go.Proofs.YtgimdhdioigmiaaDoor.Rs
