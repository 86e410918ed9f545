/- stepOk of the program: what it says. -/
import Derived.Test.YtjhoagbcfpbelaaFsC
namespace Go.Proofs.Ytjhoagbcfpbelaa.Fs
open Go.ChangeShapes Go.WideShapes Go.ChangeAt Go.RowKit
/-- a step may be made -/
def stp (N W : List Int) (z1 z2 : Int) (R : List Int) : Bool :=
  Ct.okN N && (decide (W.length = N.length) && (decide (R.length = N.length) && (wat W && (wat R && (Ct.inn z1 0 1000000000000 && (Ct.inn z2 0 (1000000000000 - sm R R.length) && decide (sm W W.length + z1 = z2)))))))
theorem sm_all (L : List Int) (hl : L.length ≤ 1048576) (h : wat L = true) : 0 ≤ sm L L.length ∧ sm L L.length ≤ 1048576000000000000 := by
  have := sm_bd L ((wat_iff L).1 h) L.length (Nat.le_refl _)
  omega
theorem istep_any (N W R : List Int) (z1 z2 : Int) (vN vW vR : Value) (w : World) (hN : Lists.Reads w vN N) (hW : Lists.Reads w vW W) (hR : Lists.Reads w vR R) (ln : N.length < 9223372036854775808) (lw : W.length < 9223372036854775808) (lr : R.length < 9223372036854775808) :
    Calls Try.prog 17 #[vN, .agg #[vW, .int .i64 z1, .int .i64 z2], vR] w fun e w' => e = .returned (.bool (stp N W z1 z2 R)) ∧ Below w.heap.size w w' := by
  have CC : Calls Try.prog 24 #[vN] (w.alloc (.cells #[vW, .int .i64 z1, .int .i64 z2] 26)) fun e w' => (∃ u, e = .returned (.tuple #[u, .bool (Ct.okN N)])) ∧ Below (w.alloc (.cells #[vW, .int .i64 z1, .int .i64 z2] 26)).heap.size (w.alloc (.cells #[vW, .int .i64 z1, .int .i64 z2] 26)) w' :=
    (Ct.icatch_any N (by omega) _ vN (hN.on ((Below.refl _ _).alloc (Nat.le_refl _) _))).mono fun e w' ⟨u, he, _, hb⟩ => ⟨⟨u, he⟩, hb⟩
  have A1 : ∀ X, Below w.heap.size w X → Calls Try.prog 25 #[vW, .int .i64 0, .int .i64 1000000000000] X fun e w' => e = .returned (.bool (wat W)) ∧ w' = X := fun X hb => by
    have := Ct.iall_any W 0 1000000000000 vW X (hW.on hb) (by omega)
    rw [wat_all] at this
    exact this
  have A2 : ∀ X, Below w.heap.size w X → Calls Try.prog 25 #[vR, .int .i64 0, .int .i64 1000000000000] X fun e w' => e = .returned (.bool (wat R)) ∧ w' = X := fun X hb => by
    have := Ct.iall_any R 0 1000000000000 vR X (hR.on hb) (by omega)
    rw [wat_all] at this
    exact this
  have T1 : W.length ≤ 1048576 → wat W = true → ∀ X, Below w.heap.size w X → Calls Try.prog 18 #[vW] X fun e w' => e = .returned (.int .i64 (sm W W.length)) ∧ w' = X := fun lw h X hb => itotal_any W vW X (hW.on hb) lw h
  have T2 : R.length ≤ 1048576 → wat R = true → ∀ X, Below w.heap.size w X → Calls Try.prog 18 #[vR] X fun e w' => e = .returned (.int .i64 (sm R R.length)) ∧ w' = X := fun lr h X hb => itotal_any R vR X (hR.on hb) lr h
  obtain ⟨na, nc, e1⟩ := hN.form
  obtain ⟨wa, wc, e2⟩ := hW.form
  obtain ⟨ra, rc, e3⟩ := hR.form
  subst e1 e2 e3
  by_cases h : Ct.okN N = true ∧ W.length = N.length ∧ R.length = N.length
  · obtain ⟨h1, h2, h3⟩ := h
    have n5 := ((Ct.ok_iff N).1 h1).1
    have lw : W.length ≤ 1048576 := by omega
    have lr : R.length ≤ 1048576 := by omega
    have e : stp N W z1 z2 R = (wat W && (wat R && (Ct.inn z1 0 1000000000000 && (Ct.inn z2 0 (1000000000000 - sm R R.length) && decide (sm W W.length + z1 = z2))))) := by
      unfold stp
      rw [h1, decide_eq_true h2, decide_eq_true h3]
      rfl
    rw [e]
    exact stepOk_yes na wa ra N.length nc W.length wc R.length rc z1 z2 (sm W W.length) (sm R R.length) _ _ _ _ _ w CC A1 A2 (fun X _ => Ct.i_in z1 0 1000000000000 X) (fun X _ => Ct.i_in z2 0 (1000000000000 - sm R R.length) X) (T1 lw) (T2 lr)
      (fun hq => IntWalk.i64_in _ (by have := sm_all R lr hq; omega))
      (fun hq h3 => IntWalk.i64_in _ (by
        have := sm_all W lw hq
        have h4 : 0 ≤ z1 ∧ z1 ≤ 1000000000000 := by simpa [Ct.inn] using h3
        omega)) h2 h3 h1
  · have e : stp N W z1 z2 R = false := by
      unfold stp
      cases hp : Ct.okN N
      · rfl
      · by_cases h2 : W.length = N.length
        · have h3 : ¬ R.length = N.length := fun h3 => h ⟨hp, h2, h3⟩
          rw [decide_eq_true h2, decide_eq_false h3]
          rfl
        · rw [decide_eq_false h2]
          rfl
    rw [e]
    refine stepOk_no na wa ra N.length nc W.length wc R.length rc z1 z2 _ w CC ?_
    cases hp : Ct.okN N
    · exact .inl rfl
    · by_cases h2 : W.length = N.length
      · exact .inr (.inr fun h3 => h ⟨hp, h2, h3⟩)
      · exact .inr (.inl h2)
end Go.Proofs.Ytjhoagbcfpbelaa.Fs
