/- The fall of Temp by the fall of Press, plain; and at one place, in the program. -/
import Derived.Test.YtjnjpbbpphklhaaAscL
namespace Go.Proofs.Ytjnjpbbpphklhaa.Flt
open Go.ChangeShapes Go.WideShapes Go.ChangeAt Go.RowKit
attribute [local go_sem] run_store_float

theorem sub_some (x y : Nat) (hx : rng x < 9218868437227405312) (hy : rng y < 9218868437227405312) : ∃ r, floatBits .sub .f64 x y = some r ∧ rng r ≤ 9218868437227405312 := by
  obtain ⟨m, a, e, _⟩ := read_fin x hx
  obtain ⟨n, b, e', _⟩ := read_fin y hy
  show ∃ r, Ieee.double.sub x y = some r ∧ _
  unfold Ieee.Format.sub
  rw [e, e']
  exact ⟨_, rfl, (nearest_rng _ _ _).1⟩
theorem counts12 : ((List.range 12001).all fun c => c == 0 || (decide (0 < rng (floatOfInt .f64 (c : Int))) && decide (rng (floatOfInt .f64 (c : Int)) < 9218868437227405312))) = true := by decide +kernel
theorem fi_pos (c : Int) (h0 : 0 < c) (h1 : c ≤ 12000) : 0 < rng (fi c) ∧ rng (fi c) < 9218868437227405312 := by
  have := List.all_eq_true.1 counts12 c.toNat (List.mem_range.2 (by omega))
  simp at this
  have e : ((c.toNat : Nat) : Int) = c := by omega
  unfold fi
  rcases this with h | h
  · omega
  · have e2 : max c 0 = c := by omega
    rw [e2] at h
    exact h

def fall (L : Lv) (i : Nat) : Nat := opF .sub (tOf L i) (tOf L (i + 1))
def lapse (L : Lv) (i : Nat) : Nat := opF .quo (fall L i) (fi (pOf L i - pOf L (i + 1)))

theorem okAt_kn {L : Lv} {i : Nat} (h : okAt L i = true) : rng (tOf L i) < 9218868437227405312 := by
  cases hk : kn (tOf L i)
  · have := okF_unknown hk
    unfold okAt at h
    rw [this] at h
    simp at h
  · exact kn_lt hk
theorem ok_fall {L : Lv} {i : Nat} (h : ∀ j, j < L.length → okAt L j = true) (hi : i + 1 < L.length) : 1 ≤ pOf L (i + 1) ∧ pOf L (i + 1) < pOf L i ∧ pOf L i ≤ 12000 := by
  have f := okP_fit h
  have h1 := f i (by omega)
  have h2 := f (i + 1) hi
  have := h (i + 1) hi
  unfold okAt okP inB at this
  simp at this
  omega
theorem fall_run {L : Lv} {i : Nat} (h : ∀ j, j < L.length → okAt L j = true) (hi : i + 1 < L.length) : floatBits .sub .f64 (tOf L i) (tOf L (i + 1)) = some (fall L i) ∧ rng (fall L i) ≤ 9218868437227405312 := by
  obtain ⟨r, h1, h2⟩ := sub_some _ _ (okAt_kn (h i (by omega))) (okAt_kn (h (i + 1) hi))
  have e : fall L i = r := by unfold fall opF; rw [h1]; rfl
  rw [e]
  exact ⟨h1, h2⟩
theorem lapse_run {L : Lv} {i : Nat} (h : ∀ j, j < L.length → okAt L j = true) (hi : i + 1 < L.length) : floatBits .quo .f64 (fall L i) (fi (pOf L i - pOf L (i + 1))) = some (lapse L i) := by
  obtain ⟨h1, h2, h3⟩ := ok_fall h hi
  obtain ⟨f0, f1⟩ := fi_pos (pOf L i - pOf L (i + 1)) (by omega) (by omega)
  obtain ⟨r, e1, _⟩ := div_some (fall L i) _ (fall_run h hi).2 f0 f1
  have e1 : floatBits .quo .f64 (fall L i) (fi (pOf L i - pOf L (i + 1))) = some r := e1
  have e : lapse L i = r := by unfold lapse opF; rw [e1]; rfl
  rw [e]
  exact e1

/-- The place and the greatest of the first k + 1 quotients. -/
def best (L : Lv) : Nat → Nat × Nat
  | 0 => (0, lapse L 0)
  | k + 1 => if ord (lapse L (k + 1)) (best L k).2 == some .gt then (k + 1, lapse L (k + 1)) else best L k
theorem best_le (L : Lv) (k : Nat) : (best L k).1 ≤ k := by
  induction k with
  | zero => exact Nat.le_refl _
  | succ n ih =>
    unfold best
    split
    · exact Nat.le_refl _
    · omega
theorem ord_self (x : Nat) : (ord x x == some .gt) = false := by
  by_cases h : 9218868437227405312 < rng x
  · rw [show ord x x = none from order_nan x x (.inl h)]; rfl
  · rw [ord_key x x (by omega) (by omega), c_eq rfl]; rfl

end Go.Proofs.Ytjnjpbbpphklhaa.Flt
