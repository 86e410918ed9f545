/- A book of water keeps what rained, plain. -/
import Derived.Test.YtjhoagbcfpbelaaFsJ
namespace Go.Proofs.Ytjhoagbcfpbelaa.Wp
open Go.Proofs.Ytjhoagbcfpbelaa.Fs

theorem sum_set (L : List Int) (j : Nat) (x : Int) (h : j < L.length) : (L.set j x).sum = L.sum - L.getD j 0 + x := by
  induction L generalizing j with
  | nil => simp at h
  | cons a L ih =>
    cases j with
    | zero => simp; omega
    | succ j =>
      have := ih j (by simpa using h)
      simp only [List.set_cons_succ, List.sum_cons, List.getD_cons_succ]
      omega
theorem up_sum (L : List Int) (j : Nat) (x : Int) (h : j < L.length) : (up L j x).sum = L.sum + x := by
  unfold up
  rw [sum_set L j _ h]
  omega
theorem sm_all (L : List Int) : sm L L.length = L.sum := by unfold sm; simp
/-- what lies and what has flowed out is what lay and what fell -/
theorem keeps (N W R : List Int) (out : Int) (h0 : 0 ≤ out) (lW : W.length = N.length) (lR : R.length = N.length) (hv : ∀ c, c < N.length → -1 ≤ N.getD c 0 ∧ N.getD c 0 < N.length) (hW : ∀ i, i < N.length → 0 ≤ W.getD i 0 ∧ W.getD i 0 ≤ 1000000000000) (hR : ∀ i, i < N.length → 0 ≤ R.getD i 0 ∧ R.getD i 0 ≤ 1000000000000) : ∀ k, k ≤ N.length →
    (pfl N W R out k).1.sum + (pfl N W R out k).2 = out + sm W k + sm R k
  | 0, _ => by
    have e : (pfl N W R out 0) = (List.replicate N.length 0, out) := rfl
    rw [e]
    have z : (List.replicate N.length (0 : Int)).sum = 0 := by
      induction N.length with
      | zero => rfl
      | succ n ih => rw [List.replicate_succ, List.sum_cons, ih]; rfl
    simp only [sm, List.take_zero, List.sum_nil]
    rw [z]
    omega
  | k + 1, hk => by
    have ih := keeps N W R out h0 lW lR hv hW hR k (by omega)
    have l1 := (pfl_bd N W R out h0 hW hR k (by omega)).1
    have v := hv k (by omega)
    rw [pfl_succ, sm_succ W k (by omega), sm_succ R k (by omega)]
    generalize pfl N W R out k = P at *
    unfold pst hf hs
    by_cases e : N.getD k 0 = -1
    · rw [if_pos e]
      simp only
      rw [up_sum _ _ _ (by omega)]
      omega
    · rw [if_neg e]
      simp only
      rw [up_sum _ _ _ (by rw [up_len]; omega), up_sum _ _ _ (by omega)]
      omega
/-- a right book -/
structure Bk (N W : List Int) (o z : Int) : Prop where
  ok : Ct.okN N = true
  lw : W.length = N.length
  nn : ∀ i, i < N.length → 0 ≤ W.getD i 0
  o0 : 0 ≤ o
  s : W.sum + o = z
  z1 : z ≤ 1000000000000
theorem sum_ge (L : List Int) (h : ∀ i, i < L.length → 0 ≤ L.getD i 0) : 0 ≤ L.sum ∧ ∀ i, i < L.length → L.getD i 0 ≤ L.sum := by
  induction L with
  | nil => exact ⟨Int.le_refl _, fun i hi => by simp at hi⟩
  | cons a L ih =>
    have h0 := h 0 (by simp)
    obtain ⟨i1, i2⟩ := ih fun i hi => by have := h (i + 1) (by simpa using hi); simpa using this
    simp only [List.getD_cons_zero] at h0
    rw [List.sum_cons]
    refine ⟨by omega, fun i hi => ?_⟩
    cases i with
    | zero => simp only [List.getD_cons_zero]; omega
    | succ i => have := i2 i (by simpa using hi); simp only [List.getD_cons_succ]; omega
theorem ok_val {N : List Int} (h : Ct.okN N = true) : ∀ c, c < N.length → -1 ≤ N.getD c 0 ∧ N.getD c 0 < N.length := fun c hc => ((Ct.ok_iff N).1 h).2.1 c hc
theorem wat_nn {L : List Int} (h : wat L = true) : ∀ i, i < L.length → 0 ≤ L.getD i 0 ∧ L.getD i 0 ≤ 1000000000000 := (wat_iff L).1 h
/-- what a granted step leaves -/
theorem Ok.next {N W R : List Int} {o z : Int} (h : Ok N W R o z) : Bk N (pfl N W R o N.length).1 (pfl N W R o N.length).2 (z + sm R R.length) ∧ o ≤ (pfl N W R o N.length).2 := by
  have w1 := wat_nn h.ww
  have r1 := wat_nn h.wr
  rw [h.lw] at w1
  rw [h.lr] at r1
  have v := ok_val h.ok
  have b := pfl_bd N W R o h.h1.1 w1 r1 N.length (Nat.le_refl _)
  have k := keeps N W R o h.h1.1 h.lw h.lr v w1 r1 N.length (Nat.le_refl _)
  have h3 := h.h3
  have h2 := h.h2
  rw [h.lw] at h3
  rw [h.lr] at h2 ⊢
  refine ⟨⟨h.ok, b.1, fun i hi => (b.2.2.2 i hi).1, by have := h.h1.1; omega, by omega, by omega⟩, b.2.1⟩
def dry (n : Nat) : List Int := List.replicate n 0
theorem dry_get (n i : Nat) : (dry n).getD i 0 = 0 := by
  unfold dry
  rw [List.getD_eq_getElem?_getD]
  by_cases h : i < n
  · simp [h]
  · simp [h]
theorem dry_sm (n : Nat) : sm (dry n) (dry n).length = 0 := by
  rw [sm_all]
  unfold dry
  induction n with
  | zero => rfl
  | succ n ih => rw [List.replicate_succ, List.sum_cons, ih]; rfl
/-- a right book takes a dry step -/
theorem Bk.ok' {N W : List Int} {o z : Int} (h : Bk N W o z) : Ok N W (dry N.length) o z := by
  have g := sum_ge W (by rw [h.lw]; exact h.nn)
  have s := h.s
  have z1 := h.z1
  have o0 := h.o0
  refine ⟨h.ok, h.lw, by simp [dry], (wat_iff W).2 fun i hi => ⟨h.nn i (by rw [← h.lw]; exact hi), by have := g.2 i hi; omega⟩, (wat_iff _).2 fun i _ => by rw [dry_get]; omega, ⟨o0, by omega⟩, ?_, by rw [sm_all]; exact s⟩
  rw [dry_sm]
  omega
end Go.Proofs.Ytjhoagbcfpbelaa.Wp
