/- Levels picked by places that rise are an ascent again. -/
import Derived.Test.YtjnjpbbpphklhaaRdK
import Derived.Test.YtjnjpbbpphklhaaSgP
import Derived.Test.YtjnjpbbpphklhaaSgG
import Derived.Test.YtjnjpbbpphklhaaRb
namespace Go.Proofs.Ytjnjpbbpphklhaa.Rd
open Go.ChangeShapes Go.WideShapes Go.ChangeAt Go.RowKit
open Flt

theorem press_step {L : Lv} {k : Nat} (h : okAt L k = true) (h0 : k ≠ 0) : pOf L k < pOf L (k - 1) := by
  by_cases c : pOf L k < pOf L (k - 1)
  · exact c
  · rw [okAt_up h0 (by omega)] at h; cases h
theorem press_fall {L : Lv} (h : ∀ q, q < L.length → okAt L q = true) : ∀ (d i : Nat), i + d + 1 < L.length → pOf L (i + d + 1) < pOf L i := by
  intro d
  induction d with
  | zero => intro i hi; have := press_step (h (i + 1) hi) (by omega); simpa using this
  | succ d ih =>
    intro i hi
    have a := ih i (by omega)
    have b := press_step (h (i + d + 1 + 1) (by omega)) (by omega)
    have e : i + d + 1 + 1 - 1 = i + d + 1 := by omega
    rw [e] at b
    have e2 : i + (d + 1) + 1 = i + d + 1 + 1 := by omega
    rw [e2]
    omega
theorem press_lt {L : Lv} (h : ∀ q, q < L.length → okAt L q = true) {i j : Nat} (hij : i < j) (hj : j < L.length) : pOf L j < pOf L i := by
  obtain ⟨d, rfl⟩ : ∃ d, j = i + d + 1 := ⟨j - i - 1, by omega⟩
  exact press_fall h d i hj
theorem pick_p (L : Lv) (A : List Int) (k : Nat) (h : k < A.length) : pOf (pick L A) k = pOf L (A.getD k 0).toNat ∧ tOf (pick L A) k = tOf L (A.getD k 0).toNat := by
  simp [pOf, tOf, pick, List.getD_eq_getElem?_getD, h]
/-- The places that are chosen: the first is 0, the last is the last, each lies among the levels. -/
theorem Ch.last {L : Lv} {tol : Nat} : ∀ {l : List Int} {a z : Int}, Ch (Nx L tol) a (l ++ [z]) → ∀ k, k < (l ++ [z]).length → a < (l ++ [z]).getD k 0 ∧ (l ++ [z]).getD k 0 ≤ z := by
  intro l
  induction l with
  | nil =>
    intro a z h k hk
    have : k = 0 := by simpa using hk
    subst this
    exact ⟨h.1.2.1, Int.le_refl _⟩
  | cons b l ih =>
    intro a z h k hk
    have i0 := fun k hk => ih h.2 k hk
    cases k with
    | zero =>
      have e := i0 l.length (by simp)
      have e2 : (l ++ [z]).getD l.length 0 = z := by simp
      rw [e2] at e
      exact ⟨h.1.2.1, by show b ≤ z; omega⟩
    | succ k =>
      have e := i0 k (by simpa using hk)
      have := h.1.2.1
      refine ⟨?_, e.2⟩
      show a < (l ++ [z]).getD k 0
      omega
theorem okAt_parts {L : Lv} {k : Nat} (h : okAt L k = true) : okF (tOf L k) = true := by
  unfold okAt at h
  cases hf : okF (tOf L k)
  · rw [hf] at h; simp at h
  · rfl
theorem pick_lok {L : Lv} {tol : Nat} (hk : lok L = true) {l : List Int} (hc : Ch (Nx L tol) 0 (l ++ [((L.length - 1 : Nat) : Int)])) (hl : l.length ≤ L.length - 2) : lok (pick L (0 :: (l ++ [((L.length - 1 : Nat) : Int)]))) = true := by
  obtain ⟨l2, l4, hok⟩ := lok_size hk
  have hA : (0 :: (l ++ [((L.length - 1 : Nat) : Int)])).length = l.length + 2 := by simp
  have hin : ∀ k, k < l.length + 2 → ((0 :: (l ++ [((L.length - 1 : Nat) : Int)])).getD k 0).toNat < L.length ∧ 0 ≤ (0 :: (l ++ [((L.length - 1 : Nat) : Int)])).getD k 0 := by
    intro k hk
    cases k with
    | zero => exact ⟨by show (0 : Int).toNat < _; simp; omega, Int.le_refl _⟩
    | succ k =>
      have := Ch.last hc k (by simp; omega)
      show ((l ++ [((L.length - 1 : Nat) : Int)]).getD k 0).toNat < _ ∧ _ ≤ (l ++ [((L.length - 1 : Nat) : Int)]).getD k 0
      omega
  refine lok_yes (by rw [pick_len, hA]; omega) (by rw [pick_len, hA]; omega) fun k hk => ?_
  rw [pick_len, hA] at hk
  obtain ⟨e1, e2⟩ := pick_p L (0 :: (l ++ [((L.length - 1 : Nat) : Int)])) k (by rw [hA]; exact hk)
  have h1 := hin k hk
  have fit := okP_fit (k := L.length) hok _ h1.1
  refine okAt_yes ?_ ?_ ?_
  · rw [e1]
    generalize pOf L ((0 :: (l ++ [((L.length - 1 : Nat) : Int)])).getD k 0).toNat = z at fit ⊢
    unfold inB; simp; omega
  · by_cases c : k = 0
    · exact .inl c
    · right
      obtain ⟨q, rfl⟩ : ∃ q, k = q + 1 := ⟨k - 1, by omega⟩
      obtain ⟨f1, _⟩ := pick_p L (0 :: (l ++ [((L.length - 1 : Nat) : Int)])) q (by rw [hA]; omega)
      show pOf _ (q + 1) < pOf _ q
      rw [e1, f1]
      have nx := Ch.at hc q (by simp; omega)
      have h0 := hin q (by omega)
      exact press_lt hok (by have := nx.2.1; omega) h1.1
  · rw [e2]
    exact okAt_parts (hok _ h1.1)
/-- What is rebuilt at a level's Press. -/
theorem rebF_first {F : Lv} {p : Int} : ∀ (d k : Nat), (∀ q, k ≤ q → q < k + d → hit F p q = false) → hit F p (k + d) = true → ∀ f, d < f → rebF F p f k = bet (pOf F (k + d)) (tOf F (k + d)) (pOf F (k + d + 1)) (tOf F (k + d + 1)) p := by
  intro d
  induction d with
  | zero =>
    intro k _ h f hf
    obtain ⟨f, rfl⟩ : ∃ g, f = g + 1 := ⟨f - 1, by omega⟩
    unfold rebF
    rw [if_pos (show hit F p k = true from h)]
    rfl
  | succ d ih =>
    intro k h1 h2 f hf
    obtain ⟨f, rfl⟩ : ∃ g, f = g + 1 := ⟨f - 1, by omega⟩
    have h0 := h1 k (Nat.le_refl _) (by omega)
    unfold rebF
    rw [h0, if_neg (by simp)]
    have := ih (k + 1) (fun q a b => h1 q (by omega) (by omega)) (by rw [show k + 1 + d = k + (d + 1) by omega]; exact h2) f (by omega)
    rw [this, show k + 1 + d = k + (d + 1) by omega]
/-- The two places around another: the first of such. -/
theorem around {i z : Int} : ∀ (l : List Int) (a : Int), a ≤ i → i ≤ z → ∃ q, q < (l ++ [z]).length ∧ (∀ k, k < q → (a :: (l ++ [z])).getD (k + 1) 0 < i) ∧ (a :: (l ++ [z])).getD q 0 ≤ i ∧ i ≤ (a :: (l ++ [z])).getD (q + 1) 0 := by
  intro l
  induction l with
  | nil => intro a h1 h2; exact ⟨0, by simp, fun k hk => by omega, h1, h2⟩
  | cons b l ih =>
    intro a h1 h2
    by_cases c : i ≤ b
    · exact ⟨0, by simp, fun k hk => by omega, h1, c⟩
    · obtain ⟨q, g1, g2, g3, g4⟩ := ih b (by omega) h2
      refine ⟨q + 1, by simpa using g1, fun k hk => ?_, g3, g4⟩
      cases k with
      | zero => show b < i; omega
      | succ k => exact g2 k (by omega)
theorem rebuilt {L : Lv} {tol : Nat} (hk : lok L = true) {l : List Int} (hc : Ch (Nx L tol) 0 (l ++ [((L.length - 1 : Nat) : Int)])) (i : Nat) (hi : i < L.length) :
    ∃ a b : Nat, a ≤ i ∧ i ≤ b ∧ a < b ∧ b < L.length ∧ Nx L tol a b ∧ rebF (pick L (0 :: (l ++ [((L.length - 1 : Nat) : Int)]))) (pOf L i) (l.length + 1) 0 = bet (pOf L a) (tOf L a) (pOf L b) (tOf L b) (pOf L i) := by
  obtain ⟨l2, l4, hok⟩ := lok_size hk
  obtain ⟨q, g1, g2, g3, g4⟩ := around (i := (i : Int)) (z := ((L.length - 1 : Nat) : Int)) l 0 (by omega) (by omega)
  generalize hAe : (0 :: (l ++ [((L.length - 1 : Nat) : Int)])) = A at *
  have hA : A.length = l.length + 2 := by rw [← hAe]; simp
  have hq : q < l.length + 1 := by simpa using g1
  have nx : ∀ k, k < l.length + 1 → Nx L tol (A.getD k 0) (A.getD (k + 1) 0) := fun k hk => by
    have := Ch.at hc k (by simpa using hk)
    rw [hAe] at this
    exact this
  have top : ∀ k, k < l.length + 1 → A.getD (k + 1) 0 ≤ ((L.length - 1 : Nat) : Int) := fun k hk => by
    have := (Ch.last hc k (by simpa using hk)).2
    rw [← hAe]
    exact this
  have n0 := nx q hq
  have t0 := top q hq
  obtain ⟨a, ha⟩ : ∃ a : Nat, A.getD q 0 = a := ⟨(A.getD q 0).toNat, by have := n0.1; omega⟩
  obtain ⟨b, hb⟩ : ∃ b : Nat, A.getD (q + 1) 0 = b := ⟨(A.getD (q + 1) 0).toNat, by have := n0.1; have := n0.2.1; omega⟩
  rw [ha, hb] at n0
  have hab := n0.2.1
  have le : ∀ x y : Nat, x ≤ y → y < L.length → pOf L y ≤ pOf L x := fun x y h1 h2 => by
    by_cases c : x = y
    · subst c; exact Int.le_refl _
    · have := press_lt hok (i := x) (j := y) (by omega) h2; omega
  refine ⟨a, b, by omega, by omega, by omega, by omega, n0, ?_⟩
  have r := rebF_first (F := pick L A) (p := pOf L i) q 0 (fun k _ hk => ?_) ?_ (l.length + 1) hq
  · rw [r]
    obtain ⟨e1, e2⟩ := pick_p L A (0 + q) (by omega)
    obtain ⟨f1, f2⟩ := pick_p L A (0 + q + 1) (by omega)
    rw [e1, e2, f1, f2, Nat.zero_add, ha, hb]
    rfl
  · have hk' : k < q := by omega
    obtain ⟨f1, _⟩ := pick_p L A (k + 1) (by omega)
    unfold hit inB
    rw [f1]
    have g := g2 k hk'
    have m := nx k (by omega)
    have := press_lt hok (i := (A.getD (k + 1) 0).toNat) (j := i) (by have := m.1; have := m.2.1; omega) hi
    simp
    intro h
    rw [List.getD_eq_getElem?_getD] at this
    omega
  · obtain ⟨e1, _⟩ := pick_p L A (0 + q) (by omega)
    obtain ⟨f1, _⟩ := pick_p L A (0 + q + 1) (by omega)
    unfold hit inB
    rw [e1, f1, Nat.zero_add, ha, hb]
    have x1 := le a i (by omega) hi
    have x2 := le i b (by omega) (by omega)
    simp
    exact ⟨x2, x1⟩
end Go.Proofs.Ytjnjpbbpphklhaa.Rd
