/- The score of members, plainly: not below 0, 0 just when all are what came, the same in the other order. -/
import Derived.Test.YtbcjkojjgaangaaCq
namespace Go.Proofs.Ytbcjkojjgaangaa.Sc
open Go.ChangeShapes Go.WideShapes Go.ChangeAt Go.RowKit
open Go.Proofs.Ytbcjkojjgaangaa.Lists Go.Proofs.Ytbcjkojjgaangaa.Al Go.Proofs.Ytbcjkojjgaangaa.Su

theorem ab_self (a : Int) : ab a a = 0 := by unfold ab; simp
theorem ab_nn (a b : Int) : 0 ≤ ab a b := by unfold ab; split <;> omega
theorem ab_tri (a b x : Int) : ab a b ≤ ab a x + ab b x := by unfold ab; split <;> split <;> split <;> omega
theorem ab_zero {a b : Int} (h : ab a b = 0) : a = b := by unfold ab at h; split at h <;> omega
theorem sm_nonneg {n : Nat} {f : Nat → Int} (h : ∀ i, i < n → 0 ≤ f i) : 0 ≤ sm n f := by
  induction n with
  | zero => exact Int.le_refl _
  | succ n ih =>
    have a := ih fun i hi => h i (by omega)
    have b := h n (by omega)
    unfold sm
    omega
theorem sm_le {n : Nat} {f g : Nat → Int} (h : ∀ i, i < n → f i ≤ g i) : sm n f ≤ sm n g := by
  induction n with
  | zero => exact Int.le_refl _
  | succ n ih =>
    have a := ih fun i hi => h i (by omega)
    have b := h n (by omega)
    unfold sm
    omega
theorem sm_gap {n : Nat} {f g : Nat → Int} {j : Nat} {d : Int} (h : ∀ i, i < n → f i ≤ g i) (hj : j < n) (hd : f j + d ≤ g j) : sm n f + d ≤ sm n g := by
  induction n with
  | zero => omega
  | succ n ih =>
    unfold sm
    by_cases e : j = n
    · subst e
      have a := sm_le (n := j) (f := f) (g := g) fun i hi => h i (by omega)
      omega
    · have a := ih (fun i hi => h i (by omega)) (by omega)
      have b := h n (by omega)
      omega
theorem sm_add {n : Nat} (f g : Nat → Int) : sm n (fun i => f i + g i) = sm n f + sm n g := by
  induction n with
  | zero => rfl
  | succ n ih =>
    show sm n (fun i => f i + g i) + (f n + g n) = (sm n f + f n) + (sm n g + g n)
    rw [ih]
    omega
theorem sm_const (n : Nat) (c : Int) : sm n (fun _ => c) = n * c := by
  induction n with
  | zero => simp [sm]
  | succ n ih => unfold sm; rw [ih, Int.natCast_add, Int.add_mul]; simp
theorem sm_mul {n : Nat} (c : Int) (f : Nat → Int) : sm n (fun i => c * f i) = c * sm n f := by
  induction n with
  | zero => simp [sm]
  | succ n ih => unfold sm; rw [ih, Int.mul_add]
theorem sm_zero {n : Nat} {f : Nat → Int} (h : ∀ i, i < n → 0 ≤ f i) (z : sm n f = 0) : ∀ i, i < n → f i = 0 := by
  intro i hi
  have a := sm_gap (n := n) (f := fun _ => 0) (g := f) (j := i) (d := f i) h hi (by omega)
  rw [sm_const] at a
  have b := h i hi
  omega
theorem sm_first (n : Nat) (f : Nat → Int) : sm (n + 1) f = f 0 + sm n (fun i => f (i + 1)) := by
  induction n with
  | zero => simp [sm]
  | succ n ih =>
    have e : sm (n + 1 + 1) f = sm (n + 1) f + f (n + 1) := rfl
    rw [e, ih]
    show _ = f 0 + (sm n (fun i => f (i + 1)) + f (n + 1))
    omega
theorem sm_rev (n : Nat) (f : Nat → Int) : sm n (fun i => f (n - 1 - i)) = sm n f := by
  induction n with
  | zero => rfl
  | succ n ih =>
    rw [sm_first]
    have e : sm n (fun i => f (n + 1 - 1 - (i + 1))) = sm n (fun i => f (n - 1 - i)) := sm_congr fun i hi => by rw [show n + 1 - 1 - (i + 1) = n - 1 - i by omega]
    rw [e, ih]
    show f (n + 1 - 1 - 0) + sm n f = sm n f + f n
    rw [show n + 1 - 1 - 0 = n by omega]
    omega
theorem crs_low (L : List Int) (x : Int) : 2 * aw L x L.length ≤ crs L x L.length := by
  have hp : prs L L.length ≤ (2 * (L.length : Int) - 2) * aw L x L.length := by
    have h1 : prs L L.length ≤ sm L.length (fun i => aw L x L.length + ((L.length : Int) - 2) * ab (L.getD i 0) x) := by
      refine sm_le fun i hi => ?_
      have g := sm_gap (n := L.length) (f := fun k => ab (L.getD k 0) (L.getD i 0)) (g := fun k => ab (L.getD k 0) x + ab (L.getD i 0) x) (j := i) (d := 2 * ab (L.getD i 0) x) (fun k _ => ab_tri _ _ _) hi (by rw [ab_self]; omega)
      rw [sm_add, sm_const] at g
      unfold aw
      have e : ((L.length : Int) - 2) * ab (L.getD i 0) x = (L.length : Int) * ab (L.getD i 0) x - 2 * ab (L.getD i 0) x := by rw [Int.sub_mul]
      rw [e]
      omega
    have h2 : sm L.length (fun i => aw L x L.length + ((L.length : Int) - 2) * ab (L.getD i 0) x) = (L.length : Int) * aw L x L.length + ((L.length : Int) - 2) * aw L x L.length := by
      rw [sm_add, sm_const, sm_mul]
      rfl
    rw [h2] at h1
    have e : (2 * (L.length : Int) - 2) * aw L x L.length = (L.length : Int) * aw L x L.length + ((L.length : Int) - 2) * aw L x L.length := by
      rw [← Int.add_mul]
      congr 1
      omega
    rw [e]
    exact h1
  unfold crs
  have e : (2 * (L.length : Int) - 2) * aw L x L.length = 2 * (L.length : Int) * aw L x L.length - 2 * aw L x L.length := by rw [Int.sub_mul]
  rw [e] at hp
  omega
theorem aw_nn (L : List Int) (x : Int) (k : Nat) : 0 ≤ aw L x k := sm_nonneg fun _ _ => ab_nn _ _
theorem crs_nn (L : List Int) (x : Int) : 0 ≤ crs L x L.length := by
  have := crs_low L x
  have := aw_nn L x L.length
  omega
theorem crs_zero (L : List Int) (x : Int) : crs L x L.length = 0 ↔ ∀ i, i < L.length → L.getD i 0 = x := by
  constructor
  · intro z
    have a := crs_low L x
    have b := aw_nn L x L.length
    have c : aw L x L.length = 0 := by omega
    intro i hi
    exact ab_zero (sm_zero (fun _ _ => ab_nn _ _) c i hi)
  · intro h
    have c : aw L x L.length = 0 := by
      have e : aw L x L.length = sm L.length (fun _ => 0) := sm_congr fun i hi => by rw [h i hi]; exact ab_self x
      rw [e, sm_const]
      simp
    have p : 0 ≤ prs L L.length := sm_nonneg fun _ _ => aw_nn _ _ _
    have n := crs_nn L x
    unfold crs at n ⊢
    rw [c] at n ⊢
    omega
theorem rev_at (L : List Int) (i : Nat) (hi : i < L.length) : L.reverse.getD i 0 = L.getD (L.length - 1 - i) 0 := by
  rw [List.getD_eq_getElem?_getD, List.getD_eq_getElem?_getD, List.getElem?_reverse hi]
theorem aw_rev (L : List Int) (x : Int) : aw L.reverse x L.length = aw L x L.length := by
  unfold aw
  rw [← sm_rev L.length (fun i => ab (L.getD i 0) x)]
  exact sm_congr fun i hi => by rw [rev_at L i hi]
theorem crs_rev (L : List Int) (x : Int) : crs L.reverse x L.reverse.length = crs L x L.length := by
  unfold crs prs
  rw [List.length_reverse, aw_rev]
  have e : sm L.length (fun i => aw L.reverse (L.reverse.getD i 0) L.length) = sm L.length (fun i => aw L (L.getD i 0) L.length) := by
    rw [← sm_rev L.length (fun i => aw L (L.getD i 0) L.length)]
    exact sm_congr fun i hi => by rw [aw_rev, rev_at L i hi]
  rw [e]
theorem crp_rev (L : List Int) (x : Int) : crp L.reverse x = crp L x := by
  have e : okM L.reverse = okM L := by unfold okM; rw [List.length_reverse, List.all_reverse]
  unfold crp
  rw [e, crs_rev]
/-- Whether the last k members are x. -/
def al (L : List Int) (x : Int) : Nat → Bool
  | 0 => true
  | k + 1 => al L x k && (L.getD (L.length - 1 - k) 0 == x)
theorem al_iff (L : List Int) (x : Int) (k : Nat) (hk : k ≤ L.length) : al L x k = true ↔ ∀ i, L.length - k ≤ i → i < L.length → L.getD i 0 = x := by
  induction k with
  | zero =>
    refine ⟨fun _ i h1 h2 => by omega, fun _ => rfl⟩
  | succ k ih =>
    unfold al
    rw [Bool.and_eq_true, ih (by omega), beq_iff_eq]
    constructor
    · rintro ⟨h1, h2⟩ i h3 h4
      by_cases e : i = L.length - 1 - k
      · rw [e]; exact h2
      · exact h1 i (by omega) h4
    · intro h
      exact ⟨fun i h1 h2 => h i (by omega) h2, h _ (by omega) (by omega)⟩
theorem all_is (L : List Int) (x : Int) : (crs L x L.length == 0) = al L x L.length := by
  rw [Bool.eq_iff_iff, beq_iff_eq, crs_zero L x, al_iff L x L.length (Nat.le_refl _)]
  exact ⟨fun h i _ h2 => h i h2, fun h i h2 => h i (by omega) h2⟩
theorem rev_take (L : List Int) (k : Nat) (hk : k < L.length) : L.reverse.take (k + 1) = L.reverse.take k ++ [L.getD (L.length - 1 - k) 0] := by
  rw [List.take_add_one, ← rev_at L k hk, List.getD_eq_getElem?_getD]
  have : k < L.reverse.length := by simpa using hk
  rw [List.getElem?_eq_getElem this]
  rfl
end Go.Proofs.Ytbcjkojjgaangaa.Sc
