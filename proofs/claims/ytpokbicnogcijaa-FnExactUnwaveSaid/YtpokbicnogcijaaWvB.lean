/- Wavelets, plain: one step on the first m numbers; all steps. -/
import Derived.Test.YtpokbicnogcijaaWvA
namespace Go.Proofs.Ytpokbicnogcijaa.Lists
open Go.ChangeShapes Go.WideShapes Go.ChangeAt Go.RowKit

def mean (a b : Int) : Int := a + (b - a) / 2
def mnA (X : List Int) (i : Nat) : Int := mean (X.getD (2 * i) 0) (X.getD (2 * i + 1) 0)
def dfA (X : List Int) (i : Nat) : Int := X.getD (2 * i + 1) 0 - X.getD (2 * i) 0
/-- The first k means and differences stand; the rest is as it was. -/
def partW (m : Nat) (X : List Int) (k : Nat) : List Int := (List.range X.length).map fun i => if i < k then mnA X i else if m - m / 2 ≤ i ∧ i < m - m / 2 + k then dfA X (i - (m - m / 2)) else X.getD i 0
def stepW (m : Nat) (X : List Int) : List Int := (List.range X.length).map fun i => if i < m / 2 then mnA X i else if i < m - m / 2 then X.getD (m - 1) 0 else if i < m then dfA X (i - (m - m / 2)) else X.getD i 0
def wav : Nat → Nat → List Int → List Int
  | 0, _, X => X
  | s + 1, m, X => wav s (m - m / 2) (stepW m X)
def bnd (m : Nat) (X : List Int) : Prop := ∀ i, i < m → -1099511627776 ≤ X.getD i 0 ∧ X.getD i 0 ≤ 1099511627776

theorem part_len (m : Nat) (X : List Int) (k : Nat) : (partW m X k).length = X.length := by simp [partW]
theorem step_len (m : Nat) (X : List Int) : (stepW m X).length = X.length := by simp [stepW]
theorem wav_len : ∀ (s m : Nat) (X : List Int), (wav s m X).length = X.length
  | 0, _, _ => rfl
  | s + 1, m, X => by rw [wav, wav_len s, step_len]
theorem part_zero (m : Nat) (X : List Int) : partW m X 0 = X := by
  apply List.ext_getElem (part_len _ _ _)
  intro i h1 h2
  simp [partW, List.getElem?_eq_getElem h2]
  omega
theorem part_set (m : Nat) (X : List Int) (k : Nat) (hk : k < m / 2) : ((partW m X k).set k (mnA X k)).set (m - m / 2 + k) (dfA X k) = partW m X (k + 1) := by
  apply List.ext_getElem (by rw [List.length_set, List.length_set, part_len, part_len])
  intro i h1 h2
  rw [List.getElem_set, List.getElem_set]
  by_cases e : m - m / 2 + k = i
  · subst e
    rw [if_pos rfl]
    simp only [partW, List.getElem_map, List.getElem_range]
    rw [if_neg (by omega), if_pos (by omega), show m - m / 2 + k - (m - m / 2) = k by omega]
  · rw [if_neg e]
    by_cases e2 : k = i
    · subst e2
      rw [if_pos rfl]
      simp only [partW, List.getElem_map, List.getElem_range]
      rw [if_pos (by omega)]
    · rw [if_neg e2]
      simp only [partW, List.getElem_map, List.getElem_range]
      by_cases x : i < k
      · rw [if_pos x, if_pos (by omega)]
      · rw [if_neg x, if_neg (show ¬ i < k + 1 by omega)]
        by_cases y : m - m / 2 ≤ i ∧ i < m - m / 2 + k
        · rw [if_pos y, if_pos (by omega)]
        · rw [if_neg y, if_neg (by omega)]
theorem part_even (m : Nat) (X : List Int) (h : ¬ m / 2 < m - m / 2) : partW m X (m / 2) = stepW m X := by
  apply List.ext_getElem (by rw [part_len, step_len])
  intro i h1 h2
  simp only [partW, stepW, List.getElem_map, List.getElem_range]
  by_cases x : i < m / 2
  · rw [if_pos x, if_pos x]
  · rw [if_neg x, if_neg x, if_neg (show ¬ i < m - m / 2 by omega)]
    by_cases y : i < m
    · rw [if_pos (by omega), if_pos y]
    · rw [if_neg (by omega), if_neg y]
theorem part_odd (m : Nat) (X : List Int) (h : m / 2 < m - m / 2) : (partW m X (m / 2)).set (m / 2) (X.getD (m - 1) 0) = stepW m X := by
  apply List.ext_getElem (by rw [List.length_set, part_len, step_len])
  intro i h1 h2
  rw [List.getElem_set]
  simp only [partW, stepW, List.getElem_map, List.getElem_range]
  by_cases e : m / 2 = i
  · rw [if_pos e, if_neg (show ¬ i < m / 2 by omega), if_pos (show i < m - m / 2 by omega)]
  · rw [if_neg e]
    by_cases x : i < m / 2
    · rw [if_pos x, if_pos x]
    · rw [if_neg x, if_neg x, if_neg (show ¬ i < m - m / 2 by omega)]
      by_cases y : i < m
      · rw [if_pos (by omega), if_pos y]
      · rw [if_neg (by omega), if_neg y]
theorem step_small (m : Nat) (X : List Int) (h : m ≤ 1) : stepW m X = X := by
  apply List.ext_getElem (step_len _ _)
  intro i h1 h2
  simp only [stepW, List.getElem_map, List.getElem_range]
  rw [if_neg (by omega)]
  by_cases y : i < m - m / 2
  · rw [if_pos y, show m - 1 = i by omega]; simp [List.getElem?_eq_getElem h2]
  · rw [if_neg y, if_neg (by omega)]; simp [List.getElem?_eq_getElem h2]
theorem wav_small : ∀ (s m : Nat) (X : List Int), m ≤ 1 → wav s m X = X
  | 0, _, _, _ => rfl
  | s + 1, m, X, h => by rw [wav, step_small m X h, wav_small s _ X (by omega)]
theorem mean_bnd {a b M : Int} (a1 : -M ≤ a) (a2 : a ≤ M) (b1 : -M ≤ b) (b2 : b ≤ M) : -M ≤ mean a b ∧ mean a b ≤ M := by unfold mean; omega
theorem step_get (m : Nat) (X : List Int) (i : Nat) (h : i < X.length) : (stepW m X).getD i 0 = if i < m / 2 then mnA X i else if i < m - m / 2 then X.getD (m - 1) 0 else if i < m then dfA X (i - (m - m / 2)) else X.getD i 0 := by
  simp [stepW, List.getD_eq_getElem?_getD, h]
theorem step_bnd {m : Nat} {X : List Int} (hm : m ≤ X.length) (h : bnd m X) : bnd (m - m / 2) (stepW m X) := by
  intro i hi
  rw [step_get m X i (by omega)]
  by_cases x : i < m / 2
  · rw [if_pos x]
    have p := h (2 * i) (by omega)
    have q := h (2 * i + 1) (by omega)
    exact mean_bnd p.1 p.2 q.1 q.2
  · rw [if_neg x, if_pos hi]
    exact h (m - 1) (by omega)
def fr : Nat → Nat → List Int
  | 0, _ => []
  | s + 1, m => (m : Int) :: fr s (m - m / 2)
theorem fr_len : ∀ s m, (fr s m).length = s
  | 0, _ => rfl
  | s + 1, m => by rw [fr, List.length_cons, fr_len s]
/-- The front behind so many steps. -/
def ft : Nat → Nat → Nat
  | 0, m => m
  | s + 1, m => ft s (m - m / 2)
theorem ft_succ : ∀ s m, ft (s + 1) m = ft s m - ft s m / 2
  | 0, m => rfl
  | s + 1, m => by rw [ft, ft_succ s (m - m / 2)]; rfl
theorem ft_le : ∀ s m, ft s m ≤ m
  | 0, m => Nat.le_refl _
  | s + 1, m => by have := ft_le s (m - m / 2); rw [ft]; omega
theorem fr_get : ∀ (s m i : Nat), i < s → (fr s m).getD i 0 = (ft i m : Int)
  | 0, _, _, h => by omega
  | s + 1, m, 0, _ => rfl
  | s + 1, m, i + 1, h => by
    have := fr_get s (m - m / 2) i (by omega)
    rw [fr, ft]
    exact this
theorem fr_snoc : ∀ s m, fr (s + 1) m = fr s m ++ [(ft s m : Int)]
  | 0, m => rfl
  | s + 1, m => by rw [fr, fr_snoc s (m - m / 2)]; rfl
theorem wav_snoc : ∀ s m X, wav (s + 1) m X = stepW (ft s m) (wav s m X)
  | 0, m, X => rfl
  | s + 1, m, X => by rw [wav, wav_snoc s (m - m / 2) (stepW m X)]; rfl
theorem wav_bnd : ∀ {s m : Nat} {X : List Int}, m ≤ X.length → bnd m X → bnd (ft s m) (wav s m X)
  | 0, _, _, _, h => h
  | s + 1, m, X, hm, h => by rw [ft, wav]; exact wav_bnd (by rw [step_len]; omega) (step_bnd hm h)
end Go.Proofs.Ytpokbicnogcijaa.Lists
