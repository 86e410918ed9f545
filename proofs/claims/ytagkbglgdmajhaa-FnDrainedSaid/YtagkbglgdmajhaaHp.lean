/- A heap of whole numbers, plainly: up, down, the least one. -/
import Derived.Test.YtagkbglgdmajhaaXoA
namespace Go.Proofs.Ytagkbglgdmajhaa.Hp
def swp (L : List Int) (i j : Nat) : List Int := (L.set i (L.getD j 0)).set j (L.getD i 0)
theorem swp_len (L : List Int) (i j : Nat) : (swp L i j).length = L.length := by simp [swp]
theorem swp_get {L : List Int} {i j : Nat} (hi : i < L.length) (hj : j < L.length) (x : Nat) : (swp L i j).getD x 0 = if x = j then L.getD i 0 else if x = i then L.getD j 0 else L.getD x 0 := by
  unfold swp
  simp only [List.getD_eq_getElem?_getD, List.getElem?_set, List.length_set]
  by_cases h1 : x = j
  · subst h1; simp [hj]
  · rw [if_neg (fun e => h1 e.symm), if_neg h1]
    by_cases h2 : x = i
    · subst h2; simp [hi]
    · rw [if_neg (fun e => h2 e.symm), if_neg h2]
theorem swp_perm {L : List Int} {i j : Nat} (hi : i < L.length) (hj : j < L.length) : (swp L i j).Perm L := by
  have e1 : L.getD i 0 = L[i] := by simp [List.getD_eq_getElem?_getD, hi]
  have e2 : L.getD j 0 = L[j] := by simp [List.getD_eq_getElem?_getD, hj]
  unfold swp
  rw [e1, e2]
  exact List.set_set_perm hi hj
def Heap (L : List Int) (n : Nat) : Prop := ∀ i, 0 < i → i < n → L.getD ((i - 1) / 2) 0 ≤ L.getD i 0
theorem Heap.least {L : List Int} {n : Nat} (h : Heap L n) : ∀ k, k < n → L.getD 0 0 ≤ L.getD k 0 := by
  intro k
  induction k using Nat.strongRecOn with
  | _ k ih =>
    intro hk
    by_cases e : k = 0
    · subst e; exact Int.le_refl _
    · exact Int.le_trans (ih ((k - 1) / 2) (by omega) (by omega)) (h k (by omega) hk)
def UpI (L : List Int) (n j : Nat) : Prop := (∀ i, 0 < i → i < n → i ≠ j → L.getD ((i - 1) / 2) 0 ≤ L.getD i 0) ∧ (∀ i, 0 < i → i < n → (i - 1) / 2 = j → 0 < j → L.getD ((j - 1) / 2) 0 ≤ L.getD i 0)
theorem UpI.start {L : List Int} {n : Nat} (h : Heap L n) (hn : n = L.length) (x : Int) : UpI (L ++ [x]) (n + 1) n := by
  have e : ∀ i, i < n → (L ++ [x]).getD i 0 = L.getD i 0 := fun i hi => by
    simp only [List.getD_eq_getElem?_getD]
    rw [List.getElem?_append_left (by omega)]
  refine ⟨fun i h0 h1 h2 => ?_, fun i h0 h1 h2 h3 => by omega⟩
  rw [e _ (by omega), e _ (by omega)]
  exact h i h0 (by omega)
theorem UpI.step {L : List Int} {n j : Nat} (h : UpI L n j) (hn : n ≤ L.length) (h0 : 0 < j) (hj : j < n) (q : L.getD j 0 < L.getD ((j - 1) / 2) 0) : UpI (swp L ((j - 1) / 2) j) n ((j - 1) / 2) := by
  obtain ⟨h1, h2⟩ := h
  have g := swp_get (L := L) (i := (j - 1) / 2) (j := j) (by omega) (by omega)
  refine ⟨fun i i0 i1 i2 => ?_, fun i i0 i1 i2 i3 => ?_⟩
  · rw [g, g]
    by_cases e1 : i = j
    · subst e1
      rw [if_neg (by omega), if_pos rfl, if_pos rfl]
      omega
    · rw [if_neg e1, if_neg i2]
      by_cases e2 : (i - 1) / 2 = j
      · rw [if_pos e2]; exact h2 i i0 i1 e2 h0
      · rw [if_neg e2]
        by_cases e3 : (i - 1) / 2 = (j - 1) / 2
        · rw [if_pos e3]
          have := h1 i i0 i1 e1
          rw [e3] at this
          omega
        · rw [if_neg e3]; exact h1 i i0 i1 e1
  · rw [g, g]
    rw [if_neg (by omega), if_neg (by omega)]
    have hp := h1 ((j - 1) / 2) i3 (by omega) (by omega)
    by_cases e1 : i = j
    · rw [if_pos e1]; exact hp
    · rw [if_neg e1, if_neg (by omega)]
      have := h1 i i0 i1 e1
      rw [i2] at this
      omega
theorem UpI.done {L : List Int} {n j : Nat} (h : UpI L n j) (q : j = 0 ∨ L.getD ((j - 1) / 2) 0 ≤ L.getD j 0) : Heap L n := by
  intro i i0 i1
  by_cases e : i = j
  · subst e
    rcases q with q | q
    · omega
    · exact q
  · exact h.1 i i0 i1 e
def DnI (L : List Int) (n i : Nat) : Prop := (∀ k, 0 < k → k < n → (k - 1) / 2 ≠ i → L.getD ((k - 1) / 2) 0 ≤ L.getD k 0) ∧ (∀ k, 0 < k → k < n → (k - 1) / 2 = i → 0 < i → L.getD ((i - 1) / 2) 0 ≤ L.getD k 0)
theorem DnI.start {L : List Int} {n : Nat} (h : Heap L (n + 1)) (hn : n + 1 ≤ L.length) : DnI (swp L 0 n) n 0 := by
  have g := swp_get (L := L) (i := 0) (j := n) (by omega) (by omega)
  refine ⟨fun k k0 k1 k2 => ?_, fun k k0 k1 k2 k3 => by omega⟩
  rw [g, g, if_neg (by omega), if_neg k2, if_neg (by omega), if_neg (by omega)]
  exact h k k0 (by omega)
theorem DnI.step {L : List Int} {n i j : Nat} (h : DnI L n i) (hn : n ≤ L.length) (h0 : 0 < j) (hj : j < n) (hi : (j - 1) / 2 = i) (least : ∀ k, 0 < k → k < n → (k - 1) / 2 = i → L.getD j 0 ≤ L.getD k 0) (q : L.getD j 0 < L.getD i 0) : DnI (swp L i j) n j := by
  obtain ⟨h1, h2⟩ := h
  have g := swp_get (L := L) (i := i) (j := j) (by omega) (by omega)
  refine ⟨fun k k0 k1 k2 => ?_, fun k k0 k1 k2 k3 => ?_⟩
  · rw [g, g, if_neg k2]
    by_cases e1 : (k - 1) / 2 = i
    · rw [if_pos e1]
      by_cases e2 : k = j
      · rw [if_pos e2]; omega
      · rw [if_neg e2, if_neg (by omega)]; exact least k k0 k1 e1
    · rw [if_neg e1]
      by_cases e2 : k = j
      · omega
      · rw [if_neg e2]
        by_cases e3 : k = i
        · rw [if_pos e3]
          have := h2 j h0 hj hi (by omega)
          rw [e3]; exact this
        · rw [if_neg e3]; exact h1 k k0 k1 e1
  · rw [g, g]
    rw [hi, if_neg (by omega), if_pos rfl, if_neg (by omega), if_neg (by omega)]
    have := h1 k k0 k1 (by omega)
    rw [k2] at this
    exact this
theorem DnI.done {L : List Int} {n i : Nat} (h : DnI L n i) (q : ∀ k, 0 < k → k < n → (k - 1) / 2 = i → L.getD i 0 ≤ L.getD k 0) : Heap L n := by
  intro k k0 k1
  by_cases e : (k - 1) / 2 = i
  · rw [e]; exact q k k0 k1 e
  · exact h.1 k k0 k1 e
theorem Heap.cut {L : List Int} {n : Nat} (h : Heap L n) (m : Nat) (hm : m = n) : Heap (L.take m) n := by
  subst hm
  intro i i0 i1
  have e : ∀ x, x < m → (L.take m).getD x 0 = L.getD x 0 := fun x hx => by
    simp [List.getD_eq_getElem?_getD, hx]
  rw [e _ (by omega), e _ i1]
  exact h i i0 i1
theorem take_last {L : List Int} {n : Nat} (hn : L.length = n + 1) : L = L.take n ++ [L.getD n 0] := by
  have e : L.getD n 0 = L[n]'(by omega) := by simp [List.getD_eq_getElem?_getD, show n < L.length by omega]
  rw [e]
  apply List.ext_getElem
  · simp; omega
  · intro i h1 h2
    by_cases h : i < n
    · rw [List.getElem_append_left (by simp; omega)]; simp
    · have : i = n := by omega
      subst this
      rw [List.getElem_append_right (by simp; omega)]
      simp
end Go.Proofs.Ytagkbglgdmajhaa.Hp
