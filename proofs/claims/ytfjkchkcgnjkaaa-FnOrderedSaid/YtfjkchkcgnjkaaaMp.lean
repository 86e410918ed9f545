/- Merged lists, plainly: in order by place; two lists of the same numbers in order are alike. -/
import Derived.Test.YtfjkchkcgnjkaaaMn
namespace Go.Proofs.Ytfjkchkcgnjkaaa.Srt
open Go.Proofs.Ytfjkchkcgnjkaaa.Flt Go.Proofs.Ytfjkchkcgnjkaaa.St

def leB (a b : Nat) : Bool := decide (pl a ≤ pl b)
def mg (A B : List Nat) : List Nat := List.merge A B leB
def Asc (L : List Nat) : Prop := L.Pairwise fun a b => leB a b = true
theorem drop_get {A : List Nat} {i : Nat} (h : i < A.length) : A.drop i = A.getD i 0 :: A.drop (i + 1) := by
  rw [List.drop_eq_getElem_cons h]; simp [List.getD_eq_getElem?_getD, h]
theorem mg_a {A B : List Nat} {i k : Nat} (hi : i < A.length) (hk : k < B.length) (h : ¬ pl (B.getD k 0) < pl (A.getD i 0)) :
    mg (A.drop i) (B.drop k) = A.getD i 0 :: mg (A.drop (i + 1)) (B.drop k) := by
  rw [drop_get hi, drop_get hk]
  unfold mg
  rw [List.cons_merge_cons, if_pos]
  exact decide_eq_true (by omega)
theorem mg_b {A B : List Nat} {i k : Nat} (hk : k < B.length) (h : i < A.length → pl (B.getD k 0) < pl (A.getD i 0)) :
    mg (A.drop i) (B.drop k) = B.getD k 0 :: mg (A.drop i) (B.drop (k + 1)) := by
  by_cases hi : i < A.length
  · have := h hi
    rw [drop_get hi, drop_get hk]
    unfold mg
    rw [List.cons_merge_cons, if_neg]
    intro e
    have := of_decide_eq_true e
    omega
  · rw [List.drop_eq_nil_of_le (by omega : A.length ≤ i), drop_get hk]
    unfold mg
    simp
theorem mg_end {A B : List Nat} {i k : Nat} (hk : B.length ≤ k) : mg (A.drop i) (B.drop k) = A.drop i := by
  rw [List.drop_eq_nil_of_le hk]
  unfold mg
  simp
theorem mg_len (A B : List Nat) : (mg A B).length = A.length + B.length := List.length_merge _ _ _
theorem mg_perm (A B : List Nat) : (mg A B).Perm (A ++ B) := List.merge_perm_append leB
theorem leB_trans (a b c : Nat) (h : leB a b = true) (k : leB b c = true) : leB a c = true := by
  have := of_decide_eq_true h
  have := of_decide_eq_true k
  exact decide_eq_true (by omega)
theorem leB_total (a b : Nat) : (leB a b || leB b a) = true := by
  unfold leB
  by_cases h : pl a ≤ pl b
  · rw [decide_eq_true h]; rfl
  · rw [decide_eq_true (show pl b ≤ pl a by omega), Bool.or_true]
theorem mg_asc {A B : List Nat} (ha : Asc A) (hb : Asc B) : Asc (mg A B) := List.pairwise_merge (le := leB) leB_trans leB_total _ _ ha hb
theorem asc_srt {L : List Nat} (h : Srt pl L 0 L.length) : Asc L := by
  unfold Asc
  rw [List.pairwise_iff_getElem]
  intro i j hi hj hij
  have := h i j (Nat.zero_le _) (by omega) hj
  simp only [List.getD_eq_getElem?_getD, List.getElem?_eq_getElem hi, List.getElem?_eq_getElem hj, Option.getD_some] at this
  exact decide_eq_true this
theorem asc_small {L : List Nat} (h : L.length < 2) : Asc L := by
  match L, h with
  | [], _ => exact List.Pairwise.nil
  | [a], _ => exact List.pairwise_singleton _ _
/-- Two lists of the same numbers in order: each place has the same place in order. -/
theorem same_pl {L M : List Nat} (p : L.Perm M) (a : Asc L) (b : Asc M) : L.map pl = M.map pl := by
  apply List.Perm.eq_of_pairwise (le := fun x y : Nat => x ≤ y) _ _ _ (p.map pl)
  · intro x y _ _ h1 h2
    exact Nat.le_antisymm h1 h2
  · exact List.pairwise_map.2 (List.Pairwise.imp (fun h => of_decide_eq_true h) a)
  · exact List.pairwise_map.2 (List.Pairwise.imp (fun h => of_decide_eq_true h) b)
theorem same_cn {L M : List Nat} (p : L.Perm M) (a : Asc L) (b : Asc M) (h : ∀ z ∈ L, z < 18446744073709551616) : L.map cn = M.map cn := by
  have e := same_pl p a b
  have hl := p.length_eq
  apply List.ext_getElem (by simpa using hl)
  intro i h1 h2
  simp at h1 h2
  have q : (L.map pl)[i]'(by simpa using h1) = (M.map pl)[i]'(by simpa using h2) := by simp only [e]
  simp only [List.getElem_map] at q ⊢
  exact pl_inj (h _ (List.getElem_mem h1)) (h _ (p.symm.subset (List.getElem_mem h2))) q
end Go.Proofs.Ytfjkchkcgnjkaaa.Srt
