/- Bits and bytes, plainly. -/
import Derived.Test.YtmopkbkdfipglaaKb
namespace Go.Proofs.Ytmopkbkdfipglaa.Lists
open Go.ChangeShapes Go.WideShapes Go.ChangeAt Go.RowKit

def orB (a b : Int) : Int := ((a.toNat ||| b.toNat : Nat) : Int)
/-- the bit at place i of a number of w bits, the highest first -/
def btA (x : Int) (w i : Nat) : Int := x / 2 ^ (w - 1 - i) % 2
def btk (x : Int) (w k : Nat) : List Int := (List.range k).map (btA x w)
abbrev bts (x : Int) (w : Nat) : List Int := btk x w w
theorem btk_len (x : Int) (w k : Nat) : (btk x w k).length = k := by simp [btk]
theorem btk_snoc (x : Int) (w k : Nat) : btk x w (k + 1) = btk x w k ++ [btA x w k] := by simp [btk, List.range_succ]
def byS (D : List Int) (n : Nat) (b : Int) : List Int := if n % 8 = 0 then D ++ [orB 0 (b * 2 ^ 7)] else D.set (D.length - 1) (orB (D.getD (D.length - 1) 0) (b * 2 ^ (7 - n % 8)))
def bytR : List Int → List Int
  | [] => []
  | b :: r => byS (bytR r) r.length b
/-- the bytes that hold these bits -/
def byt (B : List Int) : List Int := bytR B.reverse
theorem byt_nil : byt [] = [] := rfl
theorem byt_snoc (B : List Int) (b : Int) : byt (B ++ [b]) = byS (byt B) B.length b := by
  unfold byt
  rw [List.reverse_append]
  simp [bytR]
theorem byS_len (D : List Int) (n : Nat) (b : Int) : (byS D n b).length = if n % 8 = 0 then D.length + 1 else D.length := by
  unfold byS
  split <;> simp
theorem bytR_len : ∀ r : List Int, (bytR r).length = (r.length + 7) / 8
  | [] => rfl
  | b :: r => by
    rw [bytR, byS_len, bytR_len r, List.length_cons]
    split <;> omega
theorem byt_len (B : List Int) : (byt B).length = (B.length + 7) / 8 := by rw [byt, bytR_len, List.length_reverse]
theorem snoc_ind {P : List Int → Prop} (h0 : P []) (h1 : ∀ B b, P B → P (B ++ [b])) : ∀ B, P B := by
  have key : ∀ r : List Int, P r.reverse := by
    intro r
    induction r with
    | nil => exact h0
    | cons b r ih => rw [List.reverse_cons]; exact h1 _ _ ih
  intro B
  have := key B.reverse
  rwa [List.reverse_reverse] at this
theorem byt_app (A : List Int) (hA : A.length % 8 = 0) : ∀ B, byt (A ++ B) = byt A ++ byt B := by
  refine snoc_ind (by rw [byt_nil]; simp) ?_
  intro B b ih
  rw [← List.append_assoc, byt_snoc, byt_snoc, ih]
  have e : (A ++ B).length % 8 = B.length % 8 := by rw [List.length_append]; omega
  unfold byS
  rw [e]
  by_cases h : B.length % 8 = 0
  · rw [if_pos h, if_pos h, List.append_assoc]
  · rw [if_neg h, if_neg h]
    have lb := byt_len B
    have lp : 0 < (byt B).length := by omega
    have el : (byt A ++ byt B).length - 1 = (byt A).length + ((byt B).length - 1) := by rw [List.length_append]; omega
    rw [el, List.set_append_right _ _ (by omega), Nat.add_sub_cancel_left]
    congr 2
    simp only [List.getD_eq_getElem?_getD]
    rw [List.getElem?_append_right (by omega), Nat.add_sub_cancel_left]
def B01 (B : List Int) : Prop := ∀ x ∈ B, x = 0 ∨ x = 1
def By (D : List Int) : Prop := ∀ x ∈ D, 0 ≤ x ∧ x < 256
theorem btA_01 (x : Int) (w i : Nat) : btA x w i = 0 ∨ btA x w i = 1 := by
  unfold btA
  omega
theorem btk_01 (x : Int) (w k : Nat) : B01 (btk x w k) := by
  intro y hy
  simp [btk] at hy
  obtain ⟨i, _, rfl⟩ := hy
  exact btA_01 x w i
theorem B01.app {A B : List Int} (h : B01 A) (k : B01 B) : B01 (A ++ B) := fun x hx => by
  rcases List.mem_append.1 hx with h1 | h1
  · exact h x h1
  · exact k x h1
theorem orB_by {a b : Int} (ha : 0 ≤ a ∧ a < 256) (hb : 0 ≤ b ∧ b < 256) : 0 ≤ orB a b ∧ orB a b < 256 := by
  unfold orB
  have := Nat.or_lt_two_pow (x := a.toNat) (y := b.toNat) (n := 8) (by omega) (by omega)
  omega
theorem sh_by {b : Int} (hb : b = 0 ∨ b = 1) (s : Nat) (hs : s ≤ 7) : 0 ≤ b * 2 ^ s ∧ b * 2 ^ s < 256 := by
  have key : ∀ s : Fin 8, (0 : Int) ≤ 2 ^ s.val ∧ (2 : Int) ^ s.val < 256 := by decide
  have := key ⟨s, by omega⟩
  rcases hb with rfl | rfl
  · simp
  · simpa using this
theorem getD_by {D : List Int} (h : By D) (i : Nat) : 0 ≤ D.getD i 0 ∧ D.getD i 0 < 256 := by
  rcases Nat.lt_or_ge i D.length with h1 | h1
  · rw [List.getD_eq_getElem?_getD, List.getElem?_eq_getElem h1]
    exact h _ (List.getElem_mem h1)
  · rw [List.getD_eq_getElem?_getD, List.getElem?_eq_none h1]
    simp
theorem byS_by {D : List Int} {n : Nat} {b : Int} (hD : By D) (hb : b = 0 ∨ b = 1) : By (byS D n b) := by
  intro x hx
  unfold byS at hx
  split at hx
  · rcases List.mem_append.1 hx with h | h
    · exact hD x h
    · simp at h
      subst h
      exact orB_by (by omega) (sh_by hb 7 (by omega))
  · rcases List.mem_or_eq_of_mem_set hx with h | h
    · exact hD x h
    · subst h
      exact orB_by (getD_by hD _) (sh_by hb _ (by omega))
theorem byt_by : ∀ B, B01 B → By (byt B) := by
  refine snoc_ind (fun _ x hx => by rw [byt_nil] at hx; cases hx) ?_
  intro B b ih h
  rw [byt_snoc]
  exact byS_by (ih fun x hx => h x (by simp [hx])) (h b (by simp))
end Go.Proofs.Ytmopkbkdfipglaa.Lists
