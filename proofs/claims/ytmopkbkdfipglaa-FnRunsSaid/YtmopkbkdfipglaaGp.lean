/- Groups of numbers, plainly. -/
import Derived.Test.YtmopkbkdfipglaaMm
import Derived.Test.YtmopkbkdfipglaaBw
namespace Go.Proofs.Ytmopkbkdfipglaa.Lists
open Go.ChangeShapes Go.WideShapes Go.ChangeAt Go.RowKit

def ah (L : List Int) (k : Nat) : Int := if k = 0 then 0 else L.getD (k - 1) 0
def difA (L : List Int) (i : Nat) : Int := L.getD i 0 - ah L i
def difk (L : List Int) (k : Nat) : List Int := (List.range k).map (difA L)
abbrev dif (L : List Int) : List Int := difk L L.length
theorem difk_len (L : List Int) (k : Nat) : (difk L k).length = k := by simp [difk]
theorem difk_snoc (L : List Int) (k : Nat) : difk L (k + 1) = difk L k ++ [difA L k] := by simp [difk, List.range_succ]
theorem difk_get (L : List Int) (k i : Nat) (h : i < k) : (difk L k).getD i 0 = difA L i := by simp [difk, List.getD_eq_getElem?_getD, h]
theorem ah_succ (L : List Int) (k : Nat) : ah L (k + 1) = L.getD k 0 := by simp [ah]
def gr (L : List Int) (k : Nat) : List Int := ((dif L).drop (16 * k)).take 16
theorem gr_len (L : List Int) (k : Nat) : (gr L k).length = min 16 (L.length - 16 * k) := by simp [gr, difk_len]
theorem gr_get (L : List Int) (k i : Nat) (h : i < 16) (h2 : 16 * k + i < L.length) : (gr L k).getD i 0 = difA L (16 * k + i) := by
  rw [← difk_get L L.length _ h2]
  simp only [gr, List.getD_eq_getElem?_getD, List.getElem?_take, if_pos h, List.getElem?_drop]
def mnL : List Int → Int
  | [] => 0
  | [a] => a
  | a :: b :: l => min a (mnL (b :: l))
def mxL : List Int → Int
  | [] => 0
  | [a] => a
  | a :: b :: l => max a (mxL (b :: l))
theorem mnL_is : ∀ (G : List Int), G ≠ [] → IsMin (mnL G) G
  | [], h => absurd rfl h
  | [a], _ => min_one a
  | a :: b :: l, _ => by
    have := mnL_is (b :: l) (by simp)
    rw [mnL]
    refine ⟨?_, fun x hx => ?_⟩
    · rcases Int.le_total a (mnL (b :: l)) with h | h
      · rw [Int.min_eq_left h]; simp
      · rw [Int.min_eq_right h]; exact List.mem_cons_of_mem _ this.1
    · rcases List.mem_cons.1 hx with rfl | h
      · exact Int.min_le_left _ _
      · exact Int.le_trans (Int.min_le_right _ _) (this.2 x h)
theorem mxL_is : ∀ (G : List Int), G ≠ [] → IsMax (mxL G) G
  | [], h => absurd rfl h
  | [a], _ => max_one a
  | a :: b :: l, _ => by
    have := mxL_is (b :: l) (by simp)
    rw [mxL]
    refine ⟨?_, fun x hx => ?_⟩
    · rcases Int.le_total a (mxL (b :: l)) with h | h
      · rw [Int.max_eq_right h]; exact List.mem_cons_of_mem _ this.1
      · rw [Int.max_eq_left h]; simp
    · rcases List.mem_cons.1 hx with rfl | h
      · exact Int.le_max_left _ _
      · exact Int.le_trans (this.2 x h) (Int.le_max_right _ _)
/-- how many bits a number wants -/
def wdN (x : Nat) : Nat := if x = 0 then 0 else Nat.log2 x + 1
theorem wdN_lt (x : Nat) : x < 2 ^ wdN x := by
  unfold wdN
  split
  · subst_vars; simp
  · exact Nat.lt_log2_self
theorem wdN_ge (x : Nat) : wdN x = 0 ∨ 2 ^ (wdN x - 1) ≤ x := by
  unfold wdN
  split
  · exact .inl rfl
  · rename_i h
    exact .inr (by rw [Nat.add_sub_cancel]; exact Nat.log2_self_le h)
theorem wdN_unique {x w : Nat} (h : x < 2 ^ w) (h2 : w = 0 ∨ 2 ^ (w - 1) ≤ x) : w = wdN x := by
  have a := wdN_lt x
  have b := wdN_ge x
  rcases Nat.lt_trichotomy w (wdN x) with q | q | q
  · exfalso
    rcases b with b | b
    · omega
    · have := Nat.pow_le_pow_right (n := 2) (by omega) (show w ≤ wdN x - 1 by omega)
      omega
  · exact q
  · exfalso
    rcases h2 with b | b
    · omega
    · have := Nat.pow_le_pow_right (n := 2) (by omega) (show wdN x ≤ w - 1 by omega)
      omega
def wdG (G : List Int) : Nat := wdN (mxL G - mnL G).toNat
def cod1 (G : List Int) (k : Nat) : List Int := (List.range k).flatMap fun i => bts (G.getD i 0 - mnL G) (wdG G)
theorem cod1_succ (G : List Int) (k : Nat) : cod1 G (k + 1) = cod1 G k ++ bts (G.getD k 0 - mnL G) (wdG G) := by simp [cod1, List.range_succ]
theorem cod1_len (G : List Int) : ∀ k, (cod1 G k).length = k * wdG G
  | 0 => by simp [cod1]
  | k + 1 => by rw [cod1_succ, List.length_append, cod1_len G k, btk_len, Nat.succ_mul]
def hd1 (G : List Int) : List Int := bts (mnL G + 4398046511104) 48 ++ bts (wdG G : Int) 8
theorem hd1_len (G : List Int) : (hd1 G).length = 56 := by simp [hd1, btk_len]
def grB (G : List Int) : List Int := hd1 G ++ cod1 G G.length
theorem grB_len (G : List Int) : (grB G).length = 56 + G.length * wdG G := by rw [grB, List.length_append, hd1_len, cod1_len]
/-- the bits of the first groups -/
def pkB (L : List Int) (k : Nat) : List Int := bts (L.length : Int) 16 ++ (List.range k).flatMap fun j => grB (gr L j)
theorem pkB_succ (L : List Int) (k : Nat) : pkB L (k + 1) = pkB L k ++ grB (gr L k) := by simp [pkB, List.range_succ]
theorem pkB_zero (L : List Int) : pkB L 0 = bts (L.length : Int) 16 := by simp [pkB]
def ng (n : Nat) : Nat := (n + 15) / 16
def pk (L : List Int) : List Int := byt (pkB L (ng L.length))
theorem gr_full (L : List Int) (k : Nat) (h : k + 1 < ng L.length) : (gr L k).length = 16 := by unfold ng at h; rw [gr_len]; omega
theorem pkB_mod (L : List Int) : ∀ k, k < ng L.length → (pkB L k).length % 8 = 0
  | 0, _ => by rw [pkB_zero, btk_len]
  | k + 1, h => by
    have := pkB_mod L k (by omega)
    rw [pkB_succ, List.length_append, grB_len, gr_full L k h]
    omega
/-- the differences of right numbers -/
def Rg (L : List Int) : Prop := L.length ≤ 4096 ∧ ∀ i, i < L.length → -1099511627776 ≤ L.getD i 0 ∧ L.getD i 0 ≤ 1099511627776
theorem ah_b {L : List Int} (h : Rg L) (k : Nat) (hk : k ≤ L.length) : -1099511627776 ≤ ah L k ∧ ah L k ≤ 1099511627776 := by
  unfold ah
  split
  · omega
  · exact h.2 (k - 1) (by omega)
theorem difA_b {L : List Int} (h : Rg L) (i : Nat) (hi : i < L.length) : -2199023255552 ≤ difA L i ∧ difA L i ≤ 2199023255552 := by
  unfold difA
  have := h.2 i hi
  have := ah_b h i (by omega)
  omega
theorem gr_b {L : List Int} (h : Rg L) (k : Nat) (x : Int) (hx : x ∈ gr L k) : -2199023255552 ≤ x ∧ x ≤ 2199023255552 := by
  have h1 : x ∈ dif L := List.mem_of_mem_drop (List.mem_of_mem_take hx)
  simp [difk] at h1
  obtain ⟨i, hi, rfl⟩ := h1
  exact difA_b h i hi
theorem mn_b {L : List Int} (h : Rg L) (k : Nat) (hg : gr L k ≠ []) : -2199023255552 ≤ mnL (gr L k) ∧ mnL (gr L k) ≤ 2199023255552 := gr_b h k _ (mnL_is _ hg).1
theorem mx_b {L : List Int} (h : Rg L) (k : Nat) (hg : gr L k ≠ []) : -2199023255552 ≤ mxL (gr L k) ∧ mxL (gr L k) ≤ 2199023255552 := gr_b h k _ (mxL_is _ hg).1
theorem mnmx {G : List Int} (h : G ≠ []) : mnL G ≤ mxL G := (mnL_is G h).2 _ (mxL_is G h).1
theorem wd_b {L : List Int} (h : Rg L) (k : Nat) (hg : gr L k ≠ []) : wdG (gr L k) ≤ 43 := by
  have h1 := mn_b h k hg
  have h2 := mx_b h k hg
  have h3 := wdN_ge (mxL (gr L k) - mnL (gr L k)).toNat
  unfold wdG
  rcases h3 with h3 | h3
  · omega
  · rcases Nat.lt_or_ge 43 (wdN (mxL (gr L k) - mnL (gr L k)).toNat) with q | q
    · exfalso
      have := Nat.pow_le_pow_right (n := 2) (by omega) (show 43 ≤ wdN (mxL (gr L k) - mnL (gr L k)).toNat - 1 by omega)
      have e : (2 : Nat) ^ 43 = 8796093022208 := by decide
      omega
    · exact q
theorem grB_01 (G : List Int) : B01 (grB G) := by
  refine ((btk_01 _ _ _).app (btk_01 _ _ _)).app ?_
  intro x hx
  simp only [cod1, List.mem_flatMap] at hx
  obtain ⟨i, _, hx⟩ := hx
  exact btk_01 _ _ _ x hx
theorem pkB_01 (L : List Int) : ∀ k, B01 (pkB L k)
  | 0 => by rw [pkB_zero]; exact btk_01 _ _ _
  | k + 1 => by rw [pkB_succ]; exact (pkB_01 L k).app (grB_01 _)
end Go.Proofs.Ytmopkbkdfipglaa.Lists
