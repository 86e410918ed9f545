/- What is read back, plainly. -/
import Derived.Test.YtmopkbkdfipglaaRa
namespace Go.Proofs.Ytmopkbkdfipglaa.Lists
open Go.ChangeShapes Go.WideShapes Go.ChangeAt Go.RowKit

def wdD (D : List Int) (p : Nat) : Nat := (nm D (p + 48) 8).toNat
/-- where a group begins -/
def psk (D : List Int) : Nat → Nat
  | 0 => 16
  | k + 1 => psk D k + 56 + 16 * wdD D (psk D k)
def lsD (D : List Int) (k : Nat) : Int := nm D (psk D k) 48 - 4398046511104
def wk (D : List Int) (k : Nat) : Nat := wdD D (psk D k)
def dlD (D : List Int) (j : Nat) : Int := lsD D (j / 16) + nm D (psk D (j / 16) + 56 + (j % 16) * wk D (j / 16)) (wk D (j / 16))
def smD (D : List Int) : Nat → Int
  | 0 => 0
  | j + 1 => smD D j + dlD D j
def rlD (D : List Int) (n : Nat) : List Int := (List.range n).map fun i => smD D (i + 1)
theorem rlD_len (D : List Int) (n : Nat) : (rlD D n).length = n := by simp [rlD]
theorem rlD_snoc (D : List Int) (n : Nat) : rlD D (n + 1) = rlD D n ++ [smD D (n + 1)] := by simp [rlD, List.range_succ]
theorem psk_8 (D : List Int) : ∀ k, psk D k % 8 = 0
  | 0 => by rw [psk]
  | k + 1 => by have := psk_8 D k; rw [psk]; omega
theorem wdD_b (D : List Int) (p : Nat) : wdD D p < 256 := by
  have := nm_b D (p + 48) 8
  unfold wdD
  omega
/-- what a list of bytes tells -/
def RD (D L : List Int) : Prop := sml 1099511627776 L = true ∧ pk L = D
theorem pkB_pre (L : List Int) (k : Nat) : ∀ g, k ≤ g → ∃ R, pkB L g = pkB L k ++ R
  | 0, h => ⟨[], by rw [show k = 0 by omega]; simp⟩
  | g + 1, h => by
    by_cases e : k = g + 1
    · exact ⟨[], by rw [e]; simp⟩
    · obtain ⟨R, hR⟩ := pkB_pre L k g (by omega)
      exact ⟨R ++ grB (gr L g), by rw [pkB_succ, hR, List.append_assoc]⟩
theorem cod1_pre (G : List Int) (i : Nat) : ∀ n, i ≤ n → ∃ R, cod1 G n = cod1 G i ++ R
  | 0, h => ⟨[], by rw [show i = 0 by omega]; simp⟩
  | n + 1, h => by
    by_cases e : i = n + 1
    · exact ⟨[], by rw [e]; simp⟩
    · obtain ⟨R, hR⟩ := cod1_pre G i n (by omega)
      exact ⟨R ++ bts (G.getD n 0 - mnL G) (wdG G), by rw [cod1_succ, hR, List.append_assoc]⟩
theorem dif_sum (L : List Int) : ∀ j, j ≤ L.length → ah L j = (if j = 0 then 0 else ah L (j - 1) + difA L (j - 1)) := by
  intro j hj
  by_cases h : j = 0
  · rw [if_pos h, h]; rfl
  · rw [if_neg h]
    obtain ⟨i, rfl⟩ : ∃ i, j = i + 1 := ⟨j - 1, by omega⟩
    rw [Nat.add_sub_cancel, ah_succ]
    unfold difA
    omega
theorem RD.back {D L : List Int} (h : RD D L) : By D ∧ Rg L ∧ 2 ≤ D.length ∧ nm D 0 16 = (L.length : Int) ∧ (∀ k, k < ng L.length → wk D k ≤ 43 ∧ psk D k + 56 + (gr L k).length * wk D k ≤ 8 * D.length) ∧ rlD D L.length = L := by
  obtain ⟨hs, rfl⟩ := h
  have hr : Rg L := rg_sml.1 hs
  obtain ⟨BB, hBB⟩ : ∃ BB, BB = pkB L (ng L.length) := ⟨_, rfl⟩
  have h01 : B01 BB := by rw [hBB]; exact pkB_01 L _
  have lN := byt_len BB
  have epk : pk L = byt BB := by rw [pk, hBB]
  rw [epk]
  have l0 : 16 ≤ BB.length := by
    obtain ⟨R, hR⟩ := pkB_pre L 0 (ng L.length) (by omega)
    rw [hBB, hR, pkB_zero, List.length_append, btk_len]
    omega
  have hgl : ∀ k, k < ng L.length → (gr L k).length = min 16 (L.length - 16 * k) ∧ gr L k ≠ [] := fun k hk => by
    have h1 := gr_len L k
    exact ⟨h1, fun e => by rw [e] at h1; unfold ng at hk; simp at h1; omega⟩
  have hk : ∀ k, k < ng L.length → nm (byt BB) (pkB L k).length 48 = mnL (gr L k) + 4398046511104 ∧ wdD (byt BB) (pkB L k).length = wdG (gr L k) ∧
      (∀ i, i < (gr L k).length → nm (byt BB) ((pkB L k).length + 56 + i * wdG (gr L k)) (wdG (gr L k)) = (gr L k).getD i 0 - mnL (gr L k)) ∧ (pkB L k).length + 56 + (gr L k).length * wdG (gr L k) ≤ 8 * (byt BB).length := by
    intro k hk
    obtain ⟨R, hR⟩ := pkB_pre L (k + 1) (ng L.length) (by omega)
    rw [← hBB, pkB_succ, grB, hd1] at hR
    obtain ⟨gl, gne⟩ := hgl k hk
    have b1 := mn_b hr k gne
    have b2 := mx_b hr k gne
    have b3 := wd_b hr k gne
    refine ⟨?_, ?_, ?_, ?_⟩
    · exact nm_of BB (pkB L k) (bts (wdG (gr L k) : Int) 8 ++ cod1 (gr L k) (gr L k).length ++ R) _ 48 h01 (by rw [hR]; simp only [List.append_assoc]) ⟨by omega, by rw [show (2 : Int) ^ 48 = 281474976710656 by decide]; omega⟩
    · have := nm_of BB (pkB L k ++ bts (mnL (gr L k) + 4398046511104) 48) (cod1 (gr L k) (gr L k).length ++ R) (wdG (gr L k) : Int) 8 h01 (by rw [hR]; simp only [List.append_assoc]) ⟨by omega, by omega⟩
      rw [List.length_append, btk_len] at this
      unfold wdD
      rw [this]
      omega
    · intro i hi
      obtain ⟨R2, hR2⟩ := cod1_pre (gr L k) (i + 1) (gr L k).length (by omega)
      rw [cod1_succ] at hR2
      have hm : (gr L k).getD i 0 ∈ gr L k := mem_at _ i hi
      have m1 := (mnL_is _ gne).2 _ hm
      have m2 := (mxL_is _ gne).2 _ hm
      have hw := wdN_lt (mxL (gr L k) - mnL (gr L k)).toNat
      have := nm_of BB (pkB L k ++ bts (mnL (gr L k) + 4398046511104) 48 ++ bts (wdG (gr L k) : Int) 8 ++ cod1 (gr L k) i) (R2 ++ R) ((gr L k).getD i 0 - mnL (gr L k)) (wdG (gr L k)) h01 (by rw [hR, hR2]; simp only [List.append_assoc]) ⟨by omega, by
        unfold wdG
        have h2 : ((2 : Int) ^ wdN (mxL (gr L k) - mnL (gr L k)).toNat) = ((2 ^ wdN (mxL (gr L k) - mnL (gr L k)).toNat : Nat) : Int) := by norm_cast
        rw [h2]
        omega⟩
      rw [List.length_append, List.length_append, List.length_append, btk_len, btk_len, cod1_len] at this
      rw [show (pkB L k).length + 56 + i * wdG (gr L k) = (pkB L k).length + 48 + 8 + i * wdG (gr L k) by omega]
      exact this
    · have : BB.length = (pkB L k).length + (48 + 8 + (gr L k).length * wdG (gr L k)) + R.length := by
        rw [hR]
        simp only [List.length_append, btk_len, cod1_len]
        try omega
      omega
  have hp : ∀ k, k < ng L.length → psk (byt BB) k = (pkB L k).length := by
    intro k
    induction k with
    | zero => intro _; rw [pkB_zero, btk_len]; rfl
    | succ k ih =>
      intro hk'
      have h1 := ih (by omega)
      have h2 := (hk k (by omega)).2.1
      rw [psk, h1, h2, pkB_succ, List.length_append, grB_len, gr_full L k hk']
      omega
  have hn : nm (byt BB) 0 16 = (L.length : Int) := by
    obtain ⟨R, hR⟩ := pkB_pre L 0 (ng L.length) (by omega)
    rw [← hBB, pkB_zero] at hR
    have hl := hr.1
    exact nm_of BB [] R (L.length : Int) 16 h01 (by rw [hR]; rfl) ⟨by omega, by omega⟩
  have hsm : ∀ j, j ≤ L.length → smD (byt BB) j = ah L j := by
    intro j
    induction j with
    | zero => intro _; rfl
    | succ j ih =>
      intro hj
      have hkj : j / 16 < ng L.length := by unfold ng; omega
      obtain ⟨q1, q2, q3, q4⟩ := hk (j / 16) hkj
      have q5 := hp (j / 16) hkj
      obtain ⟨gl, gne⟩ := hgl (j / 16) hkj
      have hi : j % 16 < (gr L (j / 16)).length := by rw [gl]; omega
      rw [smD, ih (by omega), dif_sum L (j + 1) hj, if_neg (by omega), Nat.add_sub_cancel]
      have : dlD (byt BB) j = difA L j := by
        unfold dlD lsD wk
        rw [q5, q2, q3 _ hi, q1, gr_get L (j / 16) (j % 16) (by omega) (by omega), show 16 * (j / 16) + j % 16 = j by omega]
        omega
      rw [this]
  refine ⟨byt_by BB h01, hr, by omega, hn, fun k hk' => ?_, ?_⟩
  · obtain ⟨q1, q2, q3, q4⟩ := hk k hk'
    have q5 := hp k hk'
    have e : wk (byt BB) k = wdG (gr L k) := by unfold wk; rw [q5, q2]
    rw [e, q5]
    exact ⟨wd_b hr k (hgl k hk').2, q4⟩
  · refine List.ext_getElem (by rw [rlD_len]) fun i h1 h2 => ?_
    rw [rlD_len] at h1
    have := hsm (i + 1) (by omega)
    rw [ah_succ] at this
    simp only [rlD, List.getElem_map, List.getElem_range]
    rw [this]
    simp [List.getD_eq_getElem?_getD, h2]
theorem RD.one {D L M : List Int} (h : RD D L) (k : RD D M) : L = M := by
  have h1 := h.back
  have h2 := k.back
  have : (L.length : Int) = (M.length : Int) := by rw [← h1.2.2.2.1, ← h2.2.2.2.1]
  have e : L.length = M.length := by omega
  rw [← h1.2.2.2.2.2, ← h2.2.2.2.2.2, e]
end Go.Proofs.Ytmopkbkdfipglaa.Lists
