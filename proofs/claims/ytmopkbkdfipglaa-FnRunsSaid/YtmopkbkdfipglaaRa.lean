/- Bits read back, plainly. -/
import Derived.Test.YtmopkbkdfipglaaSq
namespace Go.Proofs.Ytmopkbkdfipglaa.Lists
open Go.ChangeShapes Go.WideShapes Go.ChangeAt Go.RowKit

/-- the bit at place p -/
def bA (D : List Int) (p : Nat) : Int := D.getD (p / 8) 0 / 2 ^ (7 - p % 8) % 2
/-- the number of k bits at place p -/
def nm (D : List Int) (p : Nat) : Nat → Int
  | 0 => 0
  | k + 1 => nm D p k * 2 + bA D (p + k)
theorem bA_01 (D : List Int) (p : Nat) : bA D p = 0 ∨ bA D p = 1 := by unfold bA; omega
theorem nm_b (D : List Int) (p : Nat) : ∀ k, 0 ≤ nm D p k ∧ nm D p k < 2 ^ k
  | 0 => by simp [nm]
  | k + 1 => by
    have ih := nm_b D p k
    have := bA_01 D (p + k)
    rw [nm, Int.pow_succ]
    omega
theorem nm_add (D : List Int) (p a : Nat) : ∀ b, nm D p (a + b) = nm D p a * 2 ^ b + nm D (p + a) b
  | 0 => by simp [nm]
  | b + 1 => by
    rw [← Nat.add_assoc, nm, nm_add D p a b, nm, Int.pow_succ, Int.add_mul, Int.mul_assoc, Nat.add_assoc]
    omega
theorem nm8 (D : List Int) (hD : By D) (i : Nat) : nm D (8 * i) 8 = D.getD i 0 := by
  have h := getD_by hD i
  have e : ∀ j : Nat, j < 8 → bA D (8 * i + j) = D.getD i 0 / 2 ^ (7 - j) % 2 := fun j hj => by
    unfold bA
    rw [show (8 * i + j) / 8 = i by omega, show (8 * i + j) % 8 = j by omega]
  simp only [nm]
  rw [e 0 (by omega), e 1 (by omega), e 2 (by omega), e 3 (by omega), e 4 (by omega), e 5 (by omega), e 6 (by omega), e 7 (by omega)]
  generalize D.getD i 0 = x at h
  simp only [show (7 : Nat) - 0 = 7 from rfl, show (7 : Nat) - 1 = 6 from rfl, show (7 : Nat) - 2 = 5 from rfl, show (7 : Nat) - 3 = 4 from rfl, show (7 : Nat) - 4 = 3 from rfl, show (7 : Nat) - 5 = 2 from rfl, show (7 : Nat) - 6 = 1 from rfl, show (7 : Nat) - 7 = 0 from rfl]
  simp only [show (2 : Int) ^ 7 = 128 from rfl, show (2 : Int) ^ 6 = 64 from rfl, show (2 : Int) ^ 5 = 32 from rfl, show (2 : Int) ^ 4 = 16 from rfl, show (2 : Int) ^ 3 = 8 from rfl, show (2 : Int) ^ 2 = 4 from rfl, show (2 : Int) ^ 1 = 2 from rfl, show (2 : Int) ^ 0 = 1 from rfl]
  omega
theorem nm16 (D : List Int) (hD : By D) : nm D 0 16 = D.getD 0 0 * 256 + D.getD 1 0 := by
  have h1 := nm8 D hD 0
  have h2 := nm8 D hD 1
  have := nm_add D 0 8 8
  rw [show (8 : Nat) + 8 = 16 from rfl] at this
  rw [this]
  simp only [Nat.mul_zero, Nat.mul_one, Nat.zero_add] at h1 h2 ⊢
  rw [h1, h2]
  rfl
theorem sh_bit : ∀ (b : Fin 2) (s m : Fin 8), ((b.val : Int) * 2 ^ s.val) / 2 ^ m.val % 2 = if m.val = s.val then (b.val : Int) else 0 := by decide +kernel
theorem tb (x m : Nat) : (x : Int) / 2 ^ m % 2 = if x.testBit m then 1 else 0 := by
  rw [Nat.testBit_eq_decide_div_mod_eq]
  have e : (x : Int) / 2 ^ m % 2 = ((x / 2 ^ m % 2 : Nat) : Int) := by norm_cast
  rw [e]
  have : x / 2 ^ m % 2 < 2 := Nat.mod_lt _ (by omega)
  by_cases h : x / 2 ^ m % 2 = 1
  · simp [h]
  · simp [h]; omega
theorem or_bit {a b : Int} (ha : 0 ≤ a) (hb : 0 ≤ b) (m : Nat) : orB a b / 2 ^ m % 2 = if a / 2 ^ m % 2 = 1 then 1 else b / 2 ^ m % 2 := by
  obtain ⟨x, rfl⟩ : ∃ x : Nat, a = x := ⟨a.toNat, by omega⟩
  obtain ⟨y, rfl⟩ : ∃ y : Nat, b = y := ⟨b.toNat, by omega⟩
  unfold orB
  simp only [Int.toNat_natCast]
  rw [tb, tb, tb, Nat.testBit_or]
  cases x.testBit m <;> cases y.testBit m <;> simp
/-- the bits that some bytes hold, noughts behind the last -/
theorem bA_byt : ∀ B, B01 B → ∀ p, p < 8 * (byt B).length → bA (byt B) p = B.getD p 0 := by
  refine snoc_ind (fun _ p hp => by rw [byt_nil] at hp; simp at hp) ?_
  intro B b ih h p hp
  have hB : B01 B := fun x hx => h x (by simp [hx])
  have hb : b = 0 ∨ b = 1 := h b (by simp)
  have ih := ih hB
  have lB := byt_len B
  have lN := byt_len (B ++ [b])
  have l1 : (B ++ [b]).length = B.length + 1 := by simp
  rw [l1] at lN
  rw [lN] at hp
  have gB : ∀ q, (B ++ [b]).getD q 0 = if q < B.length then B.getD q 0 else if q = B.length then b else 0 := fun q => by
    simp only [List.getD_eq_getElem?_getD]
    by_cases c : q < B.length
    · rw [List.getElem?_append_left c, if_pos c]
    · rw [if_neg c]
      by_cases d : q = B.length
      · subst d; simp
      · rw [if_neg d, List.getElem?_eq_none (by rw [l1]; omega)]; rfl
  obtain ⟨bn, hbn⟩ : ∃ bn : Fin 2, b = (bn.val : Int) := by
    rcases hb with rfl | rfl
    · exact ⟨0, rfl⟩
    · exact ⟨1, rfl⟩
  rw [byt_snoc, byS, gB]
  by_cases c8 : B.length % 8 = 0
  · rw [if_pos c8]
    unfold bA
    simp only [List.getD_eq_getElem?_getD]
    by_cases c : p < B.length
    · rw [if_pos c, List.getElem?_append_left (by omega)]
      have := ih p (by omega)
      unfold bA at this
      simp only [List.getD_eq_getElem?_getD] at this
      exact this
    · rw [if_neg c, List.getElem?_append_right (by omega), show p / 8 - (byt B).length = 0 by omega]
      simp only [List.getElem?_cons_zero, Option.getD_some]
      rw [or_bit (by omega) (sh_by hb 7 (by omega)).1, hbn]
      have := sh_bit bn 7 ⟨7 - p % 8, by omega⟩
      simp only [show ((7 : Fin 8) : Fin 8).val = 7 from rfl] at this
      rw [this]
      simp only [Int.zero_ediv, Int.zero_emod]
      rw [if_neg (by omega)]
      by_cases d : p = B.length
      · rw [if_pos d, if_pos (by omega)]
      · rw [if_neg d, if_neg (by omega)]
  · rw [if_neg c8]
    have lp : 0 < (byt B).length := by omega
    by_cases c : p / 8 = (byt B).length - 1
    · have e0 := ih p (by omega)
      unfold bA at e0 ⊢
      have eb := getD_by (byt_by B hB) ((byt B).length - 1)
      rw [c] at e0 ⊢
      rw [show ((byt B).set ((byt B).length - 1) (orB ((byt B).getD ((byt B).length - 1) 0) (b * 2 ^ (7 - B.length % 8)))).getD ((byt B).length - 1) 0 = orB ((byt B).getD ((byt B).length - 1) 0) (b * 2 ^ (7 - B.length % 8)) by
        simp [List.getD_eq_getElem?_getD, show (byt B).length - 1 < (byt B).length by omega]]
      rw [or_bit eb.1 (sh_by hb _ (by omega)).1, e0, hbn]
      have := sh_bit bn ⟨7 - B.length % 8, by omega⟩ ⟨7 - p % 8, by omega⟩
      simp only at this
      rw [this]
      by_cases d : p < B.length
      · rw [if_pos d]
        have h01 : B.getD p 0 = 0 ∨ B.getD p 0 = 1 := by
          rw [List.getD_eq_getElem?_getD, List.getElem?_eq_getElem d]
          exact hB _ (List.getElem_mem d)
        rw [if_neg (show ¬ 7 - p % 8 = 7 - B.length % 8 by omega)]
        rcases h01 with h | h <;> rw [h] <;> simp
      · rw [if_neg d]
        have hz : B.getD p 0 = 0 := by rw [List.getD_eq_getElem?_getD, List.getElem?_eq_none (by omega)]; rfl
        rw [hz, if_neg (by omega)]
        by_cases f : p = B.length
        · rw [if_pos f, if_pos (by omega)]
        · rw [if_neg f, if_neg (by omega)]
    · have e0 := ih p (by omega)
      unfold bA at e0 ⊢
      rw [show ((byt B).set ((byt B).length - 1) (orB ((byt B).getD ((byt B).length - 1) 0) (b * 2 ^ (7 - B.length % 8)))).getD (p / 8) 0 = (byt B).getD (p / 8) 0 by
        simp only [List.getD_eq_getElem?_getD]
        rw [List.getElem?_set_ne (by omega)]]
      rw [e0]
      rw [if_pos (by omega)]
/-- the number that lies between two lists of bits -/
theorem nm_of (B A C : List Int) (x : Int) (w : Nat) (hB : B01 B) (e : B = A ++ bts x w ++ C) (hx : 0 ≤ x ∧ x < 2 ^ w) : nm (byt B) A.length w = x := by
  have lB : B.length = A.length + w + C.length := by rw [e, List.length_append, List.length_append, btk_len]
  have lb := byt_len B
  have hb : ∀ i, i < w → bA (byt B) (A.length + i) = btA x w i := fun i hi => by
    rw [bA_byt B hB _ (by omega), e]
    simp only [List.getD_eq_getElem?_getD]
    rw [List.getElem?_append_left (by simp [btk_len]; omega), List.getElem?_append_right (by omega), Nat.add_sub_cancel_left]
    simp [btk, hi]
  have key : ∀ j, j ≤ w → nm (byt B) A.length j = x / 2 ^ (w - j) := by
    intro j
    induction j with
    | zero =>
      intro _
      rw [nm, Nat.sub_zero]
      exact (Int.ediv_eq_zero_of_lt hx.1 hx.2).symm
    | succ j ih =>
      intro hj
      rw [nm, ih (by omega), hb j (by omega)]
      unfold btA
      rw [show w - 1 - j = w - (j + 1) by omega, show w - j = w - (j + 1) + 1 by omega, Int.pow_succ]
      have : x / (2 ^ (w - (j + 1)) * 2) = x / 2 ^ (w - (j + 1)) / 2 := by
        rw [Int.ediv_ediv, if_neg (fun h => absurd h.1 (Int.not_lt.2 (Int.le_of_lt (Int.pow_pos (by omega))))), Int.sub_zero]
      rw [this]
      omega
  rw [key w (Nat.le_refl _), Nat.sub_self]
  simp
end Go.Proofs.Ytmopkbkdfipglaa.Lists
