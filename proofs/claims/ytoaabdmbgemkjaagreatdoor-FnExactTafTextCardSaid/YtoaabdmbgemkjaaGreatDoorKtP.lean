/- A sky's text, plainly. -/
import Derived.Test.YtoaabdmbgemkjaaGreatDoorSl
import Derived.Test.YtoaabdmbgemkjaaGreatDoorLibC
namespace Go.Proofs.YtoaabdmbgemkjaaGreatDoor.Kt
open Go.ChangeShapes Go.WideShapes Go.ChangeAt Go.RowKit
open Go.Proofs.YtoaabdmbgemkjaaGreatDoor.Dec Go.Proofs.YtoaabdmbgemkjaaGreatDoor.Sk Go.Proofs.YtoaabdmbgemkjaaGreatDoor.Al

abbrev dg (n : Int) : List UInt8 := Lib.decDigits n.toNat
def pw (d p : Int) : List (List UInt8) := if d = 99 then [[86, 82, 66] ++ pad 2 (dg p) ++ [75, 84]] else if 0 ≤ d then [pad 3 (dg (d * 10)) ++ pad 2 (dg p) ++ [75, 84]] else []
def pv (v : Int) : List (List UInt8) := if 0 ≤ v then [pad 4 (dg v)] else []
def pW (W : ByteArray) : List (List UInt8) := if W.toList = [] then [] else [W.data.toList]
def pc (C : ByteArray) (b : Int) : List (List UInt8) := if C.toList = [83, 75, 67] then [C.data.toList] else if C.toList = [] then [] else [C.data.toList ++ pad 3 (dg b)]
def prt (d p v : Int) (W C : ByteArray) (b : Int) : List (List UInt8) := pw d p ++ pv v ++ pW W ++ pc C b
def strs (L : List (List UInt8)) : List Value := L.map fun l => .string ⟨l.toArray⟩
theorem strs_len (L : List (List UInt8)) : (strs L).length = L.length := by simp [strs]
theorem strs_snoc (L : List (List UInt8)) (x : List UInt8) : strs (L ++ [x]) = strs L ++ [.string ⟨x.toArray⟩] := by simp [strs]

structure Fit (d p v : Int) (W C : ByteArray) (b : Int) : Prop where
  d : d = -1 ∨ (0 ≤ d ∧ d ≤ 36) ∨ d = 99
  p : 0 ≤ p ∧ p ≤ 99
  v : -1 ≤ v ∧ v ≤ 9999
  W : W.toList.length ≤ 4
  C : C.toList.length ≤ 3
  b : 0 ≤ b ∧ b ≤ 200
theorem fit_of {d p v : Int} {W C : ByteArray} {b : Int} (h : ok d p v W C b = true) : Fit d p v W C b := by
  unfold ok at h
  simp only [Bool.and_eq_true] at h
  obtain ⟨h1, h2, h3, h4⟩ := h
  have hd : (d = -1 ∨ (0 ≤ d ∧ d ≤ 36) ∨ d = 99) ∧ (0 ≤ p ∧ p ≤ 99) := by
    unfold wnd at h1
    split at h1
    · rename_i hc
      simp at hc h1
      omega
    · simp [inn] at h1
      omega
  refine ⟨hd.1, hd.2, by simpa [inn] using h2, ?_, ?_, ?_⟩
  · unfold wth isW at h3
    simp only [Bool.or_eq_true, beq_iff_eq] at h3
    rcases h3 with h | h | h | h | h | h | h | h | h | h | h <;> rw [h] <;> simp
  · unfold cld isC at h4
    split at h4
    · rename_i hc
      simp only [Bool.or_eq_true, beq_iff_eq] at hc
      rcases hc with h | h <;> rw [h] <;> simp
    · simp only [Bool.and_eq_true, Bool.or_eq_true, beq_iff_eq] at h4
      rcases h4.1 with h | h | h | h <;> rw [h] <;> simp
  · unfold cld at h4
    split at h4
    · simp at h4; omega
    · simp [inn] at h4; omega
theorem len3 (n : Nat) (h : n ≤ 999) : (Lib.decDigits n).length ≤ 3 := by
  by_cases c : n < 10
  · rw [Lib.decDigits_one c]; simp
  · by_cases c2 : n < 100
    · have := dec_len2 n (by omega); omega
    · have := dec_len2 (n / 10) (by omega)
      rw [Lib.decDigits, dif_neg c]
      simp
      omega
theorem pad_le (k n : Nat) (hk : k = 2 ∧ n ≤ 99 ∨ k = 3 ∧ n ≤ 999 ∨ k = 4 ∧ n ≤ 9999) : (pad k (Lib.decDigits n)).length = k := by
  rcases hk with ⟨rfl, h⟩ | ⟨rfl, h⟩ | ⟨rfl, h⟩
  · exact pad_len _ _ (dec_len2 n h)
  · exact pad_len _ _ (len3 n h)
  · exact pad_len _ _ (dec_len4 n h)
theorem tl (a : ByteArray) : a.toList = a.data.toList := Lib.toList_data a
theorem back (a : ByteArray) : (⟨a.data.toList.toArray⟩ : ByteArray) = a := by simp
theorem prt_le {d p v : Int} {W C : ByteArray} {b : Int} (h : Fit d p v W C b) : (prt d p v W C b).length ≤ 4 ∧ ∀ x ∈ prt d p v W C b, x.length ≤ 20 := by
  have hp2 : (pad 2 (dg p)).length = 2 := pad_le 2 _ (.inl ⟨rfl, by have := h.p; omega⟩)
  have hv4 : 0 ≤ v → (pad 4 (dg v)).length = 4 := fun _ => pad_le 4 _ (.inr (.inr ⟨rfl, by have := h.v; omega⟩))
  have hd3 : d ≠ 99 → (pad 3 (dg (d * 10))).length = 3 := fun _ => pad_le 3 _ (.inr (.inl ⟨rfl, by have := h.d; omega⟩))
  have hb3 : (pad 3 (dg b)).length = 3 := pad_le 3 _ (.inr (.inl ⟨rfl, by have := h.b; omega⟩))
  have hW := h.W
  have hC := h.C
  rw [tl] at hW hC
  have l1 : (pw d p).length ≤ 1 := by unfold pw; split; simp; split <;> simp
  have l2 : (pv v).length ≤ 1 := by unfold pv; split <;> simp
  have l3 : (pW W).length ≤ 1 := by unfold pW; split <;> simp
  have l4 : (pc C b).length ≤ 1 := by unfold pc; split; simp; split <;> simp
  refine ⟨by unfold prt; simp only [List.length_append]; omega, fun x hx => ?_⟩
  unfold prt at hx
  simp only [List.mem_append] at hx
  rcases hx with ((hx | hx) | hx) | hx
  · unfold pw at hx
    split at hx
    · simp only [List.mem_singleton] at hx; subst hx; simp only [List.length_append, List.length_cons, List.length_nil]; omega
    · rename_i h9
      split at hx
      · simp only [List.mem_singleton] at hx; subst hx; have := hd3 h9; simp only [List.length_append, List.length_cons, List.length_nil]; omega
      · cases hx
  · unfold pv at hx
    split at hx
    · rename_i h0; simp only [List.mem_singleton] at hx; subst hx; have := hv4 h0; omega
    · cases hx
  · unfold pW at hx
    split at hx
    · cases hx
    · simp only [List.mem_singleton] at hx; subst hx; omega
  · unfold pc at hx
    split at hx
    · simp only [List.mem_singleton] at hx; subst hx; omega
    · split at hx
      · cases hx
      · simp only [List.mem_singleton] at hx; subst hx; simp only [List.length_append]; omega
theorem join_snoc (L : List (List UInt8)) (x : List UInt8) (h : L ≠ []) : Lib.join (L ++ [x]) [32] = Lib.join L [32] ++ [32] ++ x := by
  unfold Lib.join
  induction L with
  | nil => exact absurd rfl h
  | cons y r ih =>
    cases r with
    | nil => simp [List.intercalate]
    | cons z s =>
      have := ih (by simp)
      simp [List.intercalate, List.intersperse] at this ⊢
      exact this
theorem join_one (x : List UInt8) : Lib.join [x] [32] = x := by simp [Lib.join, List.intercalate]
theorem join_len (L : List (List UInt8)) (h : ∀ x ∈ L, x.length ≤ 20) : (Lib.join L [32]).length ≤ 21 * L.length := by
  unfold Lib.join
  induction L with
  | nil => simp [List.intercalate]
  | cons y r ih =>
    have hy := h y (by simp)
    cases r with
    | nil => simp [List.intercalate]; omega
    | cons z s =>
      have := ih (fun x hx => h x (by simp at hx ⊢; exact .inr hx))
      simp [List.intercalate, List.intersperse] at this ⊢
      omega
/-- a sky's text -/
def txt (d p v : Int) (W C : ByteArray) (b : Int) : List UInt8 := Lib.join (prt d p v W C b) [32]
end Go.Proofs.YtoaabdmbgemkjaaGreatDoor.Kt
