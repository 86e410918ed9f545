/- Clean: the places of a text's runes, and what is written for each. -/
import Derived.Test.YtpehoakdhbicfaaDoorEnc
import Derived.Test.YtpehoakdhbicfaaDoorShelf
namespace Go.Proofs.YtpehoakdhbicfaaDoor.Ru
open Go.RowKit

def pos (s : ByteArray) : Nat → Nat
  | 0 => 0
  | k + 1 => pos s k + wd s (pos s k)
def hid (r : Nat) : Prop := (r ≠ 10 ∧ r < 32) ∨ (127 ≤ r ∧ r < 160)
instance (r : Nat) : Decidable (hid r) := by unfold hid; infer_instance
/-- what Clean writes for the rune at a place -/
def cl (s : ByteArray) (p : Nat) : List UInt8 :=
  if bad s p then [63] else if (Utf8.decode s p).1 = 13 then [] else if hid (Utf8.decode s p).1 then [32] else (s.extract p (p + wd s p)).data.toList
def outs (s : ByteArray) : Nat → List UInt8
  | 0 => []
  | k + 1 => outs s k ++ cl s (pos s k)
def lows (s : ByteArray) (k : Nat) : Prop := ∀ j, j < k → pos s j < s.size
def Ends (s : ByteArray) (k : Nat) : Prop := ¬ pos s k < s.size ∧ lows s k
theorem lows_zero (s : ByteArray) : lows s 0 := fun j hj => absurd hj (by omega)
theorem lows_succ {s : ByteArray} {k : Nat} (h : lows s k) (hk : pos s k < s.size) : lows s (k + 1) := fun j hj => by
  by_cases e : j = k
  · rw [e]; exact hk
  · exact h j (by omega)
theorem ends_one {s : ByteArray} {k m : Nat} (hk : Ends s k) (hm : Ends s m) : k = m := by
  by_cases h1 : k < m
  · exact absurd (hm.2 k h1) hk.1
  by_cases h2 : m < k
  · exact absurd (hk.2 m h2) hm.1
  omega
theorem pos_ge {s : ByteArray} {k : Nat} (h : lows s k) : k ≤ pos s k ∧ pos s k ≤ s.size := by
  induction k with
  | zero => exact ⟨Nat.le_refl _, Nat.zero_le _⟩
  | succ k ih =>
    have a := ih (fun j hj => h j (by omega))
    have b := wd_in s (pos s k) (h k (by omega))
    show k + 1 ≤ pos s k + wd s (pos s k) ∧ pos s k + wd s (pos s k) ≤ s.size
    omega
theorem ends_any (s : ByteArray) : ∃ k, Ends s k := by
  obtain ⟨k, hk⟩ : ∃ k, ¬ lows s k := ⟨s.size + 1, fun x => by have := pos_ge x; omega⟩
  induction k with
  | zero => exact absurd (lows_zero s) hk
  | succ k ih =>
    by_cases hl : lows s k
    · exact ⟨k, fun x => hk (lows_succ hl x), hl⟩
    · exact ih hl

theorem cl_bad {s : ByteArray} {p : Nat} (h : bad s p) : cl s p = [63] := by unfold cl; rw [if_pos h]
theorem cl_cr {s : ByteArray} {p : Nat} (h : ¬ bad s p) (h2 : (Utf8.decode s p).1 = 13) : cl s p = [] := by unfold cl; rw [if_neg h, if_pos h2]
theorem cl_hid {s : ByteArray} {p : Nat} (h : ¬ bad s p) (h2 : (Utf8.decode s p).1 ≠ 13) (h3 : hid (Utf8.decode s p).1) : cl s p = [32] := by unfold cl; rw [if_neg h, if_neg h2, if_pos h3]
theorem cl_own {s : ByteArray} {p : Nat} (h : ¬ bad s p) (h2 : (Utf8.decode s p).1 ≠ 13) (h3 : ¬ hid (Utf8.decode s p).1) : cl s p = (s.extract p (p + wd s p)).data.toList := by unfold cl; rw [if_neg h, if_neg h2, if_neg h3]
theorem cl_size (s : ByteArray) (p : Nat) (hp : p < s.size) : (cl s p).length ≤ 4 := by
  by_cases h : bad s p
  · rw [cl_bad h]; decide
  by_cases h2 : (Utf8.decode s p).1 = 13
  · rw [cl_cr h h2]; decide
  by_cases h3 : hid (Utf8.decode s p).1
  · rw [cl_hid h h2 h3]; decide
  · have := wd_in s p hp
    rw [cl_own h h2 h3, len_data, ext_size s p _ this.2.2]
    exact this.2.1
theorem outs_size {s : ByteArray} {k : Nat} (h : lows s k) : (outs s k).length ≤ 4 * k := by
  induction k with
  | zero => simp [outs]
  | succ k ih =>
    have := cl_size s (pos s k) (h k (by omega))
    have := ih (fun j hj => h j (by omega))
    simp only [outs, List.length_append]
    omega
theorem cells_data (b : ByteArray) : Lib.byteCells b.data.toList = Lib.strCells b := rfl
theorem str_cells (l : List UInt8) : Lib.strCells ⟨l.toArray⟩ = Lib.byteCells l := by
  simp [Lib.strCells, Lib.byteCells]
end Go.Proofs.YtpehoakdhbicfaaDoor.Ru
