/- The places of a text's runes, one behind the other. -/
import Derived.Test.YtljkbheefahgkaaDoorRun
import Derived.Laws.IdiomStrings
import Derived.ProofKit
import Derived.WalkSpells
import Derived.WalkLawsBesides
import Derived.WalkSmall
import Derived.Below
namespace Go.Proofs.YtljkbheefahgkaaDoor.Ru
open Go.ChangeShapes Go.WideShapes Go.ChangeAt Go.RowKit

theorem ascii_or (s : ByteArray) (p : Nat) (hp : p < s.size) : (bt s p < 128 ∧ (Utf8.decode s p).1 = bt s p) ∨ (128 ≤ bt s p ∧ 128 ≤ (Utf8.decode s p).1) := by
  by_cases c : bt s p < 128
  · exact .inl ⟨c, by rw [dec_one c]⟩
  · exact .inr ⟨by omega, (decode_high s p hp (by rw [bt_at s p hp]; omega)).1⟩
def pos (s : ByteArray) : Nat → Nat
  | 0 => 0
  | k + 1 => pos s k + wd s (pos s k)
def lows (s : ByteArray) (k : Nat) : Prop := ∀ j, j < k → pos s j < s.size
def Ends (s : ByteArray) (k : Nat) : Prop := ¬ pos s k < s.size ∧ lows s k
theorem lows_zero (s : ByteArray) : lows s 0 := fun j hj => absurd hj (by omega)
theorem lows_succ {s : ByteArray} {k : Nat} (h : lows s k) (hk : pos s k < s.size) : lows s (k + 1) := fun j hj => by
  by_cases e : j = k
  · rw [e]; exact hk
  · exact h j (by omega)
theorem ends_one {s : ByteArray} {k m : Nat} (hk : Ends s k) (hm : Ends s m) : k = m := by
  by_cases h1 : k < m
  · exact absurd (hm.2 k h1) hk.1
  by_cases h2 : m < k
  · exact absurd (hk.2 m h2) hm.1
  omega
theorem pos_ge {s : ByteArray} {k : Nat} (h : lows s k) : k ≤ pos s k ∧ pos s k ≤ s.size := by
  induction k with
  | zero => exact ⟨Nat.le_refl _, Nat.zero_le _⟩
  | succ k ih =>
    have a := ih (fun j hj => h j (by omega))
    have b := wd_in s (pos s k) (h k (by omega))
    show k + 1 ≤ pos s k + wd s (pos s k) ∧ pos s k + wd s (pos s k) ≤ s.size
    omega
end Go.Proofs.YtljkbheefahgkaaDoor.Ru
