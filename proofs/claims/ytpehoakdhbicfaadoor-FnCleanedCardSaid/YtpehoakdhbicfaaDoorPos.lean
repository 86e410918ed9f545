/- Upper: the places of a text's runes, one behind the other, and what is written up to each. -/
import Derived.Test.YtpehoakdhbicfaaDoorOne
namespace Go.Proofs.YtpehoakdhbicfaaDoor.Uq
open Go.Proofs.YtpehoakdhbicfaaDoor.Ru
open Go.RowKit

def pos (s : ByteArray) : Nat → Nat
  | 0 => 0
  | k + 1 => pos s k + wd s (pos s k)
def outs (s : ByteArray) : Nat → List UInt8
  | 0 => []
  | k + 1 => outs s k ++ ol s (pos s k)
def lows (s : ByteArray) (k : Nat) : Prop := ∀ j, j < k → pos s j < s.size
def Ends (s : ByteArray) (k : Nat) : Prop := ¬ pos s k < s.size ∧ lows s k
theorem lows_zero (s : ByteArray) : lows s 0 := fun j hj => absurd hj (by omega)
theorem lows_succ {s : ByteArray} {k : Nat} (h : lows s k) (hk : pos s k < s.size) : lows s (k + 1) := fun j hj => by
  by_cases e : j = k
  · rw [e]; exact hk
  · exact h j (by omega)
theorem ends_one {s : ByteArray} {k m : Nat} (hk : Ends s k) (hm : Ends s m) : k = m := by
  by_cases h1 : k < m
  · exact absurd (hm.2 k h1) hk.1
  by_cases h2 : m < k
  · exact absurd (hk.2 m h2) hm.1
  omega
theorem pos_ge {s : ByteArray} {k : Nat} (h : lows s k) : k ≤ pos s k ∧ pos s k ≤ s.size := by
  induction k with
  | zero => exact ⟨Nat.le_refl _, Nat.zero_le _⟩
  | succ k ih =>
    have a := ih (fun j hj => h j (by omega))
    have b := wd_in s (pos s k) (h k (by omega))
    show k + 1 ≤ pos s k + wd s (pos s k) ∧ pos s k + wd s (pos s k) ≤ s.size
    omega
theorem outs_size (s : ByteArray) (k : Nat) : (outs s k).length ≤ 2 * k := by
  induction k with
  | zero => simp [outs]
  | succ k ih =>
    have := ol_size s (pos s k)
    simp only [outs, List.length_append]
    omega
end Go.Proofs.YtpehoakdhbicfaaDoor.Uq
