/- Figures read, in the program and in its model. -/
import Derived.Test.YtgimdhdioigmiaaDoorRows
import Derived.WalkKit
import Derived.ProofKit
import Derived.WalkSpells
import Derived.WalkLawsBesides
import Derived.WalkSmall
import Derived.Below
namespace Go.Proofs.YtgimdhdioigmiaaDoor.Fig
open Go.ChangeShapes Go.WideShapes Go.ChangeAt Go.RowKit

def isD (b : UInt8) : Bool := decide (48 ≤ b.toNat) && decide (b.toNat ≤ 57)
def stp (n : Int) (b : UInt8) : Int := n * 10 + ((b.toNat : Int) - 48)
def upTo (s : ByteArray) (k : Nat) : Int := (s.data.toList.take k).foldl stp 0
/-- What figures say: -1 where one byte is none. -/
def fig (s : ByteArray) : Int := if s.data.toList.all isD then upTo s s.size else -1

theorem byte_at (s : ByteArray) (k : Nat) (h : k < s.size) : s.data.toList[k]'(by simpa using h) = s[k] := by
  simp [ByteArray.getElem_eq_getElem_data]
theorem take_more (s : ByteArray) (k : Nat) (h : k < s.size) : (s.data.toList.take (k + 1)).all isD = ((s.data.toList.take k).all isD && isD s[k]) := by
  rw [List.take_succ_eq_append_getElem (by simpa using h), List.all_append]
  simp only [List.all_cons, List.all_nil, Bool.and_true]
  rw [byte_at]
theorem upTo_more (s : ByteArray) (k : Nat) (h : k < s.size) : upTo s (k + 1) = stp (upTo s k) s[k] := by
  unfold upTo
  rw [List.take_succ_eq_append_getElem (by simpa using h), List.foldl_append, byte_at]
  rfl
theorem all_at (s : ByteArray) (k : Nat) (h : k < s.size) (hf : isD s[k] = false) : fig s = -1 := by
  unfold fig
  rw [if_neg]
  intro hc
  have := List.all_eq_true.1 hc s[k] (by rw [← byte_at s k h]; exact List.getElem_mem _)
  rw [hf] at this
  cases this
theorem ten_pos (k : Nat) : (1 : Int) ≤ 10 ^ k := by
  have : (0 : Int) < 10 ^ k := Int.pow_pos (by omega)
  omega
theorem bound (s : ByteArray) : ∀ k, k ≤ s.size → (s.data.toList.take k).all isD = true → 0 ≤ upTo s k ∧ upTo s k < 10 ^ k
  | 0, _, _ => ⟨by simp [upTo], by simp [upTo]⟩
  | k + 1, h, ha => by
    rw [take_more s k (by omega), Bool.and_eq_true] at ha
    have ih := bound s k (by omega) ha.1
    rw [upTo_more s k (by omega)]
    have hb : 48 ≤ s[k].toNat ∧ s[k].toNat ≤ 57 := by have := ha.2; unfold isD at this; simpa using this
    unfold stp
    rw [Int.pow_succ]
    omega
theorem bound15 (s : ByteArray) (k : Nat) (h : k ≤ s.size) (hs : s.size ≤ 15) (ha : (s.data.toList.take k).all isD = true) : 0 ≤ upTo s k ∧ upTo s k < 1000000000000000 := by
  have := bound s k h ha
  have h2 : (10 : Int) ^ k ≤ 10 ^ 15 := by exact_mod_cast Nat.pow_le_pow_right (by omega : 0 < 10) (by omega : k ≤ 15)
  omega

end Go.Proofs.YtgimdhdioigmiaaDoor.Fig
