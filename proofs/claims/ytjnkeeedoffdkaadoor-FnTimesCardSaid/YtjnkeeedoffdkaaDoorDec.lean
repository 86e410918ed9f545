/- Numerals, as the model writes them. -/
import Derived.Test.YtjnkeeedoffdkaaDoorRows
import Derived.WalkKit
import Derived.ProofKit
import Derived.OpenShut
import Derived.WalkSpells
import Derived.Below
import Derived.Outline
import Derived.OwnWalk
import Derived.WalkSmall
import Derived.Laws.OwnMore
import Derived.BigQuiet
import Derived.Lib.ItoaNum
import Derived.Laws.IdiomStrings
namespace Go.Proofs.YtjnkeeedoffdkaaDoor.Dec
open Go.ChangeShapes Go.WideShapes Go.ChangeAt Go.RowKit

/-- The last figure of m. -/
def dgt (m : Nat) : UInt8 := UInt8.ofNat (48 + m % 10)
def ds (m : Nat) : List UInt8 := if m = 0 then [] else Lib.decDigits m
theorem ds_step (m : Nat) (h : 0 < m) : ds m = ds (m / 10) ++ [dgt m] := by
  unfold ds dgt
  rw [if_neg (by omega)]
  by_cases c : m < 10
  · rw [if_pos (by omega), Lib.decDigits_one c]
    have : m % 10 = m := by omega
    rw [this]
    rfl
  · rw [if_neg (by omega), Lib.decDigits, dif_neg c]

theorem digit_cell (m : Nat) : ((dgt m).toNat : Int) = 48 + (m : Int) % 10 := by
  unfold dgt
  have : (UInt8.ofNat (48 + m % 10)).toNat = 48 + m % 10 := by
    rw [UInt8.toNat_ofNat']
    omega
  rw [this]
  omega

theorem conv_digit (m : Nat) (wr : World) : (convert 22 9 (.slice (some ⟨wr.heap.size, 0, none⟩) 1 1)).run Tryd.prog (wr.alloc (.cells #[.int .u8 (48 + (m : Int) % 10)] 5)) = .ok (.string ⟨[dgt m].toArray⟩) (wr.alloc (.cells #[.int .u8 (48 + (m : Int) % 10)] 5)) := by
  refine run_convert_bytes_back (P := Tryd.prog) _ 22 9 5 ⟨wr.heap.size, 0, none⟩ 1 [dgt m] Tryd.underlying22 Tryd.underlying5 Tryd.underlying9 ?_
  intro j hj
  simp at hj
  subst hj
  have := digit_cell m
  simp [Addr.add, go_sem, this]

theorem cat (x y : List UInt8) : (⟨x.toArray⟩ : ByteArray) ++ ⟨y.toArray⟩ = ⟨(x ++ y).toArray⟩ := by
  apply ByteArray.ext
  simp [ByteArray.data_append]

theorem dec_len (n : Nat) : (Lib.decDigits n).length ≤ n + 1 := by
  induction n using Nat.strongRecOn with
  | _ n ih =>
    rw [Lib.decDigits]
    by_cases c : n < 10
    · rw [dif_pos c]; simp
    · rw [dif_neg c]
      have := ih (n / 10) (by omega)
      simp
      omega

def strSize (v : Value) : Nat :=
  match v with
  | .string b => b.data.size
  | _ => 0

/-- Noughts ahead, till it is so long. -/
def pad (k : Nat) (l : List UInt8) : List UInt8 := List.replicate (k - l.length) 48 ++ l

theorem pad_cons (k : Nat) (l : List UInt8) (h : l.length < k) : pad k (48 :: l) = pad k l := by
  unfold pad
  have e : k - l.length = (k - (l.length + 1)) + 1 := by omega
  rw [List.length_cons, e, List.replicate_succ']
  simp
theorem pad_done (k : Nat) (l : List UInt8) (h : k ≤ l.length) : pad k l = l := by
  unfold pad
  have e : k - l.length = 0 := by omega
  rw [e]
  rfl

end Go.Proofs.YtjnkeeedoffdkaaDoor.Dec
