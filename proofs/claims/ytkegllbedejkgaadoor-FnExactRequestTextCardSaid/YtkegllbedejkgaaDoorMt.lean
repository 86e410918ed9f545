/- Marks: numbers told as texts. -/
import Derived.Test.YtkegllbedejkgaaDoorXb
import Derived.OpenShut
import Derived.Deep.Draws
import Derived.Deep.QuietTactic
import Derived.BigQuiet
import Derived.Lib.ItoaNum
namespace Go.Proofs.YtkegllbedejkgaaDoor.To
open Go.ChangeShapes Go.WideShapes Go.ChangeAt Go.RowKit

def dgt (m : Nat) : UInt8 := UInt8.ofNat (48 + m % 10)
def ds (m : Nat) : List UInt8 := if m = 0 then [] else Lib.decDigits m
theorem ds_step (m : Nat) (h : 0 < m) : ds m = ds (m / 10) ++ [dgt m] := by
  unfold ds dgt
  rw [if_neg (by omega)]
  by_cases c : m < 10
  · rw [if_pos (by omega), Lib.decDigits_one c]
    have : m % 10 = m := by omega
    rw [this]
    rfl
  · rw [if_neg (by omega), Lib.decDigits, dif_neg c]
theorem digit_cell (m : Nat) : ((dgt m).toNat : Int) = 48 + (m : Int) % 10 := by
  unfold dgt
  have : (UInt8.ofNat (48 + m % 10)).toNat = 48 + m % 10 := by
    rw [UInt8.toNat_ofNat']
    omega
  rw [this]
  omega
theorem conv_digit (m : Nat) (wr : World) : (convert 61 9 (.slice (some ⟨wr.heap.size, 0, none⟩) 1 1)).run Tryd.prog (wr.alloc (.cells #[.int .u8 (48 + (m : Int) % 10)] 5)) = .ok (.string ⟨[dgt m].toArray⟩) (wr.alloc (.cells #[.int .u8 (48 + (m : Int) % 10)] 5)) := by
  refine run_convert_bytes_back (P := Tryd.prog) _ 61 9 5 ⟨wr.heap.size, 0, none⟩ 1 [dgt m] Tryd.underlying61 Tryd.underlying5 Tryd.underlying9 ?_
  intro j hj
  simp at hj
  subst hj
  have := digit_cell m
  simp [Addr.add, go_sem, this]
theorem cat (x y : List UInt8) : (⟨x.toArray⟩ : ByteArray) ++ ⟨y.toArray⟩ = ⟨(x ++ y).toArray⟩ := by
  apply ByteArray.ext
  simp [ByteArray.data_append]
theorem dec_len (n : Nat) : (Lib.decDigits n).length ≤ n + 1 := by
  induction n using Nat.strongRecOn with
  | _ n ih =>
    rw [Lib.decDigits]
    by_cases c : n < 10
    · rw [dif_pos c]; simp
    · rw [dif_neg c]
      have := ih (n / 10) (by omega)
      simp
      omega
theorem ds_len (n : Nat) : (ds n).length ≤ n + 1 := by
  unfold ds
  split
  · simp
  · exact dec_len n

def mtx (k : Nat) : ByteArray := ⟨#[109]⟩ ++ ⟨(ds k).toArray⟩

end Go.Proofs.YtkegllbedejkgaaDoor.To
