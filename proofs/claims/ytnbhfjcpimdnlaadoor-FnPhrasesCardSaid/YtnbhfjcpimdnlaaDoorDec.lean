/- Numerals, as the model writes them. -/
import Derived.Test.YtnbhfjcpimdnlaaDoorRows
import Derived.WalkKit
import Derived.ProofKit
import Derived.OpenShut
import Derived.WalkSpells
import Derived.Below
import Derived.Outline
import Derived.OwnWalk
import Derived.WalkSmall
import Derived.Laws.OwnMore
import Derived.BigQuiet
import Derived.Lib.ItoaNum
import Derived.Laws.IdiomStrings
namespace Go.Proofs.YtnbhfjcpimdnlaaDoor.Dec
open Go.ChangeShapes Go.WideShapes Go.ChangeAt Go.RowKit

/-- The last figure of m. -/
def dgt (m : Nat) : UInt8 := UInt8.ofNat (48 + m % 10)
def ds (m : Nat) : List UInt8 := if m = 0 then [] else Lib.decDigits m
theorem ds_step (m : Nat) (h : 0 < m) : ds m = ds (m / 10) ++ [dgt m] := by
  unfold ds dgt
  rw [if_neg (by omega)]
  by_cases c : m < 10
  · rw [if_pos (by omega), Lib.decDigits_one c]
    have : m % 10 = m := by omega
    rw [this]
    rfl
  · rw [if_neg (by omega), Lib.decDigits, dif_neg c]

theorem digit_cell (m : Nat) : ((dgt m).toNat : Int) = 48 + (m : Int) % 10 := by
  unfold dgt
  have : (UInt8.ofNat (48 + m % 10)).toNat = 48 + m % 10 := by
    rw [UInt8.toNat_ofNat']
    omega
  rw [this]
  omega

theorem conv_digit (m : Nat) (wr : World) : (convert 28 9 (.slice (some ⟨wr.heap.size, 0, none⟩) 1 1)).run Tryd.prog (wr.alloc (.cells #[.int .u8 (48 + (m : Int) % 10)] 5)) = .ok (.string ⟨[dgt m].toArray⟩) (wr.alloc (.cells #[.int .u8 (48 + (m : Int) % 10)] 5)) := by
  refine run_convert_bytes_back (P := Tryd.prog) _ 28 9 5 ⟨wr.heap.size, 0, none⟩ 1 [dgt m] Tryd.underlying28 Tryd.underlying5 Tryd.underlying9 ?_
  intro j hj
  simp at hj
  subst hj
  have := digit_cell m
  simp [Addr.add, go_sem, this]

theorem cat (x y : List UInt8) : (⟨x.toArray⟩ : ByteArray) ++ ⟨y.toArray⟩ = ⟨(x ++ y).toArray⟩ := by
  apply ByteArray.ext
  simp [ByteArray.data_append]

theorem dec_len (n : Nat) : (Lib.decDigits n).length ≤ n + 1 := by
  induction n using Nat.strongRecOn with
  | _ n ih =>
    rw [Lib.decDigits]
    by_cases c : n < 10
    · rw [dif_pos c]; simp
    · rw [dif_neg c]
      have := ih (n / 10) (by omega)
      simp
      omega

set_option maxHeartbeats 1000000 in
theorem dec_any (n : Nat) (w : World) (h : n ≤ 1000000000000000000) :
    Calls Tryd.prog 33 #[.int .i64 n] w fun e w' => e = .returned (.string ⟨(Lib.decDigits n).toArray⟩) ∧ Below w.heap.size w w' := by
  by_cases h0 : n = 0
  · subst h0
    go_enter Tryd.func33, Tryd.ntmps33
    go_wp2
    go_ret
    have : Lib.decDigits 0 = [48] := Lib.decDigits_one (by omega)
    rw [this]
    exact ⟨rfl, Below.refl _ _⟩
  · have i0 : ¬ (n : Int) = 0 := by omega
    have i1 : ¬ (n : Int) < 0 := by omega
    go_enter Tryd.func33, Tryd.ntmps33
    go_wp2
    go_loopw [3, 4] (fun s u wr => ∃ (m : Nat) (L : List UInt8), m ≤ n ∧ ds m ++ L = Lib.decDigits n ∧ s = .string ⟨L.toArray⟩ ∧ u = .int .u64 m ∧ Below w.heap.size w wr) (fun _ u _ => (intOf u).toNat)
    case atStart => exact ⟨n, [], Nat.le_refl _, by unfold ds; rw [if_neg h0]; simp, rfl, by go_num, Below.refl _ _⟩
    case round =>
      obtain ⟨m, L, hm, hL, rfl, rfl, hb⟩ := hrel
      by_cases hlt : 0 < m
      · have j0 : (0 : Int) < (m : Int) := by omega
        have HL : Hid (ds m ++ L = Lib.decDigits n) := hL
        have HB : Hid (Below w.heap.size w wr) := hb
        have hcv := conv_digit m wr
        have hlen : ¬ 9223372036854775807 < 1 + L.length := by
          have h1 := dec_len n
          rw [← hL] at h1
          simp at h1
          omega
        clear hL hb
        go_wp2_with fail
        have e1 : (⟨#[dgt m]⟩ : ByteArray) ++ ⟨L.toArray⟩ = ⟨(dgt m :: L).toArray⟩ := cat [dgt m] L
        refine ⟨⟨m / 10, dgt m :: L, by omega, ?_, by rw [e1], by go_num, HB.out.alloc HB.out.size _⟩, by simp [intOf]; omega⟩
        rw [← HL.out, ds_step m hlt, List.append_assoc]
        rfl
      · have j0 : ¬ (0 : Int) < (m : Int) := by omega
        have m0 : m = 0 := by omega
        subst m0
        have hL' : L = Lib.decDigits n := hL
        have i2 : decide ((n : Int) < 0) = false := by simp
        go_wp2_with fail
        go_ret
        exact ⟨rfl, hb⟩

def strSize (v : Value) : Nat :=
  match v with
  | .string b => b.data.size
  | _ => 0

/-- Noughts ahead, till it is so long. -/
def pad (k : Nat) (l : List UInt8) : List UInt8 := List.replicate (k - l.length) 48 ++ l

theorem pad_cons (k : Nat) (l : List UInt8) (h : l.length < k) : pad k (48 :: l) = pad k l := by
  unfold pad
  have e : k - l.length = (k - (l.length + 1)) + 1 := by omega
  rw [List.length_cons, e, List.replicate_succ']
  simp
theorem pad_done (k : Nat) (l : List UInt8) (h : k ≤ l.length) : pad k l = l := by
  unfold pad
  have e : k - l.length = 0 := by omega
  rw [e]
  rfl

end Go.Proofs.YtnbhfjcpimdnlaaDoor.Dec
