/- Marks: numbers told as texts. -/
import Derived.Test.YtmmhmbbfeecloaaXb
import Derived.OpenShut
import Derived.Deep.Draws
import Derived.Deep.QuietTactic
import Derived.BigQuiet
import Derived.Lib.ItoaNum
namespace Go.Proofs.Ytmmhmbbfeecloaa.To
open Go.ChangeShapes Go.WideShapes Go.ChangeAt Go.RowKit

def dgt (m : Nat) : UInt8 := UInt8.ofNat (48 + m % 10)
def ds (m : Nat) : List UInt8 := if m = 0 then [] else Lib.decDigits m
theorem ds_step (m : Nat) (h : 0 < m) : ds m = ds (m / 10) ++ [dgt m] := by
  unfold ds dgt
  rw [if_neg (by omega)]
  by_cases c : m < 10
  · rw [if_pos (by omega), Lib.decDigits_one c]
    have : m % 10 = m := by omega
    rw [this]
    rfl
  · rw [if_neg (by omega), Lib.decDigits, dif_neg c]
theorem digit_cell (m : Nat) : ((dgt m).toNat : Int) = 48 + (m : Int) % 10 := by
  unfold dgt
  have : (UInt8.ofNat (48 + m % 10)).toNat = 48 + m % 10 := by
    rw [UInt8.toNat_ofNat']
    omega
  rw [this]
  omega
theorem conv_digit (m : Nat) (wr : World) : (convert 67 9 (.slice (some ⟨wr.heap.size, 0, none⟩) 1 1)).run Try.prog (wr.alloc (.cells #[.int .u8 (48 + (m : Int) % 10)] 5)) = .ok (.string ⟨[dgt m].toArray⟩) (wr.alloc (.cells #[.int .u8 (48 + (m : Int) % 10)] 5)) := by
  refine run_convert_bytes_back (P := Try.prog) _ 67 9 5 ⟨wr.heap.size, 0, none⟩ 1 [dgt m] Try.underlying67 Try.underlying5 Try.underlying9 ?_
  intro j hj
  simp at hj
  subst hj
  have := digit_cell m
  simp [Addr.add, go_sem, this]
theorem cat (x y : List UInt8) : (⟨x.toArray⟩ : ByteArray) ++ ⟨y.toArray⟩ = ⟨(x ++ y).toArray⟩ := by
  apply ByteArray.ext
  simp [ByteArray.data_append]
theorem dec_len (n : Nat) : (Lib.decDigits n).length ≤ n + 1 := by
  induction n using Nat.strongRecOn with
  | _ n ih =>
    rw [Lib.decDigits]
    by_cases c : n < 10
    · rw [dif_pos c]; simp
    · rw [dif_neg c]
      have := ih (n / 10) (by omega)
      simp
      omega
theorem ds_len (n : Nat) : (ds n).length ≤ n + 1 := by
  unfold ds
  split
  · simp
  · exact dec_len n

def mtx (k : Nat) : ByteArray := ⟨#[109]⟩ ++ ⟨(ds k).toArray⟩

set_option maxHeartbeats 1000000 in
theorem mark_text (n : Nat) (w : World) (h0 : 0 < n) (h : n ≤ 1000000000000000000) :
    Calls Try.prog 23 #[.int .i64 n] w fun e w' => e = .returned (.string (mtx n)) ∧ Below w.heap.size w w' := by
  have i0 : ¬ (n : Int) ≤ 0 := by omega
  go_enter Try.func23, Try.ntmps23
  go_wp2
  go_loopw [0, 3] (fun u s wr => ∃ (m : Nat) (L : List UInt8), m ≤ n ∧ ds m ++ L = ds n ∧ s = .string ⟨L.toArray⟩ ∧ u = .int .i64 m ∧ Below w.heap.size w wr) (fun u _ _ => (intOf u).toNat)
  case atStart => exact ⟨n, [], Nat.le_refl _, by simp, rfl, rfl, Below.refl _ _⟩
  case round =>
    obtain ⟨m, L, hm, hL, rfl, rfl, hb⟩ := hrel
    have HL : Hid (ds m ++ L = ds n) := hL
    have HB : Hid (Below w.heap.size w wr) := hb
    have hlen : L.length ≤ n + 1 := by
      have h1 := ds_len n
      rw [← hL] at h1
      simp at h1
      omega
    by_cases hlt : 0 < m
    · have j0 : (0 : Int) < (m : Int) := by omega
      have hcv := conv_digit m wr
      have hlen' : ¬ 9223372036854775807 < 1 + L.length := by omega
      clear hL hb
      go_wp2_with fail
      have e1 : (⟨#[dgt m]⟩ : ByteArray) ++ ⟨L.toArray⟩ = ⟨(dgt m :: L).toArray⟩ := cat [dgt m] L
      refine ⟨⟨m / 10, dgt m :: L, by omega, ?_, by rw [e1], by go_num, HB.out.alloc HB.out.size _⟩, by simp [intOf]; omega⟩
      rw [← HL.out, ds_step m hlt, List.append_assoc]
      rfl
    · have j0 : ¬ (0 : Int) < (m : Int) := by omega
      have m0 : m = 0 := by omega
      subst m0
      have hL' : L = ds n := hL
      have hlen' : ¬ 9223372036854775807 < 1 + L.length := by omega
      subst hL'
      clear hL hb
      go_wp2_with fail
      go_ret
      exact ⟨rfl, HB.out⟩
end Go.Proofs.Ytmmhmbbfeecloaa.To
