/- Figures read, in the program and in its model. -/
import Derived.Test.YtnbhfjcpimdnlaaDoorRows
import Derived.WalkKit
import Derived.ProofKit
import Derived.WalkSpells
import Derived.WalkLawsBesides
import Derived.WalkSmall
import Derived.Below
namespace Go.Proofs.YtnbhfjcpimdnlaaDoor.Fig
open Go.ChangeShapes Go.WideShapes Go.ChangeAt Go.RowKit

def isD (b : UInt8) : Bool := decide (48 ≤ b.toNat) && decide (b.toNat ≤ 57)
def stp (n : Int) (b : UInt8) : Int := n * 10 + ((b.toNat : Int) - 48)
def upTo (s : ByteArray) (k : Nat) : Int := (s.data.toList.take k).foldl stp 0
/-- What figures say: -1 where one byte is none. -/
def fig (s : ByteArray) : Int := if s.data.toList.all isD then upTo s s.size else -1

theorem byte_at (s : ByteArray) (k : Nat) (h : k < s.size) : s.data.toList[k]'(by simpa using h) = s[k] := by
  simp [ByteArray.getElem_eq_getElem_data]
theorem take_more (s : ByteArray) (k : Nat) (h : k < s.size) : (s.data.toList.take (k + 1)).all isD = ((s.data.toList.take k).all isD && isD s[k]) := by
  rw [List.take_succ_eq_append_getElem (by simpa using h), List.all_append]
  simp only [List.all_cons, List.all_nil, Bool.and_true]
  rw [byte_at]
theorem upTo_more (s : ByteArray) (k : Nat) (h : k < s.size) : upTo s (k + 1) = stp (upTo s k) s[k] := by
  unfold upTo
  rw [List.take_succ_eq_append_getElem (by simpa using h), List.foldl_append, byte_at]
  rfl
theorem all_at (s : ByteArray) (k : Nat) (h : k < s.size) (hf : isD s[k] = false) : fig s = -1 := by
  unfold fig
  rw [if_neg]
  intro hc
  have := List.all_eq_true.1 hc s[k] (by rw [← byte_at s k h]; exact List.getElem_mem _)
  rw [hf] at this
  cases this
theorem ten_pos (k : Nat) : (1 : Int) ≤ 10 ^ k := by
  have : (0 : Int) < 10 ^ k := Int.pow_pos (by omega)
  omega
theorem bound (s : ByteArray) : ∀ k, k ≤ s.size → (s.data.toList.take k).all isD = true → 0 ≤ upTo s k ∧ upTo s k < 10 ^ k
  | 0, _, _ => ⟨by simp [upTo], by simp [upTo]⟩
  | k + 1, h, ha => by
    rw [take_more s k (by omega), Bool.and_eq_true] at ha
    have ih := bound s k (by omega) ha.1
    rw [upTo_more s k (by omega)]
    have hb : 48 ≤ s[k].toNat ∧ s[k].toNat ≤ 57 := by have := ha.2; unfold isD at this; simpa using this
    unfold stp
    rw [Int.pow_succ]
    omega
theorem bound15 (s : ByteArray) (k : Nat) (h : k ≤ s.size) (hs : s.size ≤ 15) (ha : (s.data.toList.take k).all isD = true) : 0 ≤ upTo s k ∧ upTo s k < 1000000000000000 := by
  have := bound s k h ha
  have h2 : (10 : Int) ^ k ≤ 10 ^ 15 := by exact_mod_cast Nat.pow_le_pow_right (by omega : 0 < 10) (by omega : k ≤ 15)
  omega

set_option maxHeartbeats 2000000 in
theorem ifig (s : ByteArray) (w : World) (hs : s.size ≤ 15) : Calls Tryd.prog 44 #[.string s] w fun e w' => e = .returned (.int .i64 (fig s)) ∧ w' = w := by
  go_enter Tryd.func44, Tryd.ntmps44
  go_wp2
  go_loop [3, 4, 7] (fun n _ i => ∃ k : Nat, k ≤ s.size ∧ i = .int .i64 k ∧ n = .int .i64 (upTo s k) ∧ Hid ((s.data.toList.take k).all isD = true)) (fun _ _ i => s.size - (intOf i).toNat)
  case atStart => exact ⟨0, by omega, rfl, rfl, rfl⟩
  case round =>
    obtain ⟨k, hk, rfl, rfl, HA⟩ := hrel
    obtain ⟨u0, u1⟩ := bound15 s k hk hs HA.out
    by_cases hlt : k < s.size
    · have i0 : (0 : Int) ≤ (k : Int) := by omega
      have i1 : (k : Int) < (s.size : Int) := by omega
      have T : Hid ((s.data.toList.take (k + 1)).all isD = isD s[k]) := (by show _ = _; rw [take_more s k hlt, HA.out]; rfl)
      have U : Hid (upTo s (k + 1) = upTo s k * 10 + ((s[k].toNat : Int) - 48)) := upTo_more s k hlt
      generalize upTo s k = n at *
      cases hb : isD s[k]
      · have E : Hid (fig s = -1) := all_at s k hlt hb
        by_cases h1 : 48 ≤ s[k].toNat
        · have h2 : ¬ s[k].toNat ≤ 57 := fun h2 => by unfold isD at hb; rw [decide_eq_true h1, decide_eq_true h2] at hb; exact absurd hb (by simp)
          have j1 : (48 : Int) ≤ (s[k].toNat : Int) := by omega
          have j2 : (57 : Int) < (s[k].toNat : Int) := by omega
          clear T hb h1 h2
          go_wp2
          go_ret
          exact ⟨by rw [E.out]; rfl, rfl⟩
        · have j1 : (s[k].toNat : Int) < 48 := by omega
          clear T hb h1
          go_wp2
          go_ret
          exact ⟨by rw [E.out]; rfl, rfl⟩
      · have h1 : 48 ≤ s[k].toNat ∧ s[k].toNat ≤ 57 := by unfold isD at hb; simpa using hb
        have j1 : (48 : Int) ≤ (s[k].toNat : Int) := by omega
        have j2 : (s[k].toNat : Int) ≤ 57 := by omega
        rw [hb] at T
        clear hb h1
        go_wp2
        go_round
        case rel => exact ⟨k + 1, by omega, by go_num, by rw [U.out], T.out⟩
        case measure => simp [intOf]; omega
    · have E : Hid (fig s = upTo s k) := (by
        show fig s = upTo s k
        have hk' : k = s.size := by omega
        have := HA.out
        rw [List.take_of_length_le (by simp; omega)] at this
        unfold fig
        rw [if_pos this, hk'])
      go_wp2
      go_ret
      exact ⟨by rw [E.out]; rfl, rfl⟩

end Go.Proofs.YtnbhfjcpimdnlaaDoor.Fig
