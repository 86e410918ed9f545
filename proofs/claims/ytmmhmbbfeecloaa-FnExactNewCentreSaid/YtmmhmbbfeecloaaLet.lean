/- Letters, in the model and in the program. -/
import Derived.Test.YtmmhmbbfeecloaaXb
import Derived.WalkLawsBesides
namespace Go.Proofs.Ytmmhmbbfeecloaa.Let
open Go.ChangeShapes Go.WideShapes Go.ChangeAt Go.RowKit
def isL (b : UInt8) : Bool := decide (65 ≤ b.toNat) && decide (b.toNat ≤ 90)
def lets (s : ByteArray) : Bool := s.data.toList.all isL

def lt (b : Nat) : Bool := decide (65 ≤ b) && decide (b ≤ 90)
def leOf (b : Nat) : Int := if lt b then (b : Int) - 65 else -1

set_option maxHeartbeats 1000000 in
theorem letterOf_any (b : Nat) (w : World) : Calls Try.prog 40 #[.int .u8 b] w fun e w' => e = .returned (.int .i64 (leOf b)) ∧ w' = w := by
  by_cases h1 : 65 ≤ b
  · by_cases h2 : b ≤ 90
    · have e : leOf b = (b : Int) - 65 := by unfold leOf lt; rw [decide_eq_true h1, decide_eq_true h2]; rfl
      rw [e]
      have i1 : (65 : Int) ≤ (b : Int) := by omega
      have i2 : (b : Int) ≤ 90 := by omega
      clear e
      go_enter Try.func40, Try.ntmps40
      go_wp2
      go_ret
      exact ⟨rfl, rfl⟩
    · have e : leOf b = -1 := by unfold leOf lt; rw [decide_eq_true h1, decide_eq_false h2]; rfl
      rw [e]
      have i1 : (65 : Int) ≤ (b : Int) := by omega
      have i2 : (90 : Int) < (b : Int) := by omega
      clear e
      go_enter Try.func40, Try.ntmps40
      go_wp2
      go_ret
      exact ⟨rfl, rfl⟩
  · have e : leOf b = -1 := by unfold leOf lt; rw [decide_eq_false h1]; rfl
    rw [e]
    have i1 : (b : Int) < 65 := by omega
    clear e
    go_enter Try.func40, Try.ntmps40
    go_wp2
    go_ret
    exact ⟨rfl, rfl⟩

theorem byte_at (s : ByteArray) (k : Nat) (h : k < s.size) : s.data.toList[k]'(by simpa using h) = s[k] := by
  simp [ByteArray.getElem_eq_getElem_data]
theorem take_more (s : ByteArray) (k : Nat) (h : k < s.size) : (s.data.toList.take (k + 1)).all isL = ((s.data.toList.take k).all isL && isL s[k]) := by
  rw [List.take_succ_eq_append_getElem (by simpa using h), List.all_append]
  simp only [List.all_cons, List.all_nil, Bool.and_true]
  rw [byte_at]
theorem all_at (s : ByteArray) (k : Nat) (h : k < s.size) (hf : isL s[k] = false) : lets s = false := by
  unfold lets
  rw [List.all_eq_false]
  refine ⟨s[k], ?_, by rw [hf]; simp⟩
  rw [← byte_at s k h]
  exact List.getElem_mem _

set_option maxHeartbeats 1000000 in
theorem sletters_any (s : ByteArray) (w : World) (hs : s.size ≤ 1048576) : Calls Try.prog 29 #[.string s] w fun e w' => e = .returned (.bool (lets s)) ∧ w' = w := by
  go_enter Try.func29, Try.ntmps29
  go_wp2
  go_loop [3] (fun i => ∃ k : Nat, k ≤ s.size ∧ i = .int .i64 k ∧ Hid ((s.data.toList.take k).all isL = true)) (fun i => s.size - (intOf i).toNat)
  case atStart => exact ⟨0, by omega, rfl, rfl⟩
  case round =>
    obtain ⟨k, hk, rfl, HA⟩ := hrel
    by_cases hlt : k < s.size
    · have i0 : (0 : Int) ≤ (k : Int) := by omega
      have i1 : (k : Int) < (s.size : Int) := by omega
      have T : Hid ((s.data.toList.take (k + 1)).all isL = isL s[k]) := (by show _ = _; rw [take_more s k hlt, HA.out]; rfl)
      cases hb : isL s[k]
      · have E : Hid (lets s = false) := all_at s k hlt hb
        by_cases h1 : 65 ≤ s[k].toNat
        · have h2 : ¬ s[k].toNat ≤ 90 := fun h2 => by unfold isL at hb; rw [decide_eq_true h1, decide_eq_true h2] at hb; exact absurd hb (by simp)
          have j1 : (65 : Int) ≤ (s[k].toNat : Int) := by omega
          have j2 : (90 : Int) < (s[k].toNat : Int) := by omega
          clear T hb h1 h2
          go_wp2
          go_ret
          exact ⟨by rw [E.out]; rfl, rfl⟩
        · have j1 : (s[k].toNat : Int) < 65 := by omega
          clear T hb h1
          go_wp2
          go_ret
          exact ⟨by rw [E.out]; rfl, rfl⟩
      · have h1 : 65 ≤ s[k].toNat ∧ s[k].toNat ≤ 90 := by unfold isL at hb; simpa using hb
        have j1 : (65 : Int) ≤ (s[k].toNat : Int) := by omega
        have j2 : (s[k].toNat : Int) ≤ 90 := by omega
        rw [hb] at T
        clear hb h1
        go_wp2
        go_round
        case rel => exact ⟨k + 1, by omega, by go_num, T.out⟩
        case measure => simp [intOf]; omega
    · have E : Hid (lets s = true) := (by show lets s = true; have := HA.out; rw [List.take_of_length_le (by simp; omega)] at this; exact this)
      go_wp2
      go_ret
      exact ⟨by rw [E.out]; rfl, rfl⟩

theorem le_neg (b : UInt8) : (leOf b.toNat < 0) ↔ isL b = false := by
  unfold leOf
  have e : lt b.toNat = isL b := rfl
  rw [e]
  cases h : isL b
  · simp
  · have : 65 ≤ b.toNat ∧ b.toNat ≤ 90 := by unfold isL at h; simpa using h
    simp
    omega
set_option maxHeartbeats 1000000 in
theorem lonly_any (s : ByteArray) (c : Nat) (w : World) (hs : s.size ≤ 1048576) : Calls Try.prog 31 #[.string s, .int .i64 c] w fun e w' => e = .returned (.bool (lets s && decide (s.size = c))) ∧ w' = w := by
  go_enter Try.func31, Try.ntmps31
  go_wp2
  go_loop [5, 8] (fun _ i => ∃ k : Nat, k ≤ s.size ∧ i = .int .i64 k ∧ Hid ((s.data.toList.take k).all isL = true)) (fun _ i => s.size - (intOf i).toNat)
  case atStart => exact ⟨0, by omega, rfl, rfl⟩
  case round =>
    obtain ⟨k, hk, rfl, HA⟩ := hrel
    by_cases hlt : k < s.size
    · have i0 : (0 : Int) ≤ (k : Int) := by omega
      have i1 : (k : Int) < (s.size : Int) := by omega
      have T : Hid ((s.data.toList.take (k + 1)).all isL = isL s[k]) := (by show _ = _; rw [take_more s k hlt, HA.out]; rfl)
      have LE : Hid ((leOf s[k].toNat < 0) ↔ isL s[k] = false) := le_neg s[k]
      have LC : Hid (∀ w, Calls Try.prog 40 #[.int .u8 s[k].toNat] w fun e w' => e = .returned (.int .i64 (leOf s[k].toNat)) ∧ w' = w) := letterOf_any _
      generalize leOf s[k].toNat = lz at *
      cases hb : isL s[k]
      · have E : Hid (lets s = false) := all_at s k hlt hb
        have j : lz < 0 := LE.out.2 hb
        clear T hb LE
        go_wp2_with (go_at_call 40; refine (LC.out _).mono ?_; rintro e w' ⟨rfl, hw'⟩; subst hw')
        go_ret
        exact ⟨by rw [E.out]; rfl, rfl⟩
      · have j : 0 ≤ lz := by
          have := LE.out
          rw [hb] at this
          simp at this
          exact this
        rw [hb] at T
        clear hb LE
        go_wp2_with (go_at_call 40; refine (LC.out _).mono ?_; rintro e w' ⟨rfl, hw'⟩; subst hw')
        go_round
        case rel => exact ⟨k + 1, by omega, by go_num, T.out⟩
        case measure => simp [intOf]; omega
    · have E : Hid (lets s = true) := (by show lets s = true; have := HA.out; rw [List.take_of_length_le (by simp; omega)] at this; exact this)
      have e2 : ((s.size : Int) == (c : Int)) = decide (s.size = c) := by
        by_cases h : s.size = c
        · rw [h]; simp
        · rw [decide_eq_false h]; exact beq_eq_false_iff_ne.2 (by omega)
      go_wp2
      go_ret
      exact ⟨by rw [E.out]; rfl, rfl⟩
end Go.Proofs.Ytmmhmbbfeecloaa.Let
