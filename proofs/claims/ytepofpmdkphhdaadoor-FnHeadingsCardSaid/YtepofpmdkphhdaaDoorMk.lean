/- Marks: letters, in the program and in its model. -/
import Derived.Test.YtepofpmdkphhdaaDoorRows
import Derived.WalkKit
import Derived.ProofKit
import Derived.WalkSpells
import Derived.WalkLawsBesides
import Derived.WalkSmall
import Derived.Below
import Derived.Deep.Draws
import Derived.Deep.QuietTactic
import Derived.BigQuiet
namespace Go.Proofs.YtepofpmdkphhdaaDoor.Mk
open Go.ChangeShapes Go.WideShapes Go.ChangeAt Go.RowKit

def isL (b : UInt8) : Bool := decide (65 ≤ b.toNat) && decide (b.toNat ≤ 90)
def lets (s : ByteArray) : Bool := s.data.toList.all isL

def lt (b : Nat) : Bool := decide (65 ≤ b) && decide (b ≤ 90)
def leOf (b : Nat) : Int := if lt b then (b : Int) - 65 else -1

set_option maxHeartbeats 1000000 in
theorem letterOf_any (b : Nat) (w : World) : Calls Tryd.prog 43 #[.int .u8 b] w fun e w' => e = .returned (.int .i64 (leOf b)) ∧ w' = w := by
  by_cases h1 : 65 ≤ b
  · by_cases h2 : b ≤ 90
    · have e : leOf b = (b : Int) - 65 := by unfold leOf lt; rw [decide_eq_true h1, decide_eq_true h2]; rfl
      rw [e]
      have i1 : (65 : Int) ≤ (b : Int) := by omega
      have i2 : (b : Int) ≤ 90 := by omega
      clear e
      go_enter Tryd.func43, Tryd.ntmps43
      go_wp2
      go_ret
      exact ⟨rfl, rfl⟩
    · have e : leOf b = -1 := by unfold leOf lt; rw [decide_eq_true h1, decide_eq_false h2]; rfl
      rw [e]
      have i1 : (65 : Int) ≤ (b : Int) := by omega
      have i2 : (90 : Int) < (b : Int) := by omega
      clear e
      go_enter Tryd.func43, Tryd.ntmps43
      go_wp2
      go_ret
      exact ⟨rfl, rfl⟩
  · have e : leOf b = -1 := by unfold leOf lt; rw [decide_eq_false h1]; rfl
    rw [e]
    have i1 : (b : Int) < 65 := by omega
    clear e
    go_enter Tryd.func43, Tryd.ntmps43
    go_wp2
    go_ret
    exact ⟨rfl, rfl⟩

theorem byte_at (s : ByteArray) (k : Nat) (h : k < s.size) : s.data.toList[k]'(by simpa using h) = s[k] := by
  simp [ByteArray.getElem_eq_getElem_data]
theorem take_more (s : ByteArray) (k : Nat) (h : k < s.size) : (s.data.toList.take (k + 1)).all isL = ((s.data.toList.take k).all isL && isL s[k]) := by
  rw [List.take_succ_eq_append_getElem (by simpa using h), List.all_append]
  simp only [List.all_cons, List.all_nil, Bool.and_true]
  rw [byte_at]
theorem all_at (s : ByteArray) (k : Nat) (h : k < s.size) (hf : isL s[k] = false) : lets s = false := by
  unfold lets
  rw [List.all_eq_false]
  refine ⟨s[k], ?_, by rw [hf]; simp⟩
  rw [← byte_at s k h]
  exact List.getElem_mem _

set_option maxHeartbeats 1000000 in
theorem sletters_any (s : ByteArray) (w : World) (hs : s.size ≤ 1048576) : Calls Tryd.prog 25 #[.string s] w fun e w' => e = .returned (.bool (lets s)) ∧ w' = w := by
  go_enter Tryd.func25, Tryd.ntmps25
  go_wp2
  go_loop [3] (fun i => ∃ k : Nat, k ≤ s.size ∧ i = .int .i64 k ∧ Hid ((s.data.toList.take k).all isL = true)) (fun i => s.size - (intOf i).toNat)
  case atStart => exact ⟨0, by omega, rfl, rfl⟩
  case round =>
    obtain ⟨k, hk, rfl, HA⟩ := hrel
    by_cases hlt : k < s.size
    · have i0 : (0 : Int) ≤ (k : Int) := by omega
      have i1 : (k : Int) < (s.size : Int) := by omega
      have T : Hid ((s.data.toList.take (k + 1)).all isL = isL s[k]) := (by show _ = _; rw [take_more s k hlt, HA.out]; rfl)
      cases hb : isL s[k]
      · have E : Hid (lets s = false) := all_at s k hlt hb
        by_cases h1 : 65 ≤ s[k].toNat
        · have h2 : ¬ s[k].toNat ≤ 90 := fun h2 => by unfold isL at hb; rw [decide_eq_true h1, decide_eq_true h2] at hb; exact absurd hb (by simp)
          have j1 : (65 : Int) ≤ (s[k].toNat : Int) := by omega
          have j2 : (90 : Int) < (s[k].toNat : Int) := by omega
          clear T hb h1 h2
          go_wp2
          go_ret
          exact ⟨by rw [E.out]; rfl, rfl⟩
        · have j1 : (s[k].toNat : Int) < 65 := by omega
          clear T hb h1
          go_wp2
          go_ret
          exact ⟨by rw [E.out]; rfl, rfl⟩
      · have h1 : 65 ≤ s[k].toNat ∧ s[k].toNat ≤ 90 := by unfold isL at hb; simpa using hb
        have j1 : (65 : Int) ≤ (s[k].toNat : Int) := by omega
        have j2 : (s[k].toNat : Int) ≤ 90 := by omega
        rw [hb] at T
        clear hb h1
        go_wp2
        go_round
        case rel => exact ⟨k + 1, by omega, by go_num, T.out⟩
        case measure => simp [intOf]; omega
    · have E : Hid (lets s = true) := (by show lets s = true; have := HA.out; rw [List.take_of_length_le (by simp; omega)] at this; exact this)
      go_wp2
      go_ret
      exact ⟨by rw [E.out]; rfl, rfl⟩

/-- What a mark of n bytes, the first three of which are a, b, c, says, and its number. -/
def mkOf (n a b c : Nat) : Int × Int :=
  if n = 0 then (0, 0) else if n ≠ 3 then (-1, 0) else
  if lt a && lt b && lt c then
    if a = 80 then (4, ((b : Int) - 65) * 26 + ((c : Int) - 65 + 1))
    else if a ≠ b ∨ 24 < (c : Int) - 65 + 1 then (-1, 0)
    else if a = 82 then (1, (c : Int) - 65 + 1) else if a = 67 then (2, (c : Int) - 65 + 1) else if a = 65 then (3, (c : Int) - 65 + 1) else (-1, 0)
  else (-1, 0)
def markOf (s : ByteArray) : Int × Int := mkOf s.size (s.data.getD 0 0).toNat (s.data.getD 1 0).toNat (s.data.getD 2 0).toNat

theorem three (s : ByteArray) (h : s.size = 3) : ∃ a b c : UInt8, s = ⟨#[a, b, c]⟩ := by
  obtain ⟨⟨l⟩⟩ := s
  match l, h with
  | [a, b, c], _ => exact ⟨a, b, c, rfl⟩
theorem lets_three (a b c : UInt8) : lets ⟨#[a, b, c]⟩ = (lt a.toNat && lt b.toNat && lt c.toNat) := by
  simp [lets, isL, lt, Bool.and_assoc]
theorem mark_three (a b c : UInt8) : markOf ⟨#[a, b, c]⟩ = mkOf 3 a.toNat b.toNat c.toNat := rfl
theorem u8_lt (a : UInt8) : a.toNat < 256 := a.toNat_lt

abbrev ii (p : Int × Int) : Ending := .returned (.tuple #[.int .i64 p.1, .int .i64 p.2])

theorem empty_eq (s : ByteArray) : s.toList.isEmpty = decide (s.size = 0) := by
  rw [ByteArray.toList_eq]
  obtain ⟨⟨l⟩⟩ := s
  cases l with
  | nil => rfl
  | cons x r => simp [ByteArray.size]

set_option maxHeartbeats 2000000 in
theorem smark_any (s : ByteArray) (w : World) : Calls Tryd.prog 29 #[.string s] w fun e w' => e = ii (markOf s) ∧ ∃ m, w' = w.drewN m := by
  have he := empty_eq s
  by_cases h0 : s.size = 0
  · have E : markOf s = (0, 0) := by unfold markOf mkOf; rw [if_pos h0]
    rw [E]
    rw [decide_eq_true h0] at he
    go_enter Tryd.func29, Tryd.ntmps29
    go_wp2
    go_ret2
    exact ⟨rfl, 0, rfl⟩
  · rw [decide_eq_false h0] at he
    by_cases h3 : s.size = 3
    · obtain ⟨a, b, c, rfl⟩ := three s h3
      have L : Hid (∀ w, Calls Tryd.prog 25 #[.string ⟨#[a, b, c]⟩] w fun e w' => e = .returned (.bool (lt a.toNat && lt b.toNat && lt c.toNat)) ∧ w' = w) := fun w => by rw [← lets_three]; exact sletters_any _ w (by rw [h3]; omega)
      rw [mark_three]
      have hsz : (⟨#[a, b, c]⟩ : ByteArray).size = 3 := rfl
      have g0 : (⟨#[a, b, c]⟩ : ByteArray)[0]'(by rw [hsz]; omega) = a := rfl
      have g1 : (⟨#[a, b, c]⟩ : ByteArray)[1]'(by rw [hsz]; omega) = b := rfl
      have g2 : (⟨#[a, b, c]⟩ : ByteArray)[2]'(by rw [hsz]; omega) = c := rfl
      cases hl : (lt a.toNat && lt b.toNat && lt c.toNat)
      · have E : mkOf 3 a.toNat b.toNat c.toNat = (-1, 0) := by unfold mkOf; rw [hl]; rfl
        rw [E]
        rw [hl] at L
        clear h0 h3 hl E
        go_enter Tryd.func29, Tryd.ntmps29
        go_wp2_with (go_at_call 25; refine (L.out _).mono ?_; rintro e w' ⟨rfl, rfl⟩)
        go_ret2
        exact ⟨rfl, 0, rfl⟩
      · have hl3 : (65 ≤ a.toNat ∧ a.toNat ≤ 90) ∧ (65 ≤ b.toNat ∧ b.toNat ≤ 90) ∧ (65 ≤ c.toNat ∧ c.toNat ≤ 90) := by unfold lt at hl; simp at hl; omega
        rw [hl] at L
        have E : mkOf 3 a.toNat b.toNat c.toNat = if a.toNat = 80 then (4, ((b.toNat : Int) - 65) * 26 + ((c.toNat : Int) - 65 + 1)) else if a.toNat ≠ b.toNat ∨ 24 < (c.toNat : Int) - 65 + 1 then (-1, 0) else if a.toNat = 82 then (1, (c.toNat : Int) - 65 + 1) else if a.toNat = 67 then (2, (c.toNat : Int) - 65 + 1) else if a.toNat = 65 then (3, (c.toNat : Int) - 65 + 1) else (-1, 0) := by unfold mkOf; rw [hl]; rfl
        rw [E]
        generalize gx : a.toNat = x at *
        generalize gy : b.toNat = y at *
        generalize gz : c.toNat = z at *
        have x1 : (65 : Int) ≤ (x : Int) := by omega
        have x2 : (x : Int) ≤ 90 := by omega
        have y1 : (65 : Int) ≤ (y : Int) := by omega
        have y2 : (y : Int) ≤ 90 := by omega
        have z1 : (65 : Int) ≤ (z : Int) := by omega
        have z2 : (z : Int) ≤ 90 := by omega
        clear E hl h0 h3
        by_cases hp : x = 80
        · rw [if_pos hp]
          have hp' : ((x : Int) == 80) = true := by simp; omega
          go_enter Tryd.func29, Tryd.ntmps29
          go_wp2_with (go_at_call 25; refine (L.out _).mono ?_; rintro e w' ⟨rfl, rfl⟩)
          go_region
          go_wp2_with fail
          go_ret2
          exact ⟨rfl, 1, rfl⟩
        · rw [if_neg hp]
          have hp' : ((x : Int) == 80) = false := by simp; omega
          by_cases hxy : x = y
          · have hq' : ((x : Int) != (y : Int)) = false := by simp; omega
            by_cases hz : 24 < (z : Int) - 65 + 1
            · rw [if_pos (.inr hz)]
              have hz' : decide (24 < (z : Int) - 65 + 1) = true := decide_eq_true hz
              go_enter Tryd.func29, Tryd.ntmps29
              go_wp2_with (go_at_call 25; refine (L.out _).mono ?_; rintro e w' ⟨rfl, hw'⟩; subst hw')
              go_region
              go_wp2_with fail
              go_ret2
              exact ⟨rfl, _, rfl⟩
            · rw [if_neg (by omega)]
              have hz' : decide (24 < (z : Int) - 65 + 1) = false := decide_eq_false hz
              by_cases h82 : x = 82
              · rw [if_pos h82]
                have e1 : ((x : Int) == 82) = true := by simp; omega
                go_enter Tryd.func29, Tryd.ntmps29
                go_wp2_with (go_at_call 25; refine (L.out _).mono ?_; rintro e w' ⟨rfl, hw'⟩; subst hw')
                go_region
                go_wp2_with fail
                go_ret2
                exact ⟨rfl, _, rfl⟩
              · rw [if_neg h82]
                have e1 : ((x : Int) == 82) = false := by simp; omega
                by_cases h67 : x = 67
                · rw [if_pos h67]
                  have e2 : ((x : Int) == 67) = true := by simp; omega
                  go_enter Tryd.func29, Tryd.ntmps29
                  go_wp2_with (go_at_call 25; refine (L.out _).mono ?_; rintro e w' ⟨rfl, hw'⟩; subst hw')
                  go_region
                  go_wp2_with fail
                  go_ret2
                  exact ⟨rfl, _, rfl⟩
                · rw [if_neg h67]
                  have e2 : ((x : Int) == 67) = false := by simp; omega
                  by_cases h65 : x = 65
                  · rw [if_pos h65]
                    have e3 : ((x : Int) == 65) = true := by simp; omega
                    go_enter Tryd.func29, Tryd.ntmps29
                    go_wp2_with (go_at_call 25; refine (L.out _).mono ?_; rintro e w' ⟨rfl, hw'⟩; subst hw')
                    go_region
                    go_wp2_with fail
                    go_ret2
                    exact ⟨rfl, _, rfl⟩
                  · rw [if_neg h65]
                    have e3 : ((x : Int) == 65) = false := by simp; omega
                    go_enter Tryd.func29, Tryd.ntmps29
                    go_wp2_with (go_at_call 25; refine (L.out _).mono ?_; rintro e w' ⟨rfl, hw'⟩; subst hw')
                    go_region
                    go_wp2_with fail
                    go_ret2
                    exact ⟨rfl, _, rfl⟩
          · rw [if_pos (.inl hxy)]
            have hq' : ((x : Int) != (y : Int)) = true := by simp; omega
            go_enter Tryd.func29, Tryd.ntmps29
            go_wp2_with (go_at_call 25; refine (L.out _).mono ?_; rintro e w' ⟨rfl, hw'⟩; subst hw')
            go_region
            go_wp2_with fail
            go_ret2
            exact ⟨rfl, _, rfl⟩
    · have E : markOf s = (-1, 0) := by unfold markOf mkOf; rw [if_neg h0, if_pos h3]
      rw [E]
      have i1 : ((s.size : Int) != 3) = true := by simp; omega
      have i2 : ¬ s.size = 3 := h3
      go_enter Tryd.func29, Tryd.ntmps29
      go_wp2
      go_ret2
      exact ⟨rfl, 0, rfl⟩
end Go.Proofs.YtepofpmdkphhdaaDoor.Mk
