/- Centres and letters, in the program and in its model. -/
import Derived.Test.YtepofpmdkphhdaaDoorMkI
import Derived.Test.YtepofpmdkphhdaaDoorFig
namespace Go.Proofs.YtepofpmdkphhdaaDoor.Head
open Go.ChangeShapes Go.WideShapes Go.ChangeAt Go.RowKit Mk Fig

def ld (b : UInt8) : Bool := isL b || isD b
def cen (s : ByteArray) : Bool := decide (s.size = 4) && (isL (s.data.getD 0 0) && s.data.toList.all ld)

theorem ext_one (s : ByteArray) (k : Nat) (h : k < s.size) : s.extract k (k + 1) = ⟨#[s[k]]⟩ := by
  apply WideShapes.bytes_inj
  rw [ByteArray.data_extract]
  have hk : k < s.data.size := h
  apply List.ext_getElem?
  intro i
  match i with
  | 0 => simp; rw [Array.getElem?_eq_getElem hk]; rfl
  | i + 1 => simp; omega
theorem lets_one (b : UInt8) : lets ⟨#[b]⟩ = isL b := by simp [lets]
theorem fig_one (b : UInt8) : (fig ⟨#[b]⟩ < 0) ↔ isD b = false := by
  unfold fig upTo
  simp [ByteArray.size]
  cases h : isD b
  · simp
  · have : 48 ≤ b.toNat ∧ b.toNat ≤ 57 := by unfold isD at h; simpa using h
    simp [stp]
    omega
theorem le_neg (b : UInt8) : (leOf b.toNat < 0) ↔ isL b = false := by
  unfold leOf
  have e : lt b.toNat = isL b := rfl
  rw [e]
  cases h : isL b
  · simp
  · have : 65 ≤ b.toNat ∧ b.toNat ≤ 90 := by unfold isL at h; simpa using h
    simp
    omega
theorem take_ld (s : ByteArray) (k : Nat) (h : k < s.size) : (s.data.toList.take (k + 1)).all ld = ((s.data.toList.take k).all ld && ld s[k]) := by
  rw [List.take_succ_eq_append_getElem (by simpa using h), List.all_append]
  simp only [List.all_cons, List.all_nil, Bool.and_true]
  rw [Mk.byte_at]
theorem ld_at (s : ByteArray) (k : Nat) (h : k < s.size) (hf : ld s[k] = false) : cen s = false := by
  unfold cen
  have : s.data.toList.all ld = false := by
    rw [List.all_eq_false]
    refine ⟨s[k], ?_, by rw [hf]; simp⟩
    rw [← Mk.byte_at s k h]
    exact List.getElem_mem _
  rw [this]; simp
theorem first_at (s : ByteArray) (h : 0 < s.size) : s.data.getD 0 0 = s[0] := by
  simp [Array.getD]
  rw [dif_pos h]
  rfl

set_option maxHeartbeats 1000000 in
theorem lonly_any (s : ByteArray) (c : Nat) (w : World) (hs : s.size ≤ 1048576) : Calls Tryd.prog 34 #[.string s, .int .i64 c] w fun e w' => e = .returned (.bool (lets s && decide (s.size = c))) ∧ w' = w := by
  go_enter Tryd.func34, Tryd.ntmps34
  go_wp2
  go_loop [5, 8] (fun _ i => ∃ k : Nat, k ≤ s.size ∧ i = .int .i64 k ∧ Hid ((s.data.toList.take k).all isL = true)) (fun _ i => s.size - (intOf i).toNat)
  case atStart => exact ⟨0, by omega, rfl, rfl⟩
  case round =>
    obtain ⟨k, hk, rfl, HA⟩ := hrel
    by_cases hlt : k < s.size
    · have i0 : (0 : Int) ≤ (k : Int) := by omega
      have i1 : (k : Int) < (s.size : Int) := by omega
      have T : Hid ((s.data.toList.take (k + 1)).all isL = isL s[k]) := (by show _ = _; rw [Mk.take_more s k hlt, HA.out]; rfl)
      have LE : Hid ((leOf s[k].toNat < 0) ↔ isL s[k] = false) := le_neg s[k]
      have LC : Hid (∀ w, Calls Tryd.prog 43 #[.int .u8 s[k].toNat] w fun e w' => e = .returned (.int .i64 (leOf s[k].toNat)) ∧ w' = w) := letterOf_any _
      generalize leOf s[k].toNat = lz at *
      cases hb : isL s[k]
      · have E : Hid (lets s = false) := Mk.all_at s k hlt hb
        have j : lz < 0 := LE.out.2 hb
        clear T hb LE
        go_wp2_with (go_at_call 43; refine (LC.out _).mono ?_; rintro e w' ⟨rfl, hw'⟩; subst hw')
        go_ret
        exact ⟨by rw [E.out]; rfl, rfl⟩
      · have j : 0 ≤ lz := by
          have := LE.out
          rw [hb] at this
          simp at this
          exact this
        rw [hb] at T
        clear hb LE
        go_wp2_with (go_at_call 43; refine (LC.out _).mono ?_; rintro e w' ⟨rfl, hw'⟩; subst hw')
        go_round
        case rel => exact ⟨k + 1, by omega, by go_num, T.out⟩
        case measure => simp [intOf]; omega
    · have E : Hid (lets s = true) := (by show lets s = true; have := HA.out; rw [List.take_of_length_le (by simp; omega)] at this; exact this)
      have e2 : ((s.size : Int) == (c : Int)) = decide (s.size = c) := by
        by_cases h : s.size = c
        · rw [h]; simp
        · rw [decide_eq_false h]; exact beq_eq_false_iff_ne.2 (by omega)
      go_wp2
      go_ret
      exact ⟨by rw [E.out]; rfl, rfl⟩

set_option maxHeartbeats 1000000 in
theorem icen_any (s : ByteArray) (w : World) : Calls Tryd.prog 35 #[.string s] w fun e w' => e = .returned (.bool (cen s)) ∧ w' = w := by
  by_cases h4 : s.size = 4
  · have e4 : ((s.size : Int) != 4) = false := by rw [h4]; rfl
    have F0 := first_at s (by omega)
    have LE0 : Hid ((leOf (s[0]'(by omega)).toNat < 0) ↔ isL (s[0]'(by omega)) = false) := le_neg _
    have LC0 : Hid (∀ w, Calls Tryd.prog 43 #[.int .u8 (s[0]'(by omega)).toNat] w fun e w' => e = .returned (.int .i64 (leOf (s[0]'(by omega)).toNat)) ∧ w' = w) := letterOf_any _
    have CE : Hid (cen s = (isL (s[0]'(by omega)) && s.data.toList.all ld)) := (by show cen s = _; unfold cen; rw [decide_eq_true h4, F0]; rfl)
    clear F0
    cases hb0 : isL (s[0]'(by omega))
    · have j0 := LE0.out.2 hb0
      have E : Hid (cen s = false) := (by show cen s = false; rw [CE.out, hb0]; rfl)
      go_enter Tryd.func35, Tryd.ntmps35
      go_wp2_with (go_at_call 43; refine (LC0.out _).mono ?_; rintro e w' ⟨rfl, hw'⟩; subst hw')
      go_ret
      exact ⟨by rw [E.out]; rfl, rfl⟩
    · have j0 : 0 ≤ leOf (s[0]'(by omega)).toNat := by
        have := LE0.out
        rw [hb0] at this
        simp at this
        exact this
      rw [hb0] at CE
      clear LE0
      go_enter Tryd.func35, Tryd.ntmps35
      go_wp2_with (go_at_call 43; refine (LC0.out _).mono ?_; rintro e w' ⟨rfl, hw'⟩; subst hw')
      go_loop [3, 15] (fun _ i => ∃ k : Nat, k ≤ 4 ∧ i = .int .i64 k ∧ Hid ((s.data.toList.take k).all ld = true)) (fun _ i => 4 - (intOf i).toNat)
      case atStart => exact ⟨0, by omega, rfl, rfl⟩
      case round =>
        obtain ⟨k, hk, rfl, HA⟩ := hrel
        by_cases hlt : k < 4
        · have hlt' : k < s.size := by omega
          have i0 : (0 : Int) ≤ (k : Int) := by omega
          have i1 : (k : Int) < 4 := by omega
          have T : Hid ((s.data.toList.take (k + 1)).all ld = ld s[k]) := (by show _ = _; rw [take_ld s k hlt', HA.out]; rfl)
          have LE : Hid ((leOf s[k].toNat < 0) ↔ isL s[k] = false) := le_neg s[k]
          have LC : Hid (∀ w, Calls Tryd.prog 43 #[.int .u8 s[k].toNat] w fun e w' => e = .returned (.int .i64 (leOf s[k].toNat)) ∧ w' = w) := letterOf_any _
          have FC : Hid (∀ w, Calls Tryd.prog 22 #[.string (s.extract k (k + 1))] w fun e w' => e = .returned (.int .i64 (fig ⟨#[s[k]]⟩)) ∧ w' = w) := fun w => by rw [ext_one s k hlt']; exact ifig _ w (by show (1 : Nat) ≤ 15; omega)
          have FE : Hid ((fig ⟨#[s[k]]⟩ < 0) ↔ isD s[k] = false) := fig_one s[k]
          generalize leOf s[k].toNat = lz at *
          generalize fig ⟨#[s[k]]⟩ = fz at *
          cases hb : isL s[k]
          · have j : lz < 0 := LE.out.2 hb
            cases hd : isD s[k]
            · have jf : fz < 0 := FE.out.2 hd
              have E : Hid (cen s = false) := ld_at s k hlt' (by unfold ld; rw [hb, hd]; rfl)
              clear T LE FE hb hd
              go_wp2_with (first | (go_at_call 43; refine (LC.out _).mono ?_; rintro e w' ⟨rfl, hw'⟩; subst hw') | (go_at_call 22; refine (FC.out _).mono ?_; rintro e w' ⟨rfl, hw'⟩; subst hw'))
              go_ret
              exact ⟨by rw [E.out]; rfl, rfl⟩
            · have jf : 0 ≤ fz := by
                have := FE.out
                rw [hd] at this
                simp at this
                exact this
              have TL : Hid ((s.data.toList.take (k + 1)).all ld = true) := (by show _ = _; rw [T.out]; unfold ld; rw [hd]; simp)
              clear T LE FE hb hd
              go_wp2_with (first | (go_at_call 43; refine (LC.out _).mono ?_; rintro e w' ⟨rfl, hw'⟩; subst hw') | (go_at_call 22; refine (FC.out _).mono ?_; rintro e w' ⟨rfl, hw'⟩; subst hw'))
              go_round
              case rel => exact ⟨k + 1, by omega, by go_num, TL.out⟩
              case measure => simp [intOf]; omega
          · have j : 0 ≤ lz := by
              have := LE.out
              rw [hb] at this
              simp at this
              exact this
            have TL : Hid ((s.data.toList.take (k + 1)).all ld = true) := (by show _ = _; rw [T.out]; unfold ld; rw [hb]; rfl)
            clear T LE FE hb
            go_wp2_with (go_at_call 43; refine (LC.out _).mono ?_; rintro e w' ⟨rfl, hw'⟩; subst hw')
            go_round
            case rel => exact ⟨k + 1, by omega, by go_num, TL.out⟩
            case measure => simp [intOf]; omega
        · have E : Hid (cen s = true) := (by
            show cen s = true
            rw [CE.out]
            have := HA.out
            rw [List.take_of_length_le (by simp; omega)] at this
            rw [this]; rfl)
          go_wp2
          go_ret
          exact ⟨by rw [E.out]; rfl, rfl⟩
  · have e4 : ((s.size : Int) != 4) = true := by simp; omega
    have E : cen s = false := by unfold cen; rw [decide_eq_false h4]; rfl
    rw [E]
    go_enter Tryd.func35, Tryd.ntmps35
    go_wp2
    go_ret
    exact ⟨rfl, rfl⟩

set_option maxHeartbeats 1000000 in
theorem scen_any (s : ByteArray) (w : World) : Calls Tryd.prog 27 #[.string s] w fun e w' => e = .returned (.bool (cen s)) ∧ w' = w := by
  by_cases h4 : s.size = 4
  · have e4 : ((s.size : Int) != 4) = false := by rw [h4]; rfl
    have F0 := first_at s (by omega)
    have LC0 : Hid (∀ w, Calls Tryd.prog 25 #[.string (s.extract 0 1)] w fun e w' => e = .returned (.bool (isL (s[0]'(by omega)))) ∧ w' = w) := fun w => by
      rw [show s.extract 0 1 = s.extract 0 (0 + 1) from rfl, ext_one s 0 (by omega), ← lets_one]; exact sletters_any _ w (by show (1 : Nat) ≤ 1048576; omega)
    have CE : Hid (cen s = (isL (s[0]'(by omega)) && s.data.toList.all ld)) := (by show cen s = _; unfold cen; rw [decide_eq_true h4, F0]; rfl)
    have T1 : Hid ((s.data.toList.take 1).all ld = ld (s[0]'(by omega))) := (by show _ = _; rw [take_ld s 0 (by omega)]; rfl)
    clear F0
    cases hb0 : isL (s[0]'(by omega))
    · have E : Hid (cen s = false) := (by show cen s = false; rw [CE.out, hb0]; rfl)
      rw [hb0] at LC0
      go_enter Tryd.func27, Tryd.ntmps27
      go_wp2_with (go_at_call 25; refine (LC0.out _).mono ?_; rintro e w' ⟨rfl, hw'⟩; subst hw')
      go_ret
      exact ⟨by rw [E.out]; rfl, rfl⟩
    · rw [hb0] at CE LC0
      have T1' : Hid ((s.data.toList.take 1).all ld = true) := (by show _ = _; rw [T1.out]; unfold ld; rw [hb0]; rfl)
      clear T1 hb0
      go_enter Tryd.func27, Tryd.ntmps27
      go_wp2_with (go_at_call 25; refine (LC0.out _).mono ?_; rintro e w' ⟨rfl, hw'⟩; subst hw')
      go_loop [3] (fun i => ∃ k : Nat, 1 ≤ k ∧ k ≤ 4 ∧ i = .int .i64 k ∧ Hid ((s.data.toList.take k).all ld = true)) (fun i => 4 - (intOf i).toNat)
      case atStart => exact ⟨1, by omega, by omega, rfl, T1'.out⟩
      case round =>
        obtain ⟨k, hk1, hk, rfl, HA⟩ := hrel
        by_cases hlt : k < 4
        · have hlt' : k < s.size := by omega
          have i0 : (0 : Int) ≤ (k : Int) := by omega
          have i1 : (k : Int) < 4 := by omega
          have T : Hid ((s.data.toList.take (k + 1)).all ld = ld s[k]) := (by show _ = _; rw [take_ld s k hlt', HA.out]; rfl)
          have LC : Hid (∀ w, Calls Tryd.prog 25 #[.string (s.extract k (k + 1))] w fun e w' => e = .returned (.bool (isL s[k])) ∧ w' = w) := fun w => by rw [ext_one s k hlt', ← lets_one]; exact sletters_any _ w (by show (1 : Nat) ≤ 1048576; omega)
          have FC : Hid (∀ w, Calls Tryd.prog 41 #[.int .u8 s[k].toNat] w fun e w' => e = .returned (.bool (isD s[k])) ∧ w' = w) := fun w => digit_any _ w
          cases hd : isD s[k]
          · rw [hd] at FC
            cases hb : isL s[k]
            · have E : Hid (cen s = false) := ld_at s k hlt' (by unfold ld; rw [hb, hd]; rfl)
              rw [hb] at LC
              clear T hb hd
              go_wp2_with (first | (go_at_call 25; refine (LC.out _).mono ?_; rintro e w' ⟨rfl, hw'⟩; subst hw') | (go_at_call 41; refine (FC.out _).mono ?_; rintro e w' ⟨rfl, hw'⟩; subst hw'))
              go_ret
              exact ⟨by rw [E.out]; rfl, rfl⟩
            · have TL : Hid ((s.data.toList.take (k + 1)).all ld = true) := (by show _ = _; rw [T.out]; unfold ld; rw [hb]; rfl)
              rw [hb] at LC
              clear T hb hd
              go_wp2_with (first | (go_at_call 25; refine (LC.out _).mono ?_; rintro e w' ⟨rfl, hw'⟩; subst hw') | (go_at_call 41; refine (FC.out _).mono ?_; rintro e w' ⟨rfl, hw'⟩; subst hw'))
              go_round
              case rel => exact ⟨k + 1, by omega, by omega, by go_num, TL.out⟩
              case measure => simp [intOf]; omega
          · have TL : Hid ((s.data.toList.take (k + 1)).all ld = true) := (by show _ = _; rw [T.out]; unfold ld; rw [hd]; simp)
            rw [hd] at FC
            clear T hd
            go_wp2_with (go_at_call 41; refine (FC.out _).mono ?_; rintro e w' ⟨rfl, hw'⟩; subst hw')
            go_round
            case rel => exact ⟨k + 1, by omega, by omega, by go_num, TL.out⟩
            case measure => simp [intOf]; omega
        · have E : Hid (cen s = true) := (by
            show cen s = true
            rw [CE.out]
            have := HA.out
            rw [List.take_of_length_le (by simp; omega)] at this
            rw [this]; rfl)
          go_wp2
          go_ret
          exact ⟨by rw [E.out]; rfl, rfl⟩
  · have e4 : ((s.size : Int) != 4) = true := by simp; omega
    have E : cen s = false := by unfold cen; rw [decide_eq_false h4]; rfl
    rw [E]
    go_enter Tryd.func27, Tryd.ntmps27
    go_wp2
    go_ret
    exact ⟨rfl, rfl⟩
end Go.Proofs.YtepofpmdkphhdaaDoor.Head
