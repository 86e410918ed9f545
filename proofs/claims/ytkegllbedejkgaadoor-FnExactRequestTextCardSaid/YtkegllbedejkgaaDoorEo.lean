/- Entries that are right: in the program and in its model. -/
import Derived.Test.YtkegllbedejkgaaDoorEn
namespace Go.Proofs.YtkegllbedejkgaaDoor.Eo
open Go.ChangeShapes Go.WideShapes Go.ChangeAt Go.RowKit
open Al

def lw (b : UInt8) : Bool := decide (97 ≤ b.toNat) && decide (b.toNat ≤ 122)
def pok (s : ByteArray) : Bool := s.data.toList.all lw && (decide (1 ≤ s.size) && decide (s.size ≤ 4))
theorem byte_at (s : ByteArray) (k : Nat) (h : k < s.size) : s.data.toList[k]'(by simpa using h) = s[k] := by
  simp [ByteArray.getElem_eq_getElem_data]
theorem take_more (s : ByteArray) (k : Nat) (h : k < s.size) : (s.data.toList.take (k + 1)).all lw = ((s.data.toList.take k).all lw && lw s[k]) := by
  rw [List.take_succ_eq_append_getElem (by simpa using h), List.all_append]
  simp only [List.all_cons, List.all_nil, Bool.and_true]
  rw [byte_at]
theorem pok_at (s : ByteArray) (k : Nat) (h : k < s.size) (hf : lw s[k] = false) : pok s = false := by
  unfold pok
  have : s.data.toList.all lw = false := by
    rw [List.all_eq_false]
    refine ⟨s[k], ?_, by rw [hf]; simp⟩
    rw [← byte_at s k h]
    exact List.getElem_mem _
  rw [this]
  rfl

set_option maxHeartbeats 1000000 in
theorem sparam_any (s : ByteArray) (w : World) (hs : s.size ≤ 1048576) : Calls Tryd.prog 28 #[.string s] w fun e w' => e = .returned (.bool (pok s)) ∧ w' = w := by
  go_enter Tryd.func28, Tryd.ntmps28
  go_wp2
  go_loop [3] (fun i => ∃ k : Nat, k ≤ s.size ∧ i = .int .i64 k ∧ Hid ((s.data.toList.take k).all lw = true)) (fun i => s.size - (intOf i).toNat)
  case atStart => exact ⟨0, by omega, rfl, rfl⟩
  case round =>
    obtain ⟨k, hk, rfl, HA⟩ := hrel
    by_cases hlt : k < s.size
    · have i0 : (0 : Int) ≤ (k : Int) := by omega
      have i1 : (k : Int) < (s.size : Int) := by omega
      have T : Hid ((s.data.toList.take (k + 1)).all lw = lw s[k]) := (by show _ = _; rw [take_more s k hlt, HA.out]; rfl)
      cases hb : lw s[k]
      · have E : Hid (pok s = false) := pok_at s k hlt hb
        by_cases h1 : 97 ≤ s[k].toNat
        · have h2 : ¬ s[k].toNat ≤ 122 := fun h2 => by unfold lw at hb; rw [decide_eq_true h1, decide_eq_true h2] at hb; exact absurd hb (by simp)
          have j1 : (97 : Int) ≤ (s[k].toNat : Int) := by omega
          have j2 : (122 : Int) < (s[k].toNat : Int) := by omega
          clear T hb h1 h2
          go_wp2
          go_ret
          exact ⟨by rw [E.out]; rfl, rfl⟩
        · have j1 : (s[k].toNat : Int) < 97 := by omega
          clear T hb h1
          go_wp2
          go_ret
          exact ⟨by rw [E.out]; rfl, rfl⟩
      · have h1 : 97 ≤ s[k].toNat ∧ s[k].toNat ≤ 122 := by unfold lw at hb; simpa using hb
        have j1 : (97 : Int) ≤ (s[k].toNat : Int) := by omega
        have j2 : (s[k].toNat : Int) ≤ 122 := by omega
        rw [hb] at T
        clear hb h1
        go_wp2
        go_round
        case rel => exact ⟨k + 1, by omega, by go_num, T.out⟩
        case measure => simp [intOf]; omega
    · have AL : Hid (s.data.toList.all lw = true) := (by show _ = _; have := HA.out; rw [List.take_of_length_le (by simp; omega)] at this; exact this)
      by_cases h1 : 1 ≤ s.size
      · have j1 : (1 : Int) ≤ (s.size : Int) := by omega
        have E : Hid (pok s = decide ((s.size : Int) ≤ 4)) := (by show _ = _; unfold pok; rw [AL.out, decide_eq_true h1]; simp; omega)
        go_wp2
        go_ret
        exact ⟨by rw [E.out]; rfl, rfl⟩
      · have j1 : (s.size : Int) < 1 := by omega
        have E : Hid (pok s = false) := (by show _ = _; unfold pok; rw [decide_eq_false h1]; simp)
        go_wp2
        go_ret
        exact ⟨by rw [E.out]; rfl, rfl⟩

set_option maxHeartbeats 1000000 in
theorem iparam_any (s : ByteArray) (w : World) (hs : s.size ≤ 1048576) : Calls Tryd.prog 34 #[.string s] w fun e w' => e = .returned (.bool (pok s)) ∧ w' = w := by
  go_enter Tryd.func34, Tryd.ntmps34
  go_wp2
  go_loop [6] (fun i => ∃ k : Nat, k ≤ s.size ∧ i = .int .i64 k ∧ Hid ((s.data.toList.take k).all lw = true)) (fun i => s.size - (intOf i).toNat)
  case atStart => exact ⟨0, by omega, rfl, rfl⟩
  case round =>
    obtain ⟨k, hk, rfl, HA⟩ := hrel
    by_cases hlt : k < s.size
    · have i0 : (0 : Int) ≤ (k : Int) := by omega
      have i1 : (k : Int) < (s.size : Int) := by omega
      have T : Hid ((s.data.toList.take (k + 1)).all lw = lw s[k]) := (by show _ = _; rw [take_more s k hlt, HA.out]; rfl)
      cases hb : lw s[k]
      · have E : Hid (pok s = false) := pok_at s k hlt hb
        by_cases h1 : 97 ≤ s[k].toNat
        · have h2 : ¬ s[k].toNat ≤ 122 := fun h2 => by unfold lw at hb; rw [decide_eq_true h1, decide_eq_true h2] at hb; exact absurd hb (by simp)
          have j1 : (97 : Int) ≤ (s[k].toNat : Int) := by omega
          have j2 : (122 : Int) < (s[k].toNat : Int) := by omega
          clear T hb h1 h2
          go_wp2
          go_ret
          exact ⟨by rw [E.out]; rfl, rfl⟩
        · have j1 : (s[k].toNat : Int) < 97 := by omega
          clear T hb h1
          go_wp2
          go_ret
          exact ⟨by rw [E.out]; rfl, rfl⟩
      · have h1 : 97 ≤ s[k].toNat ∧ s[k].toNat ≤ 122 := by unfold lw at hb; simpa using hb
        have j1 : (97 : Int) ≤ (s[k].toNat : Int) := by omega
        have j2 : (s[k].toNat : Int) ≤ 122 := by omega
        rw [hb] at T
        clear hb h1
        go_wp2
        go_round
        case rel => exact ⟨k + 1, by omega, by go_num, T.out⟩
        case measure => simp [intOf]; omega
    · have AL : Hid (s.data.toList.all lw = true) := (by show _ = _; have := HA.out; rw [List.take_of_length_le (by simp; omega)] at this; exact this)
      have E : Hid (pok s = inn (s.size : Int) 1 4) := (by
        show _ = _
        unfold pok inn
        rw [AL.out]
        by_cases h1 : 1 ≤ s.size
        · rw [decide_eq_true h1, decide_eq_true (by omega : (1 : Int) ≤ (s.size : Int))]; simp; omega
        · rw [decide_eq_false h1, decide_eq_false (by omega : ¬ (1 : Int) ≤ (s.size : Int))]; simp)
      go_wp2_with fail
      refine (i_in (s.size : Int) 1 4 _).mono ?_
      rintro e w1 ⟨rfl, hw⟩
      subst hw
      go_wp2_with fail
      go_ret
      exact ⟨by rw [E.out]; rfl, rfl⟩

set_option maxHeartbeats 1000000 in
theorem stime_any (n : Int) (w : World) : Calls Tryd.prog 49 #[.int .i64 n] w fun e w' => e = .returned (.bool (inn n 0 52596000)) ∧ w' = w := by
  unfold inn
  by_cases h1 : 0 ≤ n
  · have e1 : decide (0 ≤ n) = true := by simpa using h1
    rw [e1]
    go_enter Tryd.func49, Tryd.ntmps49
    go_wp2_with fail
    go_ret
    exact ⟨rfl, rfl⟩
  · have e1 : decide (0 ≤ n) = false := by simpa using h1
    rw [e1]
    go_enter Tryd.func49, Tryd.ntmps49
    go_wp2_with fail
    go_ret
    exact ⟨rfl, rfl⟩

set_option maxHeartbeats 1000000 in
theorem itime_any (n : Int) (w : World) : Calls Tryd.prog 36 #[.int .i64 n] w fun e w' => e = .returned (.bool (inn n 0 52596000)) ∧ w' = w := by
  go_enter Tryd.func36, Tryd.ntmps36
  go_wp2_with fail
  refine (i_in n 0 52596000 w).mono ?_
  rintro e w1 ⟨rfl, hw⟩
  subst hw
  go_wp2_with fail
  go_ret
  exact ⟨rfl, rfl⟩

set_option maxHeartbeats 1000000 in
theorem iahead_any (n : Int) (w : World) : Calls Tryd.prog 37 #[.int .i64 n] w fun e w' => e = .returned (.bool (inn n 0 360)) ∧ w' = w := by
  go_enter Tryd.func37, Tryd.ntmps37
  go_wp2_with fail
  refine (i_in n 0 360 w).mono ?_
  rintro e w1 ⟨rfl, hw⟩
  subst hw
  go_wp2_with fail
  go_ret
  exact ⟨rfl, rfl⟩

set_option maxHeartbeats 1000000 in
theorem ilevel_any (n : Int) (w : World) : Calls Tryd.prog 38 #[.int .i64 n] w fun e w' => e = .returned (.bool (inn n 0 1100)) ∧ w' = w := by
  go_enter Tryd.func38, Tryd.ntmps38
  go_wp2_with fail
  refine (i_in n 0 1100 w).mono ?_
  rintro e w1 ⟨rfl, hw⟩
  subst hw
  go_wp2_with fail
  go_ret
  exact ⟨rfl, rfl⟩

def eok (p : ByteArray) (t s l z : Int) : Bool := pok p && (inn t 0 52596000 && (inn s 0 360 && (inn l 0 1100 && inn z 0 1000000000)))

def ek (L : En.Ls) (i : Nat) : Bool := eok (En.c0 L i) (En.c1 L i) (En.c2 L i) (En.c3 L i) (En.c4 L i)
def alls (L : En.Ls) (n : Nat) : Bool := (List.range n).all (ek L)
theorem alls_succ (L : En.Ls) (n : Nat) : alls L (n + 1) = (alls L n && ek L n) := by
  unfold alls; rw [List.range_succ, List.all_append]; simp
theorem alls_at {L : En.Ls} {n k : Nat} (h : k < n) (hf : ek L k = false) : alls L n = false := by
  unfold alls
  rw [List.all_eq_false]
  exact ⟨k, by simpa using h, by simp [hf]⟩
def okE (L : En.Ls) : Bool := decide (L.length ≤ 300) && alls L L.length
def Ft (L : En.Ls) : Prop := ∀ i, i < L.length → (En.c0 L i).size ≤ 1048576

end Go.Proofs.YtkegllbedejkgaaDoor.Eo
