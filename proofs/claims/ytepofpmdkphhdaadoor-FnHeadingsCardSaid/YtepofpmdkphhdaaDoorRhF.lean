/- What a line's pieces say, plainly, and which is the first that is wrong. -/
import Derived.Test.YtepofpmdkphhdaaDoorRhP
namespace Go.Proofs.YtepofpmdkphhdaaDoor.Head
open Go.RowKit Mk Fig

abbrev em : ByteArray := ⟨#[]⟩
abbrev none8 : Value := hd em em 0 em 0 0 0 em
def K0 (p : ByteArray) : ByteArray := if p.size = 6 then p.extract 0 2 else em
def A0 (p : ByteArray) : ByteArray := if p.size = 6 then p.extract 2 4 else em
def N0 (p : ByteArray) : Int := if p.size = 6 then fig (p.extract 4 6) else 0
def D0 (p : ByteArray) : Int := if p.size = 6 then fig (p.extract 0 2) else 0
def H0 (p : ByteArray) : Int := if p.size = 6 then fig (p.extract 2 4) else 0
def I0 (p : ByteArray) : Int := if p.size = 6 then fig (p.extract 4 6) else 0
def fl (a b c M : ByteArray) : Int := fault (K0 a) (A0 a) (N0 a) b (D0 c) (H0 c) (I0 c) M
def out (f : Int) : Value := .tuple #[none8, .int .i64 f]
def ansOf (a b c M : ByteArray) : Value := if fl a b c M = 0 then .tuple #[hd (K0 a) (A0 a) (N0 a) b (D0 c) (H0 c) (I0 c) M, .int .i64 0] else out (fl a b c M)

theorem fig_neg (s : ByteArray) (h : s.size ≤ 15) : (fig s < 0) ↔ s.data.toList.all isD = false := by
  unfold fig
  cases c : s.data.toList.all isD
  · simp
  · have := bound15 s s.size (Nat.le_refl _) h (by rw [List.take_of_length_le (by rw [len_data]; exact Nat.le_refl _)]; exact c)
    simp
    omega
theorem fig_two (s : ByteArray) (h : s.size = 2) : wi (fig s) 0 99 = decide (0 ≤ fig s) ∧ fig s ≤ 99 := by
  have : fig s ≤ 99 := by
    unfold fig
    cases c : s.data.toList.all isD
    · simp
    · have := bound s s.size (Nat.le_refl _) (by rw [List.take_of_length_le (by rw [len_data]; exact Nat.le_refl _)]; exact c)
      rw [h] at this
      simp
      rw [h]
      omega
  refine ⟨?_, this⟩
  unfold wi
  rw [decide_eq_true this, Bool.and_true]
theorem ext_size {s : ByteArray} {a b : Nat} (h : s.size = 6) (hb : b ≤ 6) : (s.extract a b).size = b - a := by
  rw [ByteArray.size_extract, h, Nat.min_eq_left hb]
theorem ext_join (s : ByteArray) (a b c : Nat) (h1 : a ≤ b) (h2 : b ≤ c) : (s.extract a c).data.toList = (s.extract a b).data.toList ++ (s.extract b c).data.toList := by
  rw [ext_list, ext_list, ext_list]
  have : c - a = (b - a) + (c - b) := by omega
  rw [this, List.take_add, List.drop_drop, show a + (b - a) = b by omega]
theorem ext_all (s : ByteArray) (h : s.size = 6) : s.data.toList = (s.extract 0 6).data.toList := by
  rw [ext_list]
  simp
  rw [List.take_of_length_le (by rw [len_data]; omega)]

theorem fl_two {a b c M : ByteArray} (h : a.size ≠ 6 ∨ lets (a.extract 0 4) = false ∨ fig (a.extract 4 6) < 0) : fl a b c M = 2 := by
  unfold fl fault
  have : (two (K0 a) && two (A0 a) && wi (N0 a) 0 99) = false := by
    by_cases h6 : a.size = 6
    · rcases h with h | h | h
      · exact absurd h6 h
      · unfold lets at h
        rw [ext_join a 0 2 4 (by omega) (by omega), List.all_append] at h
        unfold K0 A0
        rw [if_pos h6, if_pos h6]
        unfold two lets
        revert h
        cases (a.extract 0 2).data.toList.all isL <;> cases (a.extract 2 4).data.toList.all isL <;> simp
      · unfold N0
        rw [if_pos h6, (fig_two _ (ext_size h6 (by omega))).1, decide_eq_false (by omega)]
        simp
    · unfold K0
      rw [if_neg h6]
      have : two em = false := by decide
      rw [this]
      rfl
  rw [this]
  rfl
theorem kind_ok {a : ByteArray} (h6 : a.size = 6) (hl : lets (a.extract 0 4) = true) (hf : 0 ≤ fig (a.extract 4 6)) : (two (K0 a) && two (A0 a) && wi (N0 a) 0 99) = true := by
  unfold K0 A0 N0
  rw [if_pos h6, if_pos h6, if_pos h6, (fig_two _ (ext_size h6 (by omega))).1, decide_eq_true hf]
  unfold lets at hl
  rw [ext_join a 0 2 4 (by omega) (by omega), List.all_append] at hl
  unfold two lets
  rw [ext_size h6 (by omega), ext_size h6 (by omega)]
  revert hl
  cases (a.extract 0 2).data.toList.all isL <;> cases (a.extract 2 4).data.toList.all isL <;> simp
theorem fl_three {a b c M : ByteArray} (h6 : a.size = 6) (hl : lets (a.extract 0 4) = true) (hf : 0 ≤ fig (a.extract 4 6)) (hc : cen b = false) : fl a b c M = 3 := by
  unfold fl fault
  rw [kind_ok h6 hl hf, hc]
  rfl
theorem fl_four {a b c M : ByteArray} (h6 : a.size = 6) (hl : lets (a.extract 0 4) = true) (hf : 0 ≤ fig (a.extract 4 6)) (hc : cen b = true) (h : c.size ≠ 6 ∨ fig c < 0) : fl a b c M = 4 := by
  unfold fl fault
  rw [kind_ok h6 hl hf, hc]
  have : (wi (D0 c) 1 31 && wi (H0 c) 0 23 && wi (I0 c) 0 59) = false := by
    by_cases e : c.size = 6
    · rcases h with h | h
      · exact absurd e h
      · rw [fig_neg c (by omega), ext_all c e, ext_join c 0 2 6 (by omega) (by omega), ext_join c 2 4 6 (by omega) (by omega), List.all_append, List.all_append] at h
        have n1 := fig_neg (c.extract 0 2) (by rw [ext_size e (by omega)]; omega)
        have n2 := fig_neg (c.extract 2 4) (by rw [ext_size e (by omega)]; omega)
        have n3 := fig_neg (c.extract 4 6) (by rw [ext_size e (by omega)]; omega)
        unfold D0 H0 I0
        rw [if_pos e, if_pos e, if_pos e]
        cases a1 : (c.extract 0 2).data.toList.all isD
        · have := n1.2 a1
          unfold wi
          rw [decide_eq_false (show ¬ (1 : Int) ≤ fig (c.extract 0 2) by omega)]
          simp
        · cases a2 : (c.extract 2 4).data.toList.all isD
          · have := n2.2 a2
            unfold wi
            rw [decide_eq_false (show ¬ (0 : Int) ≤ fig (c.extract 2 4) by omega)]
            simp
          · rw [a1, a2] at h
            have := n3.2 (by simpa using h)
            unfold wi
            rw [decide_eq_false (show ¬ (0 : Int) ≤ fig (c.extract 4 6) by omega)]
            simp
    · unfold D0
      rw [if_neg e]
      rfl
  rw [this]
  rfl
theorem mark_em : (markOf em).1 = 0 := by decide
/-- with no mark a heading is wrong before its mark, or right -/
theorem em_four {a b c M : ByteArray} (h6 : a.size = 6) (hl : lets (a.extract 0 4) = true) (hf : 0 ≤ fig (a.extract 4 6)) (hc : cen b = true) (h : fl a b c em ≠ 0) : fl a b c M = 4 := by
  unfold fl fault at h ⊢
  rw [kind_ok h6 hl hf, hc, mark_em] at h
  rw [kind_ok h6 hl hf, hc]
  revert h
  cases (wi (D0 c) 1 31 && wi (H0 c) 0 23 && wi (I0 c) 0 59) <;> simp
theorem em_five {a b c M : ByteArray} (h : fl a b c em = 0) (hM : fl a b c M ≠ 0) : fl a b c M = 5 := by
  unfold fl fault at h hM ⊢
  rw [mark_em] at h
  revert h hM
  cases (two (K0 a) && two (A0 a) && wi (N0 a) 0 99) <;> cases cen b <;> cases (wi (D0 c) 1 31 && wi (H0 c) 0 23 && wi (I0 c) 0 59) <;> simp

def rd : List ByteArray → Value
  | [a, b, c] => if a.size = 0 ∨ b.size = 0 ∨ c.size = 0 then out 1 else ansOf a b c em
  | [a, b, c, d] => if a.size = 0 ∨ b.size = 0 ∨ c.size = 0 ∨ d.size = 0 then out 1 else ansOf a b c d
  | _ => out 1
end Go.Proofs.YtepofpmdkphhdaaDoor.Head
