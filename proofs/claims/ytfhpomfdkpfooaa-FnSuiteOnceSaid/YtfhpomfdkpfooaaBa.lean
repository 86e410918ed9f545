/- XoA, AlA, Tk1, Tk, Su, So, Sp -/
import Derived.Test.YtfhpomfdkpfooaaRows
import Derived.WalkKit
import Derived.ProofKit
import Derived.OpenShut
import Derived.WalkSpells
import Derived.Below
import Derived.Outline
import Derived.OwnWalk
import Derived.WalkSmall
import Derived.Laws.OwnMore
import Derived.Deep.QuietTactic
import Derived.BigQuiet
import Derived.Laws.MakeOwn
import Derived.Deep.RegionWith
import Derived.Deep.RegionHeld3
/- Rows of whole numbers that a call owns: compared, marked, held. -/
namespace Go.Proofs.Ytfhpomfdkpfooaa.Lists
open Go.ChangeShapes Go.WideShapes Go.ChangeAt Go.RowKit

abbrev ints (L : List Int) : List Value := L.map (Value.int .i64)

theorem row_cases {w : World} {base : Nat} {v : Value} {L : List Int} (h : w.ownsRow base 2 1 v L.length (ints L)) :
    (L = [] ∧ v = .slice none 0 0) ∨ ∃ g cap, v = .slice (some ⟨g, 0, none⟩) L.length cap ∧ base ≤ g ∧ g < w.heap.size ∧ L.length ≤ cap ∧ cap ≤ maxLen := by
  obtain ⟨h0, h⟩ := h
  rcases h with ⟨rfl, hn⟩ | ⟨g, cap, cur, rfl, hb, hh, hc, hm, _⟩
  · exact Or.inl ⟨List.eq_nil_of_length_eq_zero hn, rfl⟩
  · refine Or.inr ⟨g, cap, rfl, hb, ?_, hc, hm⟩
    by_cases x : g < w.heap.size
    · exact x
    · rw [Array.getElem?_eq_none (by omega)] at hh; cases hh

theorem row_cell {w : World} {base g cap : Nat} {L : List Int} (h : w.ownsRow base 2 1 (.slice (some ⟨g, 0, none⟩) L.length cap) L.length (ints L)) (i : Nat) (hi : i < L.length) : w.cell? ⟨g, i, none⟩ = some (.int .i64 (L.getD i 0)) := by
  have := h.cellAt i (by omega)
  rw [this]
  simp [ints, List.getElem?_map, List.getElem?_eq_getElem hi]

theorem row_len {w : World} {base : Nat} {v : Value} {L : List Int} (h : w.ownsRow base 2 1 v L.length (ints L)) : L.length ≤ maxLen := by
  rcases row_cases h with ⟨rfl, _⟩ | ⟨_, _, _, _, _, h1, h2⟩
  · exact Nat.zero_le _
  · omega

def mid (k0 : Int) (L : List Int) (j : Nat) : List Int := (List.range L.length).map fun (i : Nat) => if i < j then k0 + (i : Int) else L.getD i 0
def sq (k0 : Int) (n : Nat) : List Int := (List.range n).map fun (i : Nat) => k0 + (i : Int)
theorem mid_len (k0 : Int) (L : List Int) (j : Nat) : (mid k0 L j).length = L.length := by simp [mid]
theorem sq_len (k0 : Int) (n : Nat) : (sq k0 n).length = n := by simp [sq]
theorem mid_zero (k0 : Int) (L : List Int) : mid k0 L 0 = L := by
  apply List.ext_getElem (mid_len _ _ _)
  intro i h1 h2
  simp [mid, List.getElem?_eq_getElem h2]
theorem mid_all (k0 : Int) (L : List Int) : mid k0 L L.length = sq k0 L.length := by
  apply List.ext_getElem (by rw [mid_len, sq_len])
  intro i h1 h2
  rw [mid_len] at h1
  simp [mid, sq, h1]
theorem mid_set (k0 : Int) (L : List Int) (j : Nat) : (mid k0 L j).set j (k0 + (j : Int)) = mid k0 L (j + 1) := by
  apply List.ext_getElem (by rw [List.length_set, mid_len, mid_len])
  intro i h1 h2
  rw [mid_len] at h2
  rw [List.getElem_set]
  by_cases e : j = i
  · subst e; simp [mid]
  · rw [if_neg e]
    simp only [mid, List.getElem_map, List.getElem_range]
    by_cases x : i < j
    · rw [if_pos x, if_pos (by omega)]
    · rw [if_neg x, if_neg (by omega)]
theorem ints_set (L : List Int) (j : Nat) (x : Int) : (ints L).set j (.int .i64 x) = ints (L.set j x) := by simp [ints, List.map_set]
theorem sq_get (k0 : Int) (n i : Nat) (h : i < n) : (sq k0 n).getD i 0 = k0 + (i : Int) := by simp [sq, List.getD_eq_getElem?_getD, h]

theorem grown_setCell {w w1 : World} {g : Nat} (h : w.grownBy w1 (some g)) (o : Nat) (u : Value) : w.grownBy (w1.setCell ⟨g, o, none⟩ u) (some g) := by
  refine ⟨h.os, h.tape, h.output, ?_, ?_⟩
  · have := ((Below.refl 0 w1).setCell (p := ⟨g, o, none⟩) (Nat.zero_le _) u).size
    exact Nat.le_trans h.size this
  · intro k hk hne
    rw [Below.heap_setCell w1 ⟨g, o, none⟩ u k (fun e => hne (by rw [e]))]
    exact h.block k hk hne

theorem Try.info2 : (Try.prog.info? 2).map (fun i => (i.zero, i.size, i.bytes)) = some (some (.int .i64 0), 1, 8) := by kernel_rfl

def Reads (w : World) (v : Value) (L : List Int) : Prop :=
  (L = [] ∧ ∃ a cap, v = .slice a 0 cap) ∨ ∃ b o cap, v = .slice (some ⟨b, o, none⟩) L.length cap ∧ L.length ≤ cap ∧ cap ≤ maxLen ∧ b < w.heap.size ∧ ∀ i, i < L.length → w.cell? ⟨b, o + i, none⟩ = some (.int .i64 (L.getD i 0))

theorem Reads.form {w : World} {v : Value} {L : List Int} (h : Reads w v L) : ∃ a cap, v = .slice a L.length cap := by
  rcases h with ⟨rfl, a, cap, rfl⟩ | ⟨b, o, cap, rfl, _⟩
  · exact ⟨_, _, rfl⟩
  · exact ⟨_, _, rfl⟩
theorem Reads.on {w w' : World} {v : Value} {L : List Int} (h : Reads w v L) (hb : Below w.heap.size w w') : Reads w' v L := by
  rcases h with ⟨rfl, a, cap, rfl⟩ | ⟨b, o, cap, rfl, h1, h2, h3, h4⟩
  · exact .inl ⟨rfl, _, _, rfl⟩
  · exact .inr ⟨b, o, cap, rfl, h1, h2, Nat.lt_of_lt_of_le h3 hb.size, fun i hi => (hb.cell (p := ⟨b, o + i, none⟩) h3).trans (h4 i hi)⟩
theorem reads_row {w : World} {base : Nat} {v : Value} {L : List Int} (h : w.ownsRow base 2 1 v L.length (ints L)) : Reads w v L := by
  rcases row_cases h with ⟨rfl, rfl⟩ | ⟨g, cap, rfl, h1, h2, h3, h4⟩
  · exact .inl ⟨rfl, _, _, rfl⟩
  · exact .inr ⟨g, 0, cap, rfl, h3, h4, h2, fun i hi => by rw [Nat.zero_add]; exact row_cell h i hi⟩

set_option maxHeartbeats 400000 in
theorem sin_any (n a b : Int) (w : World) : Calls Try.prog 27 #[.int .i64 n, .int .i64 a, .int .i64 b] w fun e w' => e = .returned (.bool (decide (a ≤ n) && decide (n ≤ b))) ∧ w' = w := by
  by_cases h1 : a ≤ n
  · by_cases h2 : n ≤ b
    · go_enter Try.func27, Try.ntmps27
      go_wp2
      go_ret
      exact ⟨by simp [h1, h2], rfl⟩
    · have h2' : decide (n ≤ b) = false := by simp; omega
      go_enter Try.func27, Try.ntmps27
      go_wp2
      go_ret
      exact ⟨by simp, rfl⟩
  · have h1' : decide (a ≤ n) = false := by simp; omega
    go_enter Try.func27, Try.ntmps27
    go_wp2
    go_ret
    exact ⟨by simp, rfl⟩
set_option maxHeartbeats 400000 in
theorem win_any (n a b : Int) (w : World) : Calls Try.prog 29 #[.int .i64 n, .int .i64 a, .int .i64 b] w fun e w' => e = .returned (.bool (decide (a ≤ n) && decide (n ≤ b))) ∧ w' = w := by
  by_cases h1 : a ≤ n
  · by_cases h2 : n ≤ b
    · go_enter Try.func29, Try.ntmps29
      go_wp2
      go_ret
      exact ⟨by simp [h1, h2], rfl⟩
    · have h2' : decide (n ≤ b) = false := by simp; omega
      go_enter Try.func29, Try.ntmps29
      go_wp2
      go_ret
      exact ⟨by simp, rfl⟩
  · have h1' : decide (a ≤ n) = false := by simp; omega
    go_enter Try.func29, Try.ntmps29
    go_wp2
    go_ret
    exact ⟨by simp, rfl⟩

def fill (L : List Int) (j : Nat) : List Int := (List.range L.length).map fun i => if i < j then L.getD i 0 else 0
theorem fill_len (L : List Int) (j : Nat) : (fill L j).length = L.length := by simp [fill]
theorem fill_zero (L : List Int) : (madeCells (Value.int .i64 0).cells (L.length * 1)).toList = ints (fill L 0) := by
  apply List.ext_getElem
  · simp [madeCells, ints, fill]
  · intro i h1 h2
    simp [madeCells, ints, fill, Value.cells, Nat.mod_one]
theorem fill_all (L : List Int) : fill L L.length = L := by
  apply List.ext_getElem (fill_len _ _)
  intro i h1 h2
  simp [fill, h2]
theorem fill_set (L : List Int) (j : Nat) : (fill L j).set j (L.getD j 0) = fill L (j + 1) := by
  apply List.ext_getElem (by rw [List.length_set, fill_len, fill_len])
  intro i h1 h2
  rw [List.getElem_set]
  by_cases e : j = i
  · subst e; simp [fill]
  · rw [if_neg e]
    simp only [fill, List.getElem_map, List.getElem_range]
    by_cases x : i < j
    · rw [if_pos x, if_pos (by omega)]
    · rw [if_neg x, if_neg (by omega)]

end Go.Proofs.Ytfhpomfdkpfooaa.Lists

/- Numbers within bounds, whole lists of them: the model and the program. -/
namespace Go.Proofs.Ytfhpomfdkpfooaa.Al
open Go.ChangeShapes Go.WideShapes Go.ChangeAt Go.RowKit
open Go.Proofs.Ytfhpomfdkpfooaa.Lists

def inn (a lo hi : Int) : Bool := decide (lo ≤ a) && decide (a ≤ hi)
theorem inn_iff (a lo hi : Int) : inn a lo hi = true ↔ lo ≤ a ∧ a ≤ hi := by simp [inn]
theorem s_in (n a b : Int) (w : World) : Calls Try.prog 27 #[.int .i64 n, .int .i64 a, .int .i64 b] w fun e w' => e = .returned (.bool (inn n a b)) ∧ w' = w := sin_any n a b w
theorem i_in (n a b : Int) (w : World) : Calls Try.prog 29 #[.int .i64 n, .int .i64 a, .int .i64 b] w fun e w' => e = .returned (.bool (inn n a b)) ∧ w' = w := win_any n a b w
theorem reads_at {w : World} {v : Value} {L : List Int} (hL : Lists.Reads w v L) : ∃ b o, (∀ i, i < L.length → w.cell? ⟨b, o + i, none⟩ = some (.int .i64 (L.getD i 0))) ∧ (0 < L.length → b < w.heap.size ∧ ∃ cap, v = .slice (some ⟨b, o, none⟩) L.length cap) := by
  rcases hL with ⟨rfl, _⟩ | ⟨b, o, cap, h1, h2, h3, h4, h5⟩
  · exact ⟨0, 0, fun i hi => by simp at hi, fun hi => by simp at hi⟩
  · exact ⟨b, o, h5, fun _ => ⟨h4, cap, h1⟩⟩
def nums (L : List Int) (n lo hi : Int) : Bool := decide ((L.length : Int) = n) && L.all (fun d => inn d lo hi)
theorem nums_parts {L : List Int} {n lo hi : Int} (h : nums L n lo hi = true) : (L.length : Int) = n ∧ ∀ j, j < L.length → lo ≤ L.getD j 0 ∧ L.getD j 0 ≤ hi := by
  unfold nums at h
  rw [Bool.and_eq_true, decide_eq_true_eq, List.all_eq_true] at h
  refine ⟨h.1, fun j hj => ?_⟩
  have := h.2 (L.getD j 0) (by simp [List.getD_eq_getElem?_getD, hj])
  rw [inn_iff] at this
  exact this

set_option maxHeartbeats 1000000 in
theorem iall_any (L : List Int) (lo hi : Int) (v : Value) (w : World) (hL : Lists.Reads w v L) (hf : L.length < 9223372036854775808) :
    Calls Try.prog 50 #[v, .int .i64 lo, .int .i64 hi] w fun e w' => e = .returned (.bool (L.all (fun d => inn d lo hi))) ∧ w' = w := by
  obtain ⟨b, o, hcell, hvv⟩ := reads_at hL
  obtain ⟨a, cap, rfl⟩ := hL.form
  have HC : Hid (∀ i, i < L.length → w.cell? ⟨b, o + i, none⟩ = some (.int .i64 (L.getD i 0))) := hcell
  have HB : Hid (0 < L.length → b < w.heap.size ∧ a = some ⟨b, o, none⟩) := fun hi => by
    obtain ⟨h1, c, h2⟩ := hvv hi
    simp at h2
    exact ⟨h1, h2.1⟩
  obtain ⟨bo, hbo⟩ : ∃ bo, L.all (fun d => inn d lo hi) = bo := ⟨_, rfl⟩
  rw [hbo]
  have HO : Hid (L.all (fun d => inn d lo hi) = bo) := hbo
  obtain ⟨n, hn⟩ : ∃ n, n = L.length := ⟨_, rfl⟩
  rw [← hn] at hf ⊢
  have HN : Hid (n = L.length) := hn
  clear hL hcell hvv hbo hn
  go_enter Try.func50, Try.ntmps50
  go_wp2_with fail
  go_loop [11] (fun i => ∃ k : Nat, k ≤ n ∧ i = .int .i64 k ∧ Hid (∀ j, j < k → inn (L.getD j 0) lo hi = true)) (fun i => n - (intOf i).toNat)
  case atStart => exact ⟨0, by omega, rfl, fun j hj => by omega⟩
  case round =>
    obtain ⟨k, hk, rfl, OK⟩ := hrel
    by_cases hlt : k < n
    · have hkl : k < L.length := by rw [← HN.out]; exact hlt
      obtain ⟨hb, hx⟩ := HB.out (by omega)
      subst hx
      have q : w.cell? ⟨b, o + k, none⟩ = some (.int .i64 (L.getD k 0)) := HC.out k hkl
      have i1 : (0 : Int) ≤ (k : Int) := by omega
      have i2 : (k : Int) < (n : Int) := by omega
      have C3 : Hid (∀ w, Calls Try.prog 29 #[.int .i64 (L.getD k 0), .int .i64 lo, .int .i64 hi] w fun e w' => e = .returned (.bool (inn (L.getD k 0) lo hi)) ∧ w' = w) := fun w => i_in _ _ _ w
      cases hz : inn (L.getD k 0) lo hi
      · have HF : Hid (bo = false) := (by
          show _ = _
          rw [← HO.out, List.all_eq_false]
          exact ⟨L.getD k 0, by simp [List.getD_eq_getElem?_getD, hkl], by rw [hz]; simp⟩)
        rw [hz] at C3
        clear hz
        generalize L.getD k 0 = z at *
        go_wp2_with fail
        refine (C3.out _).mono ?_
        rintro e w3 ⟨rfl, hw⟩
        have hw' := hw.symm
        subst hw'
        go_wp2_with fail
        go_ret
        exact ⟨by rw [HF.out]; rfl, rfl⟩
      · have OK2 : Hid (∀ j, j < k + 1 → inn (L.getD j 0) lo hi = true) := fun j hj => by
          by_cases e : j = k
          · rw [e]; exact hz
          · exact OK.out j (by omega)
        rw [hz] at C3
        clear hz
        generalize L.getD k 0 = z at *
        go_wp2_with fail
        refine (C3.out _).mono ?_
        rintro e w3 ⟨rfl, hw⟩
        have hw' := hw.symm
        subst hw'
        go_wp2_with fail
        go_round
        case rel => exact ⟨k + 1, by omega, by go_num, OK2⟩
        case measure => simp [intOf]; omega
    · have HT : Hid (bo = true) := (by
        show _ = _
        rw [← HO.out, List.all_eq_true]
        intro d hd
        obtain ⟨j, hj, rfl⟩ := List.getElem_of_mem hd
        have := OK.out j (by have := HN.out; omega)
        simpa [List.getD_eq_getElem?_getD, hj] using this)
      go_wp2_with fail
      go_ret
      exact ⟨by rw [HT.out]; rfl, rfl⟩

set_option maxHeartbeats 1000000 in
theorem sall_any (L : List Int) (c lo hi : Int) (v : Value) (w : World) (hL : Lists.Reads w v L) (hf : L.length < 9223372036854775808) :
    Calls Try.prog 49 #[v, .int .i64 c, .int .i64 lo, .int .i64 hi] w fun e w' => e = .returned (.bool (nums L c lo hi)) ∧ ∃ m, w' = w.drewN m := by
  obtain ⟨b, o, hcell, hvv⟩ := reads_at hL
  obtain ⟨a, cap, rfl⟩ := hL.form
  have HC : Hid (∀ i, i < L.length → w.cell? ⟨b, o + i, none⟩ = some (.int .i64 (L.getD i 0))) := hcell
  have HB : Hid (0 < L.length → b < w.heap.size ∧ a = some ⟨b, o, none⟩) := fun hi => by
    obtain ⟨h1, c, h2⟩ := hvv hi
    simp at h2
    exact ⟨h1, h2.1⟩
  obtain ⟨bo, hbo⟩ : ∃ bo, nums L c lo hi = bo := ⟨_, rfl⟩
  rw [hbo]
  by_cases hc : (L.length : Int) = c
  · have hbo2 : L.all (fun d => inn d lo hi) = bo := by rw [← hbo]; unfold nums; simp [hc]
    have HO : Hid (L.all (fun d => inn d lo hi) = bo) := hbo2
    subst hc
    obtain ⟨n, hn⟩ : ∃ n, n = L.length := ⟨_, rfl⟩
    rw [← hn] at hf ⊢
    have HN : Hid (n = L.length) := hn
    have e1 : ((n : Int) != (n : Int)) = false := by simp
    clear hL hcell hvv hbo hbo2 hn
    go_enter Try.func49, Try.ntmps49
    go_wp2_with fail
    go_loopw [9] (fun i wr => ∃ k : Nat, k ≤ n ∧ i = .int .i64 k ∧ (∃ m, wr = w.drewN m) ∧ Hid (∀ j, j < k → inn (L.getD j 0) lo hi = true)) (fun i _ => n - (intOf i).toNat)
    case atStart => exact ⟨0, by omega, rfl, ⟨0, rfl⟩, fun j hj => by omega⟩
    case round =>
      obtain ⟨k, hk, rfl, ⟨m, rfl⟩, OK⟩ := hrel
      by_cases hlt : k < n
      · have hkl : k < L.length := by rw [← HN.out]; exact hlt
        obtain ⟨hb, hx⟩ := HB.out (by omega)
        subst hx
        have q : (w.drewN m).cell? ⟨b, o + k, none⟩ = some (.int .i64 (L.getD k 0)) := HC.out k hkl
        have i1 : (0 : Int) ≤ (k : Int) := by omega
        have i2 : (k : Int) < (n : Int) := by omega
        have C3 : Hid (∀ w, Calls Try.prog 27 #[.int .i64 (L.getD k 0), .int .i64 lo, .int .i64 hi] w fun e w' => e = .returned (.bool (inn (L.getD k 0) lo hi)) ∧ w' = w) := fun w => s_in _ _ _ w
        cases hz : inn (L.getD k 0) lo hi
        · have HF : Hid (bo = false) := (by
            show _ = _
            rw [← HO.out, List.all_eq_false]
            exact ⟨L.getD k 0, by simp [List.getD_eq_getElem?_getD, hkl], by rw [hz]; simp⟩)
          rw [hz] at C3
          clear hz
          generalize L.getD k 0 = z at *
          go_wp2_with fail
          refine (C3.out _).mono ?_
          rintro e w3 ⟨rfl, hw⟩
          subst hw
          go_wp2_with fail
          go_ret
          exact ⟨by rw [HF.out]; rfl, _, rfl⟩
        · have OK2 : Hid (∀ j, j < k + 1 → inn (L.getD j 0) lo hi = true) := fun j hj => by
            by_cases e : j = k
            · rw [e]; exact hz
            · exact OK.out j (by omega)
          rw [hz] at C3
          clear hz
          generalize L.getD k 0 = z at *
          go_wp2_with fail
          refine (C3.out _).mono ?_
          rintro e w3 ⟨rfl, hw⟩
          subst hw
          go_wp2_with fail
          go_roundw
          case rel => exact ⟨k + 1, by omega, by go_num, ⟨_, rfl⟩, OK2⟩
          case measure => simp [intOf]; omega
      · have HT : Hid (bo = true) := (by
          show _ = _
          rw [← HO.out, List.all_eq_true]
          intro d hd
          obtain ⟨j, hj, rfl⟩ := List.getElem_of_mem hd
          have := OK.out j (by have := HN.out; omega)
          simpa [List.getD_eq_getElem?_getD, hj] using this)
        go_wp2_with fail
        go_ret
        exact ⟨by rw [HT.out]; rfl, _, rfl⟩
  · have hb0 : bo = false := by rw [← hbo]; unfold nums; simp [hc]
    subst hb0
    have e1 : (((L.length : Nat) : Int) != c) = true := by simp [hc]
    generalize L.length = n at *
    go_enter Try.func49, Try.ntmps49
    go_wp2_with fail
    go_ret
    exact ⟨rfl, 0, rfl⟩

end Go.Proofs.Ytfhpomfdkpfooaa.Al

/- A struct of int64s and a list of int64: measured, copied, compared. -/
namespace Go.Proofs.Ytfhpomfdkpfooaa.Tk1
open Go.ChangeShapes Go.WideShapes Go.ChangeAt Go.RowKit
open Go.Proofs.Ytfhpomfdkpfooaa.Lists

abbrev sv (z1 z2 z3 : Int) (v : Value) : Value := .agg #[v, .int .i64 z1, .int .i64 z2, .int .i64 z3]
theorem below_drewN {B : Nat} {a w : World} (h : Below B a w) (n : Nat) : Below B a (w.drewN n) := h.trans ⟨rfl, rfl, rfl, Nat.le_refl _, fun _ _ => rfl⟩
theorem row_on {w w' : World} {base n : Nat} {v : Value} {xs : List Value} (h : w.ownsRow base 2 1 v n xs) (hb : Below w.heap.size w w') : w'.ownsRow base 2 1 v n xs := by
  refine h.kept (row := none) ⟨hb.os, hb.tape, hb.output, hb.size, fun k hk _ => hb.block k hk⟩ ?_
  by_cases e : v.ownBlock = none
  · exact Or.inl e
  · exact Or.inr e
theorem row_set {w : World} {base n : Nat} {v : Value} {xs : List Value} (h : w.ownsRow base 2 1 v n xs) (g o : Nat) (u : Value) (hg : g < base) : (w.setCell ⟨g, o, none⟩ u).ownsRow base 2 1 v n xs := by
  refine h.kept (row := some g) (grown_setCell (World.grownBy.refl w (some g)) o u) ?_
  cases e : v.ownBlock with
  | none => exact .inl rfl
  | some k =>
    refine .inr fun x => ?_
    have := (h.lt k e).1
    simp at x
    omega
theorem own_down {w : World} {B B' n : Nat} {v : Value} {xs : List Value} (h : w.ownsRow B 2 1 v n xs) (hb : B' ≤ B) : w.ownsRow B' 2 1 v n xs := by
  refine ⟨h.1, ?_⟩
  rcases h.2 with h | ⟨gx, cap, cur, h1, h2, h3⟩
  · exact .inl h
  · exact .inr ⟨gx, cap, cur, h1, by omega, h3⟩

def Box (w : World) (g : Nat) (v0 v1 v2 v3 : Value) : Prop := w.cell? ⟨g, 0, none⟩ = some v0 ∧ w.cell? ⟨g, 1, none⟩ = some v1 ∧ w.cell? ⟨g, 2, none⟩ = some v2 ∧ w.cell? ⟨g, 3, none⟩ = some v3
theorem Box.on {w w' : World} {B g : Nat} {v0 v1 v2 v3 : Value} (h : Box w g v0 v1 v2 v3) (hb : Below B w w') (hg : g < B) : Box w' g v0 v1 v2 v3 := by
  obtain ⟨h0, h1, h2, h3⟩ := h
  exact ⟨(hb.cell (p := ⟨g, 0, none⟩) hg).trans h0, (hb.cell (p := ⟨g, 1, none⟩) hg).trans h1, (hb.cell (p := ⟨g, 2, none⟩) hg).trans h2, (hb.cell (p := ⟨g, 3, none⟩) hg).trans h3⟩
theorem Box.apart {w w' : World} {g : Nat} {row : Option Nat} {v0 v1 v2 v3 : Value} (h : Box w g v0 v1 v2 v3) (hb : w.grownBy w' row) (hg : ∀ k, row = some k → g ≠ k) : Box w' g v0 v1 v2 v3 := by
  obtain ⟨h0, h1, h2, h3⟩ := h
  have e : some g ≠ row := fun x => hg g x.symm rfl
  exact ⟨hb.cell h0 e, hb.cell h1 e, hb.cell h2 e, hb.cell h3 e⟩

end Go.Proofs.Ytfhpomfdkpfooaa.Tk1

/- Lists of structs of int64s and a list of int64: read, measured, copied, compared. -/
namespace Go.Proofs.Ytfhpomfdkpfooaa.Tk
open Go.ChangeShapes Go.WideShapes Go.ChangeAt Go.RowKit
open Go.Proofs.Ytfhpomfdkpfooaa.Lists

abbrev El := (Nat → Int) × List Int
abbrev Ls := List El
def cz (L : Ls) (i j : Nat) : Int := (L.getD i (fun _ => 0, [])).1 j
def cl (L : Ls) (i : Nat) : List Int := (L.getD i (fun _ => 0, [])).2
def Cs (w : World) (b o : Nat) (L : Ls) (i : Nat) : Prop := w.cell? ⟨b, o + i * 4 + 1, none⟩ = some (.int .i64 (cz L i 1)) ∧ w.cell? ⟨b, o + i * 4 + 2, none⟩ = some (.int .i64 (cz L i 2)) ∧ w.cell? ⟨b, o + i * 4 + 3, none⟩ = some (.int .i64 (cz L i 3)) ∧ ∃ u, w.cell? ⟨b, o + i * 4, none⟩ = some u ∧ Lists.Reads w u (cl L i)
theorem Cs.on {w w' : World} {b o : Nat} {L : Ls} {i : Nat} (h : Cs w b o L i) (hb : Below w.heap.size w w') (hB : b < w.heap.size) : Cs w' b o L i := by
  obtain ⟨h1, h2, h3, u, hu, hr⟩ := h
  exact ⟨(hb.cell (p := ⟨b, o + i * 4 + 1, none⟩) hB).trans h1, (hb.cell (p := ⟨b, o + i * 4 + 2, none⟩) hB).trans h2, (hb.cell (p := ⟨b, o + i * 4 + 3, none⟩) hB).trans h3, u, (hb.cell (p := ⟨b, o + i * 4, none⟩) hB).trans hu, hr.on hb⟩
def Reads (w : World) (v : Value) (L : Ls) : Prop :=
  (L = [] ∧ ∃ a cap, v = .slice a 0 cap) ∨ ∃ b o cap, v = .slice (some ⟨b, o, none⟩) L.length cap ∧ L.length ≤ cap ∧ cap ≤ maxLen ∧ b < w.heap.size ∧ ∀ i, i < L.length → Cs w b o L i
theorem Reads.on {w w' : World} {v : Value} {L : Ls} (h : Reads w v L) (hb : Below w.heap.size w w') : Reads w' v L := by
  rcases h with h | ⟨b, o, cap, h1, h2, h3, h4, h5⟩
  · exact Or.inl h
  · exact Or.inr ⟨b, o, cap, h1, h2, h3, Nat.lt_of_lt_of_le h4 hb.size, fun i hi => (h5 i hi).on hb h4⟩
theorem Reads.form {w : World} {v : Value} {L : Ls} (h : Reads w v L) : ∃ a cap, v = .slice a L.length cap := by
  rcases h with ⟨rfl, a, cap, rfl⟩ | ⟨b, o, cap, rfl, _⟩
  · exact ⟨_, _, rfl⟩
  · exact ⟨_, _, rfl⟩
theorem Reads.fits {w : World} {v : Value} {L : Ls} (h : Reads w v L) : L.length < 9223372036854775808 := by
  rcases h with ⟨rfl, _⟩ | ⟨b, o, c, _, h1, h2, _⟩
  · decide
  · unfold maxLen at h2; omega
theorem lfits {w : World} {v : Value} {L : List Int} (h : Lists.Reads w v L) : L.length < 9223372036854775808 := by
  rcases h with ⟨rfl, _⟩ | ⟨b, o, c, _, h1, h2, _⟩
  · decide
  · unfold maxLen at h2; omega

def Good (w : World) (B : Nat) (xs : List Value) (L : Ls) (j : Nat) : Prop := ∀ i, i < j → xs[i * 4 + 1]? = some (.int .i64 (cz L i 1)) ∧ xs[i * 4 + 2]? = some (.int .i64 (cz L i 2)) ∧ xs[i * 4 + 3]? = some (.int .i64 (cz L i 3)) ∧ ∃ u, xs[i * 4]? = some u ∧ w.ownsRow B 2 1 u (cl L i).length (ints (cl L i))
def Row (w : World) (base : Nat) (v : Value) (L : Ls) : Prop := ∃ xs, w.ownsRow base 50 4 v L.length xs ∧ Good w base xs L L.length
theorem Good.on {w w' : World} {B : Nat} {xs : List Value} {L : Ls} {j : Nat} (h : Good w B xs L j) (hb : Below w.heap.size w w') : Good w' B xs L j := fun i hi => by
  obtain ⟨h1, h2, h3, u, hu, hr⟩ := h i hi
  exact ⟨h1, h2, h3, u, hu, Tk1.row_on hr hb⟩
theorem row_cases {w : World} {base n : Nat} {e : TypeId} {k : Nat} {v : Value} {xs : List Value} (h : w.ownsRow base e k v n xs) :
    (n = 0 ∧ v = .slice none 0 0) ∨ ∃ g cap, v = .slice (some ⟨g, 0, none⟩) n cap ∧ base ≤ g ∧ g < w.heap.size ∧ n ≤ cap ∧ cap ≤ maxLen := by
  obtain ⟨h0, h⟩ := h
  rcases h with ⟨rfl, hn⟩ | ⟨g, cap, cur, rfl, hb, hh, hc, hm, _⟩
  · exact Or.inl ⟨hn, rfl⟩
  · refine Or.inr ⟨g, cap, rfl, hb, ?_, hc, hm⟩
    by_cases x : g < w.heap.size
    · exact x
    · rw [Array.getElem?_eq_none (by omega)] at hh; cases hh
theorem row_below {B : Nat} {e : TypeId} {k : Nat} {v : Value} {n : Nat} {xs : List Value} {w w' : World} (h : w.ownsRow B e k v n xs) (hb : Below w.heap.size w w') : w'.ownsRow B e k v n xs := by
  refine ⟨h.1, ?_⟩
  rcases h.2 with h2 | ⟨g, cap, cur, h1, h2, h3, h4⟩
  · exact .inl h2
  · have hg : g < w.heap.size := by
      rcases Nat.lt_or_ge g w.heap.size with x | x
      · exact x
      · rw [Array.getElem?_eq_none x] at h3; cases h3
    exact .inr ⟨g, cap, cur, h1, h2, (hb.block g hg).trans h3, h4⟩
theorem Row.on {w w' : World} {base : Nat} {v : Value} {L : Ls} (h : Row w base v L) (hb : Below w.heap.size w w') : Row w' base v L := by
  obtain ⟨xs, h, hg⟩ := h
  exact ⟨xs, row_below h hb, hg.on hb⟩
theorem Row.reads {w : World} {base : Nat} {v : Value} {L : Ls} (h : Row w base v L) : Reads w v L := by
  obtain ⟨xs, h, hg⟩ := h
  rcases row_cases h with ⟨hn, rfl⟩ | ⟨g, cap, rfl, _, h2, h3, h4⟩
  · exact Or.inl ⟨List.eq_nil_of_length_eq_zero hn, _, _, rfl⟩
  · refine Or.inr ⟨g, 0, cap, rfl, h3, h4, h2, fun i hi => ?_⟩
    obtain ⟨h1, h2, h3, u, hu, hr⟩ := hg i hi
    refine ⟨(by rw [Nat.zero_add, h.cellAt (i * 4 + 1) (by omega)]; exact h1), (by rw [Nat.zero_add, h.cellAt (i * 4 + 2) (by omega)]; exact h2), (by rw [Nat.zero_add, h.cellAt (i * 4 + 3) (by omega)]; exact h3), u, ?_, Lists.reads_row hr⟩
    rw [Nat.zero_add, h.cellAt (i * 4) (by omega)]; exact hu

theorem Try.infoE : (Try.prog.info? 50).map (fun i => (i.zero, i.size, i.bytes)) = some (some (.agg #[.slice none 0 0, .int .i64 0, .int .i64 0, .int .i64 0]), 4, 48) := by kernel_rfl
end Go.Proofs.Ytfhpomfdkpfooaa.Tk

/- A suite (a list of tasks, a list of limits) by value: measured, copied, compared. -/
namespace Go.Proofs.Ytfhpomfdkpfooaa.Su
open Go.ChangeShapes Go.WideShapes Go.ChangeAt Go.RowKit
open Go.Proofs.Ytfhpomfdkpfooaa.Lists

abbrev pv (r l : Value) : Value := .agg #[r, l]
def Box (w : World) (b : Nat) (v0 v1 : Value) : Prop := w.cell? ⟨b, 0, none⟩ = some v0 ∧ w.cell? ⟨b, 1, none⟩ = some v1
def Free (w : World) (b : Nat) : Prop := w.frozen? ⟨b, 0, none⟩ = false ∧ w.frozen? ⟨b, 1, none⟩ = false
theorem Box.on {w w' : World} {B b : Nat} {v0 v1 : Value} (h : Box w b v0 v1) (hb : Below B w w') (hg : b < B) : Box w' b v0 v1 := by
  obtain ⟨h0, h1⟩ := h
  exact ⟨(hb.cell (p := ⟨b, 0, none⟩) hg).trans h0, (hb.cell (p := ⟨b, 1, none⟩) hg).trans h1⟩
theorem Free.on {w w' : World} {B b : Nat} (h : Free w b) (hb : Below B w w') (hg : b < B) : Free w' b := by
  obtain ⟨h0, h1⟩ := h
  exact ⟨(hb.frozen (p := ⟨b, 0, none⟩) hg).trans h0, (hb.frozen (p := ⟨b, 1, none⟩) hg).trans h1⟩
theorem Box.off {w : World} {b g o : Nat} {u v0 v1 : Value} (h : Box w b v0 v1) (hg : b ≠ g) : Box (w.setCell ⟨g, o, none⟩ u) b v0 v1 := by
  have e := Below.heap_setCell w ⟨g, o, none⟩ u b hg
  obtain ⟨h0, h1⟩ := h
  exact ⟨(World.cell?_of_block (a := ⟨b, 0, none⟩) e).trans h0, (World.cell?_of_block (a := ⟨b, 1, none⟩) e).trans h1⟩
theorem Free.off {w : World} {b g o : Nat} {u : Value} (h : Free w b) (hg : b ≠ g) : Free (w.setCell ⟨g, o, none⟩ u) b := by
  have e := Below.heap_setCell w ⟨g, o, none⟩ u b hg
  obtain ⟨h0, h1⟩ := h
  exact ⟨(World.frozen?_of_block (a := ⟨b, 0, none⟩) e).trans h0, (World.frozen?_of_block (a := ⟨b, 1, none⟩) e).trans h1⟩
theorem Free.own {w : World} {b o : Nat} {u : Value} (h : Free w b) : Free (w.setCell ⟨b, o, none⟩ u) b := by
  obtain ⟨h0, h1⟩ := h
  exact ⟨by simp [go_sem, h0], by simp [go_sem, h1]⟩
theorem Box.set0 {w : World} {b : Nat} {u v0 v1 : Value} (h : Box w b v0 v1) : Box (w.setCell ⟨b, 0, none⟩ u) b u v1 := by
  obtain ⟨h0, h1⟩ := h
  exact ⟨by simp [go_sem, h0], by simp [go_sem, h1]⟩
theorem row_set {w : World} {base : Nat} {v : Value} {L : Tk.Ls} (h : Tk.Row w base v L) (g o : Nat) (u : Value) (hg : g < base) : Tk.Row (w.setCell ⟨g, o, none⟩ u) base v L := by
  obtain ⟨xs, h, hh⟩ := h
  refine ⟨xs, ?_, fun i hi => ?_⟩
  · refine h.kept (row := some g) (grown_setCell (World.grownBy.refl w (some g)) o u) ?_
    cases e : v.ownBlock with
    | none => exact .inl rfl
    | some k =>
      refine .inr fun x => ?_
      have := (h.lt k e).1
      simp at x
      omega
  · obtain ⟨h1, h2, h3, z, hz, hr⟩ := hh i hi
    exact ⟨h1, h2, h3, z, hz, Tk1.row_set hr g o u hg⟩
theorem row_down {w : World} {B B' : Nat} {v : Value} {L : Tk.Ls} (h : Tk.Row w B v L) (hb : B' ≤ B) : Tk.Row w B' v L := by
  obtain ⟨xs, h, hh⟩ := h
  refine ⟨xs, ⟨h.1, ?_⟩, fun i hi => ?_⟩
  · rcases h.2 with h | ⟨gx, cap, cur, h1, h2, h3⟩
    · exact .inl h
    · exact .inr ⟨gx, cap, cur, h1, by omega, h3⟩
  · obtain ⟨h1, h2, h3, z, hz, hr⟩ := hh i hi
    exact ⟨h1, h2, h3, z, hz, Tk1.own_down hr hb⟩

end Go.Proofs.Ytfhpomfdkpfooaa.Su

/- Whether a suite is right: the model and the program. -/
namespace Go.Proofs.Ytfhpomfdkpfooaa.So
open Go.ChangeShapes Go.WideShapes Go.ChangeAt Go.RowKit
open Go.Proofs.Ytfhpomfdkpfooaa.Lists Go.Proofs.Ytfhpomfdkpfooaa.Al

theorem below_drewN {B : Nat} {a w : World} (h : Below B a w) (n : Nat) : Below B a (w.drewN n) := h.trans ⟨rfl, rfl, rfl, Nat.le_refl _, fun _ _ => rfl⟩
/-- Is the k-th of those that a task comes behind a number up to hi, above the one ahead of it? -/
def eA (L : List Int) (hi : Int) (k : Nat) : Bool := inn (L.getD k 0) 1 hi && (decide (k = 0) || decide (L.getD (k - 1) 0 < L.getD k 0))
def eAs (L : List Int) (hi : Int) : Bool := (List.range L.length).all (eA L hi)
def tok (z1 z2 z3 : Int) (L : List Int) (hi g : Int) : Bool := eAs L hi && (inn z1 1 g && (inn z2 0 1000000000000 && inn z3 1 5))
def okT (R : Tk.Ls) (g : Int) (i : Nat) : Bool := tok (Tk.cz R i 1) (Tk.cz R i 2) (Tk.cz R i 3) (Tk.cl R i) (i : Int) g
def oks (R : Tk.Ls) (g : Int) : Bool := (List.range R.length).all (okT R g)
/-- Is a suite right? -/
def okS (R : Tk.Ls) (X : List Int) : Bool := inn (R.length : Int) 1 60 && (inn (X.length : Int) 1 6 && (X.all (fun d => inn d 1 60) && oks R (X.length : Int)))
theorem eAs_no {L : List Int} {hi : Int} {k : Nat} (hk : k < L.length) (h : eA L hi k = false) : eAs L hi = false := by
  unfold eAs
  rw [List.all_eq_false]
  exact ⟨k, List.mem_range.2 hk, by simp [h]⟩
theorem eAs_yes {L : List Int} {hi : Int} (h : ∀ j, j < L.length → eA L hi j = true) : eAs L hi = true := by
  unfold eAs
  rw [List.all_eq_true]
  intro x hx
  exact h x (List.mem_range.1 hx)
theorem oks_no {R : Tk.Ls} {g : Int} {k : Nat} (hk : k < R.length) (h : okT R g k = false) : oks R g = false := by
  unfold oks
  rw [List.all_eq_false]
  exact ⟨k, List.mem_range.2 hk, by simp [h]⟩
theorem oks_yes {R : Tk.Ls} {g : Int} (h : ∀ j, j < R.length → okT R g j = true) : oks R g = true := by
  unfold oks
  rw [List.all_eq_true]
  intro x hx
  exact h x (List.mem_range.1 hx)
/-- What stood ahead of the k-th. -/
def pr (L : List Int) : Nat → Int
  | 0 => 0
  | k + 1 => L.getD k 0
theorem pr_rng {L : List Int} {hi : Int} : ∀ k, (∀ j, j < k → eA L hi j = true) → (k : Int) ≤ pr L k ∧ (0 < k → pr L k ≤ hi)
  | 0, _ => by simp [pr]
  | k + 1, h => by
    have ih := pr_rng k (fun j hj => h j (by omega))
    have e := h k (by omega)
    unfold eA at e
    rw [Bool.and_eq_true, inn_iff] at e
    refine ⟨?_, fun _ => e.1.2⟩
    show ((k + 1 : Nat) : Int) ≤ L.getD k 0
    cases k with
    | zero => have := e.1.1; omega
    | succ p =>
      have e2 := e.2
      simp only [Nat.add_sub_cancel, decide_eq_false (by omega : ¬ p + 1 = 0), Bool.false_or, decide_eq_true_eq] at e2
      have := ih.1
      rw [show pr L (p + 1) = L.getD p 0 from rfl] at this
      omega
theorem eA_pr {L : List Int} {hi : Int} {k : Nat} (h : ∀ j, j < k → eA L hi j = true) : eA L hi k = inn (L.getD k 0) (pr L k + 1) hi := by
  have hp := pr_rng k h
  cases k with
  | zero => unfold eA pr; simp
  | succ p =>
    have hp1 := hp.1
    unfold eA
    have e : pr L (p + 1) = L.getD p 0 := rfl
    rw [e] at hp1 ⊢
    rw [Nat.add_sub_cancel, decide_eq_false (by omega : ¬ p + 1 = 0), Bool.false_or]
    unfold inn
    by_cases c : L.getD p 0 < L.getD (p + 1) 0
    · rw [decide_eq_true c, decide_eq_true (by omega : 1 ≤ L.getD (p + 1) 0), decide_eq_true (by omega : L.getD p 0 + 1 ≤ L.getD (p + 1) 0)]; simp
    · rw [decide_eq_false c, decide_eq_false (by omega : ¬ L.getD p 0 + 1 ≤ L.getD (p + 1) 0)]; simp
theorem eAs_len {L : List Int} {hi : Int} (h0 : 0 ≤ hi) (h : eAs L hi = true) : (L.length : Int) ≤ hi := by
  have hh : ∀ j, j < L.length → eA L hi j = true := fun j hj => by
    unfold eAs at h
    rw [List.all_eq_true] at h
    exact h j (List.mem_range.2 hj)
  have := pr_rng L.length hh
  by_cases e : 0 < L.length
  · have := this.2 e; omega
  · omega
theorem tok_no1 {z1 z2 z3 : Int} {L : List Int} {hi g : Int} (h : eAs L hi = false) : tok z1 z2 z3 L hi g = false := by unfold tok; rw [h]; rfl
theorem tok_no2 {z1 z2 z3 : Int} {L : List Int} {hi g : Int} (h : inn z1 1 g = false) : tok z1 z2 z3 L hi g = false := by unfold tok; rw [h]; simp
theorem tok_no3 {z1 z2 z3 : Int} {L : List Int} {hi g : Int} (h : inn z2 0 1000000000000 = false) : tok z1 z2 z3 L hi g = false := by unfold tok; rw [h]; simp
theorem tok_no4 {z1 z2 z3 : Int} {L : List Int} {hi g : Int} (h : inn z3 1 5 = false) : tok z1 z2 z3 L hi g = false := by unfold tok; rw [h]; simp
theorem tok_yes {z1 z2 z3 : Int} {L : List Int} {hi g : Int} (h1 : eAs L hi = true) (h2 : inn z1 1 g = true) (h3 : inn z2 0 1000000000000 = true) (h4 : inn z3 1 5 = true) : tok z1 z2 z3 L hi g = true := by unfold tok; rw [h1, h2, h3, h4]; rfl
theorem rows_at {w : World} {v : Value} {L : Tk.Ls} (h : Tk.Reads w v L) : ∃ b o, (∀ i, i < L.length → Tk.Cs w b o L i) ∧ (0 < L.length → b < w.heap.size ∧ ∃ cap, v = .slice (some ⟨b, o, none⟩) L.length cap) := by
  rcases h with ⟨rfl, _⟩ | ⟨b, o, cap, h1, h2, h3, h4, h5⟩
  · exact ⟨0, 0, fun i hi => by simp at hi, fun hi => by simp at hi⟩
  · exact ⟨b, o, h5, fun _ => ⟨h4, cap, h1⟩⟩

set_option maxHeartbeats 1000000 in
theorem itask (z1 z2 z3 : Int) (L : List Int) (v : Value) (n g : Int) (w : World) (hn1 : 1 ≤ n) (hn2 : n ≤ 100) (hL : Lists.Reads w v L) (fL : L.length < 9223372036854775808) :
    Calls Try.prog 51 #[Tk1.sv z1 z2 z3 v, .int .i64 n, .int .i64 g] w fun e w' => e = .returned (.bool (tok z1 z2 z3 L (n - 1) g)) ∧ Below w.heap.size w w' := by
  obtain ⟨w0, hw0⟩ : ∃ w0, w0 = w.alloc (Obj.cells #[v, .int .i64 z1, .int .i64 z2, .int .i64 z3] 50) := ⟨_, rfl⟩
  have HW0 : Hid (w0 = w.alloc (Obj.cells #[v, .int .i64 z1, .int .i64 z2, .int .i64 z3] 50)) := hw0
  have B0 : Hid (Below w.heap.size w w0) := (by show Below _ _ _; rw [hw0]; exact (Below.refl _ _).alloc (Nat.le_refl _) _)
  have K0 : Hid (Tk1.Box w0 w.heap.size v (.int .i64 z1) (.int .i64 z2) (.int .i64 z3)) := (by show Tk1.Box _ _ _ _ _ _; rw [hw0]; unfold Tk1.Box; simp [go_sem])
  obtain ⟨b, o, hcell, hvv⟩ := reads_at (hL.on B0.out)
  obtain ⟨a, cap, rfl⟩ := hL.form
  have HC : Hid (∀ i, i < L.length → w0.cell? ⟨b, o + i, none⟩ = some (.int .i64 (L.getD i 0))) := hcell
  have HB : Hid (0 < L.length → b < w0.heap.size ∧ a = some ⟨b, o, none⟩) := fun hi => by
    obtain ⟨h1, c, h2⟩ := hvv hi
    simp at h2
    exact ⟨h1, h2.1⟩
  obtain ⟨bo, hbo⟩ : ∃ bo, tok z1 z2 z3 L (n - 1) g = bo := ⟨_, rfl⟩
  have HO : Hid (tok z1 z2 z3 L (n - 1) g = bo) := hbo
  rw [hbo]
  obtain ⟨m, hm⟩ : ∃ m, m = L.length := ⟨_, rfl⟩
  rw [← hm] at fL HW0 K0 ⊢
  have HN : Hid (m = L.length) := hm
  have D1 : Hid (∀ w, Calls Try.prog 29 #[.int .i64 z1, .int .i64 1, .int .i64 g] w fun e w' => e = .returned (.bool (inn z1 1 g)) ∧ w' = w) := fun w => i_in _ _ _ w
  have D2 : Hid (∀ w, Calls Try.prog 29 #[.int .i64 z2, .int .i64 0, .int .i64 1000000000000] w fun e w' => e = .returned (.bool (inn z2 0 1000000000000)) ∧ w' = w) := fun w => i_in _ _ _ w
  have D3 : Hid (∀ w, Calls Try.prog 29 #[.int .i64 z3, .int .i64 1, .int .i64 5] w fun e w' => e = .returned (.bool (inn z3 1 5)) ∧ w' = w) := fun w => i_in _ _ _ w
  clear hL hcell hvv hw0 hm hbo
  obtain ⟨k0, k1, k2, k3⟩ := K0.out
  go_enter Try.func51, Try.ntmps51
  go_wp2_with fail
  rw [← HW0.out]
  go_loop [7, 13] (fun l i => ∃ (k : Nat) (p : Int), k ≤ m ∧ i = .int .i64 k ∧ l = .int .i64 p ∧ 0 ≤ p ∧ p ≤ 100 ∧ Hid (p = pr L k ∧ ∀ j, j < k → eA L (n - 1) j = true)) (fun _ i => m - (intOf i).toNat)
  case atStart => exact ⟨0, 0, by omega, rfl, rfl, by omega, by omega, rfl, fun j hj => by omega⟩
  case round =>
    obtain ⟨k, p, hk, rfl, rfl, p0, p1, OK⟩ := hrel
    by_cases hlt : k < m
    · have hkl : k < L.length := by rw [← HN.out]; exact hlt
      obtain ⟨hb, hx⟩ := HB.out (by omega)
      subst hx
      have q : w0.cell? ⟨b, o + k, none⟩ = some (.int .i64 (L.getD k 0)) := HC.out k hkl
      have i1 : (0 : Int) ≤ (k : Int) := by omega
      have i2 : (k : Int) < (m : Int) := by omega
      have EA : Hid (eA L (n - 1) k = inn (L.getD k 0) (p + 1) (n - 1)) := (by show _ = _; rw [OK.out.1]; exact eA_pr OK.out.2)
      have C3 : Hid (∀ w, Calls Try.prog 29 #[.int .i64 (L.getD k 0), .int .i64 (p + 1), .int .i64 (n - 1)] w fun e w' => e = .returned (.bool (inn (L.getD k 0) (p + 1) (n - 1))) ∧ w' = w) := fun w => i_in _ _ _ w
      have HG : Hid (pr L (k + 1) = L.getD k 0) := rfl
      cases hz : inn (L.getD k 0) (p + 1) (n - 1)
      · have HF : Hid (bo = false) := (by show _ = _; rw [← HO.out]; exact tok_no1 (eAs_no hkl (EA.out.trans hz)))
        rw [hz] at C3
        clear hz HG EA
        generalize L.getD k 0 = z at *
        go_wp2_with fail
        refine (C3.out _).mono ?_
        rintro e w3 ⟨rfl, hw⟩
        have hw' := hw.symm
        subst hw'
        go_wp2_with fail
        go_ret
        exact ⟨by rw [HF.out]; rfl, B0.out⟩
      · have OK2 : Hid (∀ j, j < k + 1 → eA L (n - 1) j = true) := fun j hj => by
          by_cases e : j = k
          · rw [e]; exact EA.out.trans hz
          · exact OK.out.2 j (by omega)
        have hzz := (inn_iff _ _ _).1 hz
        have z0 : 0 ≤ L.getD k 0 := by omega
        have z100 : L.getD k 0 ≤ 100 := by omega
        rw [hz] at C3
        clear hz EA hzz
        generalize L.getD k 0 = z at *
        go_wp2_with fail
        refine (C3.out _).mono ?_
        rintro e w3 ⟨rfl, hw⟩
        have hw' := hw.symm
        subst hw'
        go_wp2_with fail
        go_round
        case rel => exact ⟨k + 1, z, by omega, by go_num, rfl, z0, z100, HG.out.symm, OK2.out⟩
        case measure => simp [intOf]; omega
    · have EY : Hid (eAs L (n - 1) = true) := (by show _ = _; exact eAs_yes (fun j hj => OK.out.2 j (by have := HN.out; omega)))
      clear p0 p1
      cases c1 : inn z1 1 g
      · have HF : Hid (bo = false) := (by show _ = _; rw [← HO.out]; exact tok_no2 c1)
        rw [c1] at D1
        clear c1
        go_wp2_with fail
        refine (D1.out _).mono ?_
        rintro e w3 ⟨rfl, hw⟩
        have hw' := hw.symm
        subst hw'
        go_wp2_with fail
        go_ret
        exact ⟨by rw [HF.out]; rfl, B0.out⟩
      cases c2 : inn z2 0 1000000000000
      · have HF : Hid (bo = false) := (by show _ = _; rw [← HO.out]; exact tok_no3 c2)
        rw [c1] at D1
        rw [c2] at D2
        clear c1 c2
        go_wp2_with fail
        refine (D1.out _).mono ?_
        rintro e w3 ⟨rfl, hw⟩
        have hw' := hw.symm
        subst hw'
        go_wp2_with fail
        refine (D2.out _).mono ?_
        rintro e w3 ⟨rfl, hw⟩
        have hw' := hw.symm
        subst hw'
        go_wp2_with fail
        go_ret
        exact ⟨by rw [HF.out]; rfl, B0.out⟩
      have HE : Hid (bo = inn z3 1 5) := (by show _ = _; rw [← HO.out]; unfold tok; rw [EY.out, c1, c2]; rfl)
      rw [c1] at D1
      rw [c2] at D2
      clear c1 c2
      go_wp2_with fail
      refine (D1.out _).mono ?_
      rintro e w3 ⟨rfl, hw⟩
      have hw' := hw.symm
      subst hw'
      go_wp2_with fail
      refine (D2.out _).mono ?_
      rintro e w3 ⟨rfl, hw⟩
      have hw' := hw.symm
      subst hw'
      go_wp2_with fail
      refine (D3.out _).mono ?_
      rintro e w3 ⟨rfl, hw⟩
      have hw' := hw.symm
      subst hw'
      go_wp2_with fail
      go_ret
      exact ⟨by rw [HE.out]; rfl, B0.out⟩

theorem okS_no1 {R : Tk.Ls} {X : List Int} (h : inn (R.length : Int) 1 60 = false) : okS R X = false := by unfold okS; rw [h]; rfl
theorem okS_no2 {R : Tk.Ls} {X : List Int} (h : inn (X.length : Int) 1 6 = false) : okS R X = false := by unfold okS; rw [h]; simp
theorem okS_no3 {R : Tk.Ls} {X : List Int} (h : X.all (fun d => inn d 1 60) = false) : okS R X = false := by unfold okS; rw [h]; simp
theorem okS_no4 {R : Tk.Ls} {X : List Int} (h : oks R (X.length : Int) = false) : okS R X = false := by unfold okS; rw [h]; simp

set_option maxHeartbeats 1000000 in
set_option maxRecDepth 20000 in
theorem isuite (R : Tk.Ls) (X : List Int) (vr vx : Value) (w : World) (hR : Tk.Reads w vr R) (hX : Lists.Reads w vx X) :
    Calls Try.prog 35 #[Su.pv vr vx] w fun e w' => e = .returned (.bool (okS R X)) ∧ Below w.heap.size w w' := by
  obtain ⟨br, or, hcr, hvr⟩ := rows_at hR
  have rf := hR.fits
  have xf := Tk.lfits hX
  obtain ⟨sr, cr, er⟩ := hR.form
  obtain ⟨sx, cx, ex⟩ := hX.form
  subst er ex
  obtain ⟨w0, hw0⟩ : ∃ w0, w0 = w.alloc (Obj.cells #[.slice sr R.length cr, .slice sx X.length cx] 27) := ⟨_, rfl⟩
  have HW0 : Hid (w0 = w.alloc (Obj.cells #[.slice sr R.length cr, .slice sx X.length cx] 27)) := hw0
  have B0 : Hid (Below w.heap.size w w0) := (by show Below _ _ _; rw [hw0]; exact (Below.refl _ _).alloc (Nat.le_refl _) _)
  have Z0 : Hid (w0.heap.size = w.heap.size + 1) := (by show _ = _; rw [hw0]; simp)
  have K0 : Hid (Su.Box w0 w.heap.size (.slice sr R.length cr) (.slice sx X.length cx)) := (by show Su.Box _ _ _ _; rw [hw0]; unfold Su.Box; simp [go_sem])
  have HCR : Hid (∀ i, i < R.length → Tk.Cs w br or R i) := hcr
  have HVR : Hid (0 < R.length → br < w.heap.size ∧ sr = some ⟨br, or, none⟩) := fun hi => by
    obtain ⟨h1, c, h2⟩ := hvr hi
    simp at h2
    exact ⟨h1, h2.1⟩
  have D1 : Hid (∀ w, Calls Try.prog 29 #[.int .i64 (R.length : Int), .int .i64 1, .int .i64 60] w fun e w' => e = .returned (.bool (inn (R.length : Int) 1 60)) ∧ w' = w) := fun w => i_in _ _ _ w
  have D2 : Hid (∀ w, Calls Try.prog 29 #[.int .i64 (X.length : Int), .int .i64 1, .int .i64 6] w fun e w' => e = .returned (.bool (inn (X.length : Int) 1 6)) ∧ w' = w) := fun w => i_in _ _ _ w
  have D3 : Hid (Calls Try.prog 50 #[.slice sx X.length cx, .int .i64 1, .int .i64 60] w0 fun e w' => e = .returned (.bool (X.all (fun d => inn d 1 60))) ∧ w' = w0) := iall_any X 1 60 _ w0 (hX.on B0.out) xf
  obtain ⟨bo, hbo⟩ : ∃ bo, okS R X = bo := ⟨_, rfl⟩
  have HO : Hid (okS R X = bo) := hbo
  rw [hbo]
  have N1 : Hid (inn (R.length : Int) 1 60 = false → bo = false) := fun h => by rw [← HO.out]; exact okS_no1 h
  have N2 : Hid (inn (X.length : Int) 1 6 = false → bo = false) := fun h => by rw [← HO.out]; exact okS_no2 h
  have N3 : Hid (X.all (fun d => inn d 1 60) = false → bo = false) := fun h => by rw [← HO.out]; exact okS_no3 h
  have N4 : Hid (∀ k, k < R.length → okT R (X.length : Int) k = false → bo = false) := fun k hk h => by rw [← HO.out]; exact okS_no4 (oks_no hk h)
  have Y1 : Hid (inn (R.length : Int) 1 60 = true → inn (X.length : Int) 1 6 = true → X.all (fun d => inn d 1 60) = true → (∀ k, k < R.length → okT R (X.length : Int) k = true) → bo = true) := fun h1 h2 h3 h => by rw [← HO.out]; unfold okS; rw [h1, h2, h3, oks_yes h]; rfl
  obtain ⟨nr, hnr⟩ : ∃ nr, nr = R.length := ⟨_, rfl⟩
  have HN : Hid (nr = R.length) := hnr
  obtain ⟨nx, hnx⟩ : ∃ nx, nx = X.length := ⟨_, rfl⟩
  rw [← hnr] at HW0 K0 rf D1 N1 Y1 ⊢
  rw [← hnx] at HW0 K0 xf D2 D3 N2 N4 Y1 ⊢
  clear hR hX hcr hvr hw0 hbo hnr hnx
  obtain ⟨k0, k1⟩ := K0.out
  cases c1 : inn (nr : Int) 1 60
  · have HF : Hid (bo = false) := N1.out c1
    rw [c1] at D1
    clear c1
    go_enter Try.func35, Try.ntmps35
    go_wp2_with fail
    rw [← HW0.out]
    refine (D1.out _).mono ?_
    rintro e w3 ⟨rfl, hw⟩
    have hw' := hw.symm
    subst hw'
    go_wp2_with fail
    go_ret
    exact ⟨by rw [HF.out]; rfl, B0.out⟩
  have Q1 : Hid (inn (nr : Int) 1 60 = true) := c1
  have n60 := ((inn_iff _ _ _).1 c1).2
  rw [c1] at D1
  clear c1
  cases c2 : inn (nx : Int) 1 6
  · have HF : Hid (bo = false) := N2.out c2
    rw [c2] at D2
    clear c2
    go_enter Try.func35, Try.ntmps35
    go_wp2_with fail
    rw [← HW0.out]
    refine (D1.out _).mono ?_
    rintro e w3 ⟨rfl, hw⟩
    have hw' := hw.symm
    subst hw'
    go_wp2_with fail
    refine (D2.out _).mono ?_
    rintro e w3 ⟨rfl, hw⟩
    have hw' := hw.symm
    subst hw'
    go_wp2_with fail
    go_ret
    exact ⟨by rw [HF.out]; rfl, B0.out⟩
  have Q2 : Hid (inn (nx : Int) 1 6 = true) := c2
  rw [c2] at D2
  clear c2
  cases c3 : X.all (fun d => inn d 1 60)
  · have HF : Hid (bo = false) := N3.out c3
    rw [c3] at D3
    clear c3
    go_enter Try.func35, Try.ntmps35
    go_wp2_with fail
    rw [← HW0.out]
    refine (D1.out _).mono ?_
    rintro e w3 ⟨rfl, hw⟩
    have hw' := hw.symm
    subst hw'
    go_wp2_with fail
    refine (D2.out _).mono ?_
    rintro e w3 ⟨rfl, hw⟩
    have hw' := hw.symm
    subst hw'
    go_wp2_with fail
    refine (D3.out).mono ?_
    rintro e w3 ⟨rfl, hw⟩
    have hw' := hw.symm
    subst hw'
    go_wp2_with fail
    go_ret
    exact ⟨by rw [HF.out]; rfl, B0.out⟩
  have Q3 : Hid (X.all (fun d => inn d 1 60) = true) := c3
  rw [c3] at D3
  clear c3
  go_enter Try.func35, Try.ntmps35
  go_wp2_with fail
  rw [← HW0.out]
  refine (D1.out _).mono ?_
  rintro e w3 ⟨rfl, hw⟩
  have hw' := hw.symm
  subst hw'
  go_wp2_with fail
  refine (D2.out _).mono ?_
  rintro e w3 ⟨rfl, hw⟩
  have hw' := hw.symm
  subst hw'
  go_wp2_with fail
  refine (D3.out).mono ?_
  rintro e w3 ⟨rfl, hw⟩
  have hw' := hw.symm
  subst hw'
  go_wp2_with fail
  go_loopw [28] (fun i wr => ∃ k : Nat, k ≤ nr ∧ i = .int .i64 k ∧ Hid (∀ j, j < k → okT R (nx : Int) j = true) ∧ Hid (Below w0.heap.size w0 wr)) (fun i _ => nr - (intOf i).toNat)
  case atStart => exact ⟨0, by omega, rfl, fun j hj => by omega, Below.refl _ _⟩
  case round =>
    obtain ⟨k, hk, rfl, OK, BB⟩ := hrel
    clear k0 k1
    have z0 := Z0.out
    have zr := BB.out.size
    have KR : Hid (Su.Box wr w.heap.size (.slice sr nr cr) (.slice sx nx cx)) := K0.out.on BB.out (by omega)
    obtain ⟨k0, k1⟩ := KR.out
    by_cases hlt : k < nr
    · have hkl : k < R.length := by rw [← HN.out]; exact hlt
      obtain ⟨hb, hx⟩ := HVR.out (by omega)
      subst hx
      obtain ⟨q1, q2, q3, u, q0, ru⟩ : Tk.Cs wr br or R k := ((HCR.out k hkl).on B0.out hb).on BB.out (by omega)
      obtain ⟨su, cu, eu⟩ := ru.form
      subst eu
      obtain ⟨w2, hw2⟩ : ∃ x, x = wr.alloc (Obj.cells #[.slice su (Tk.cl R k).length cu, .int .i64 (Tk.cz R k 1), .int .i64 (Tk.cz R k 2), .int .i64 (Tk.cz R k 3)] 50) := ⟨_, rfl⟩
      have HW2 : Hid (w2 = wr.alloc (Obj.cells #[.slice su (Tk.cl R k).length cu, .int .i64 (Tk.cz R k 1), .int .i64 (Tk.cz R k 2), .int .i64 (Tk.cz R k 3)] 50)) := hw2
      have b2 : Below wr.heap.size wr w2 := by rw [hw2]; exact (Below.refl _ _).alloc (Nat.le_refl _) _
      have B2 : Hid (Below w0.heap.size w0 w2) := BB.out.trans (b2.mono zr)
      have X2 : Tk1.Box w2 wr.heap.size (.slice su (Tk.cl R k).length cu) (.int .i64 (Tk.cz R k 1)) (.int .i64 (Tk.cz R k 2)) (.int .i64 (Tk.cz R k 3)) := by rw [hw2]; unfold Tk1.Box; simp [go_sem]
      obtain ⟨x0, x1, x2, x3⟩ := X2
      have TT : Hid (Calls Try.prog 51 #[Tk1.sv (Tk.cz R k 1) (Tk.cz R k 2) (Tk.cz R k 3) (.slice su (Tk.cl R k).length cu), .int .i64 ((k : Int) + 1), .int .i64 (nx : Int)] w2 fun e w' => e = .returned (.bool (okT R (nx : Int) k)) ∧ Below w2.heap.size w2 w') := (by
        have := itask (Tk.cz R k 1) (Tk.cz R k 2) (Tk.cz R k 3) (Tk.cl R k) _ ((k : Int) + 1) (nx : Int) w2 (by omega) (by omega) (ru.on b2) (Tk.lfits ru)
        rw [Int.add_sub_cancel] at this
        exact this)
      have NF : Hid (okT R (nx : Int) k = false → bo = false) := fun h => N4.out k hkl h
      have NX : Hid (okT R (nx : Int) k = true → ∀ j, j < k + 1 → okT R (nx : Int) j = true) := fun h j hj => by
        by_cases e : j = k
        · rw [e]; exact h
        · exact OK.out j (by omega)
      have S2 : Hid (w0.heap.size ≤ w2.heap.size) := B2.out.size
      have i2 : (0 : Int) ≤ (k : Int) := by omega
      have i3 : (k : Int) < (nr : Int) := by omega
      clear hw2 b2 ru z0 zr
      generalize okT R (nx : Int) k = c at *
      generalize (Tk.cl R k).length = lh at *
      generalize Tk.cz R k 1 = y1 at *
      generalize Tk.cz R k 2 = y2 at *
      generalize Tk.cz R k 3 = y3 at *
      cases c
      · have HF : Hid (bo = false) := NF.out rfl
        go_wp2_with fail
        rw [← HW2.out]
        refine TT.out.mono ?_
        rintro e w5 ⟨rfl, hb5⟩
        have B5 : Hid (Below w.heap.size w w5) := (B0.out.trans (B2.out.mono B0.out.size)).trans (hb5.mono (by have := S2.out; have := B0.out.size; omega))
        clear hb5
        go_wp2_with fail
        go_ret
        exact ⟨by rw [HF.out]; rfl, B5.out⟩
      · have OK2 : Hid (∀ j, j < k + 1 → okT R (nx : Int) j = true) := NX.out rfl
        go_wp2_with fail
        rw [← HW2.out]
        refine TT.out.mono ?_
        rintro e w5 ⟨rfl, hb5⟩
        have B5 : Hid (Below w0.heap.size w0 w5) := B2.out.trans (hb5.mono S2.out)
        clear hb5
        go_wp2_with fail
        go_roundw
        case rel => exact ⟨k + 1, by omega, by go_num, OK2, B5.out⟩
        case measure => simp [intOf]; omega
    · have HT : Hid (bo = true) := Y1.out Q1.out Q2.out Q3.out (fun j hj => OK.out j (by have := HN.out; omega))
      have BW : Hid (Below w.heap.size w wr) := B0.out.trans (BB.out.mono (by omega))
      clear z0 zr
      go_wp2_with fail
      go_ret
      exact ⟨by rw [HT.out]; rfl, BW.out⟩
end Go.Proofs.Ytfhpomfdkpfooaa.So

/- Whether a suite is right: the model. -/
namespace Go.Proofs.Ytfhpomfdkpfooaa.So
open Go.ChangeShapes Go.WideShapes Go.ChangeAt Go.RowKit
open Go.Proofs.Ytfhpomfdkpfooaa.Lists Go.Proofs.Ytfhpomfdkpfooaa.Al

theorem nums_all (X : List Int) : nums X (X.length : Int) 1 60 = X.all (fun d => inn d 1 60) := by unfold nums; simp
theorem tok_long {z1 z2 z3 : Int} {L : List Int} {hi g : Int} (h0 : 0 ≤ hi) (h : hi < (L.length : Int)) : tok z1 z2 z3 L hi g = false := by
  cases e : eAs L hi
  · exact tok_no1 e
  · have := eAs_len h0 e; omega

set_option maxHeartbeats 2000000 in
set_option maxRecDepth 20000 in
theorem ssuite (R : Tk.Ls) (X : List Int) (vr vx : Value) (w : World) (hR : Tk.Reads w vr R) (hX : Lists.Reads w vx X) :
    Calls Try.prog 33 #[Su.pv vr vx] w fun e w' => e = .returned (.bool (okS R X)) ∧ Below w.heap.size w w' := by
  obtain ⟨br, or, hcr, hvr⟩ := rows_at hR
  have rf := hR.fits
  have xf := Tk.lfits hX
  obtain ⟨sr, cr, er⟩ := hR.form
  obtain ⟨sx, cx, ex⟩ := hX.form
  subst er ex
  obtain ⟨w0, hw0⟩ : ∃ w0, w0 = w.alloc (Obj.cells #[.slice sr R.length cr, .slice sx X.length cx] 27) := ⟨_, rfl⟩
  have HW0 : Hid (w0 = w.alloc (Obj.cells #[.slice sr R.length cr, .slice sx X.length cx] 27)) := hw0
  have B0 : Hid (Below w.heap.size w w0) := (by show Below _ _ _; rw [hw0]; exact (Below.refl _ _).alloc (Nat.le_refl _) _)
  have Z0 : Hid (w0.heap.size = w.heap.size + 1) := (by show _ = _; rw [hw0]; simp)
  have K0 : Hid (Su.Box w0 w.heap.size (.slice sr R.length cr) (.slice sx X.length cx)) := (by show Su.Box _ _ _ _; rw [hw0]; unfold Su.Box; simp [go_sem])
  have HCR : Hid (∀ i, i < R.length → Tk.Cs w br or R i) := hcr
  have HVR : Hid (0 < R.length → br < w.heap.size ∧ sr = some ⟨br, or, none⟩) := fun hi => by
    obtain ⟨h1, c, h2⟩ := hvr hi
    simp at h2
    exact ⟨h1, h2.1⟩
  have D3 : Hid (Calls Try.prog 49 #[.slice sx X.length cx, .int .i64 (X.length : Int), .int .i64 1, .int .i64 60] w0 fun e w' => e = .returned (.bool (X.all (fun d => inn d 1 60))) ∧ ∃ m, w' = w0.drewN m) := (by rw [← nums_all]; exact sall_any X _ 1 60 _ w0 (hX.on B0.out) xf)
  obtain ⟨bo, hbo⟩ : ∃ bo, okS R X = bo := ⟨_, rfl⟩
  have HO : Hid (okS R X = bo) := hbo
  rw [hbo]
  have N1 : Hid (inn (R.length : Int) 1 60 = false → bo = false) := fun h => by rw [← HO.out]; exact okS_no1 h
  have N2 : Hid (inn (X.length : Int) 1 6 = false → bo = false) := fun h => by rw [← HO.out]; exact okS_no2 h
  have N3 : Hid (X.all (fun d => inn d 1 60) = false → bo = false) := fun h => by rw [← HO.out]; exact okS_no3 h
  have N4 : Hid (∀ k, k < R.length → okT R (X.length : Int) k = false → bo = false) := fun k hk h => by rw [← HO.out]; exact okS_no4 (oks_no hk h)
  have Y1 : Hid (inn (R.length : Int) 1 60 = true → inn (X.length : Int) 1 6 = true → X.all (fun d => inn d 1 60) = true → (∀ k, k < R.length → okT R (X.length : Int) k = true) → bo = true) := fun h1 h2 h3 h => by rw [← HO.out]; unfold okS; rw [h1, h2, h3, oks_yes h]; rfl
  obtain ⟨nr, hnr⟩ : ∃ nr, nr = R.length := ⟨_, rfl⟩
  have HN : Hid (nr = R.length) := hnr
  obtain ⟨nx, hnx⟩ : ∃ nx, nx = X.length := ⟨_, rfl⟩
  rw [← hnr] at HW0 K0 rf N1 Y1 ⊢
  rw [← hnx] at HW0 K0 xf D3 N2 N4 Y1 ⊢
  clear hR hX hcr hvr hw0 hbo hnr hnx
  obtain ⟨k0, k1⟩ := K0.out
  by_cases c1 : (nr : Int) < 1
  · have HF : Hid (bo = false) := N1.out (by unfold inn; rw [decide_eq_false (by omega)]; rfl)
    go_enter Try.func33, Try.ntmps33
    go_wp2_with fail
    rw [← HW0.out]
    go_ret
    exact ⟨by rw [HF.out]; rfl, B0.out⟩
  by_cases c2 : (60 : Int) < (nr : Int)
  · have HF : Hid (bo = false) := N1.out (by unfold inn; rw [decide_eq_false (by omega : ¬ (nr : Int) ≤ 60)]; simp)
    go_enter Try.func33, Try.ntmps33
    go_wp2_with fail
    rw [← HW0.out]
    go_ret
    exact ⟨by rw [HF.out]; rfl, B0.out⟩
  by_cases c3 : (nx : Int) < 1
  · have HF : Hid (bo = false) := N2.out (by unfold inn; rw [decide_eq_false (by omega)]; rfl)
    go_enter Try.func33, Try.ntmps33
    go_wp2_with fail
    rw [← HW0.out]
    go_ret
    exact ⟨by rw [HF.out]; rfl, B0.out⟩
  by_cases c4 : (6 : Int) < (nx : Int)
  · have HF : Hid (bo = false) := N2.out (by unfold inn; rw [decide_eq_false (by omega : ¬ (nx : Int) ≤ 6)]; simp)
    go_enter Try.func33, Try.ntmps33
    go_wp2_with fail
    rw [← HW0.out]
    go_ret
    exact ⟨by rw [HF.out]; rfl, B0.out⟩
  have Q1 : Hid (inn (nr : Int) 1 60 = true) := (inn_iff _ _ _).2 ⟨by omega, by omega⟩
  have Q2 : Hid (inn (nx : Int) 1 6 = true) := (inn_iff _ _ _).2 ⟨by omega, by omega⟩
  cases c5 : X.all (fun d => inn d 1 60)
  · have HF : Hid (bo = false) := N3.out c5
    rw [c5] at D3
    clear c5
    go_enter Try.func33, Try.ntmps33
    go_wp2_with fail
    rw [← HW0.out]
    refine (D3.out).mono ?_
    rintro e w3 ⟨rfl, m3, rfl⟩
    go_wp2_with fail
    go_ret
    exact ⟨by rw [HF.out]; rfl, below_drewN B0.out _⟩
  have Q3 : Hid (X.all (fun d => inn d 1 60) = true) := c5
  rw [c5] at D3
  clear c5
  go_enter Try.func33, Try.ntmps33
  go_wp2_with fail
  rw [← HW0.out]
  refine (D3.out).mono ?_
  rintro e w3 ⟨rfl, m3, rfl⟩
  go_wp2_with fail
  go_loopw [3] (fun i wr => ∃ k : Nat, k ≤ nr ∧ i = .int .i64 k ∧ Hid (∀ j, j < k → okT R (nx : Int) j = true) ∧ Hid (Below w0.heap.size w0 wr)) (fun i _ => nr - (intOf i).toNat)
  case atStart => exact ⟨0, by omega, rfl, fun j hj => by omega, below_drewN (Below.refl _ _) _⟩
  case round =>
    obtain ⟨wo, hwo⟩ : ∃ x : World, x = wr := ⟨_, rfl⟩
    subst hwo
    obtain ⟨k, hk, rfl, OK, BB⟩ := hrel
    clear k0 k1
    have z0 := Z0.out
    have zr := BB.out.size
    have KR : Hid (Su.Box wo w.heap.size (.slice sr nr cr) (.slice sx nx cx)) := K0.out.on BB.out (by omega)
    obtain ⟨k0, k1⟩ := KR.out
    by_cases hlt : k < nr
    · have hkl : k < R.length := by rw [← HN.out]; exact hlt
      obtain ⟨hb, hx⟩ := HVR.out (by omega)
      subst hx
      obtain ⟨q1, q2, q3, u, q0, ru⟩ : Tk.Cs wo br or R k := ((HCR.out k hkl).on B0.out hb).on BB.out (by omega)
      obtain ⟨su, cu, eu⟩ := ru.form
      subst eu
      obtain ⟨w2, hw2⟩ : ∃ x, x = wo.alloc (Obj.cells #[.slice su (Tk.cl R k).length cu, .int .i64 (Tk.cz R k 1), .int .i64 (Tk.cz R k 2), .int .i64 (Tk.cz R k 3)] 50) := ⟨_, rfl⟩
      have HW2 : Hid (w2 = wo.alloc (Obj.cells #[.slice su (Tk.cl R k).length cu, .int .i64 (Tk.cz R k 1), .int .i64 (Tk.cz R k 2), .int .i64 (Tk.cz R k 3)] 50)) := hw2
      have b2 : Below wo.heap.size wo w2 := by rw [hw2]; exact (Below.refl _ _).alloc (Nat.le_refl _) _
      have B2 : Hid (Below w0.heap.size w0 w2) := BB.out.trans (b2.mono zr)
      have BW : Hid (Below w.heap.size w w2) := B0.out.trans (B2.out.mono (by omega))
      have X2 : Hid (Tk1.Box w2 wo.heap.size (.slice su (Tk.cl R k).length cu) (.int .i64 (Tk.cz R k 1)) (.int .i64 (Tk.cz R k 2)) (.int .i64 (Tk.cz R k 3))) := (by show Tk1.Box _ _ _ _ _ _; rw [hw2]; unfold Tk1.Box; simp [go_sem])
      have Y2 : Hid (Su.Box w2 w.heap.size (.slice (some ⟨br, or, none⟩) nr cr) (.slice sx nx cx)) := KR.out.on b2 (by omega)
      obtain ⟨bl, ol, hcl, hvl⟩ := reads_at (ru.on b2)
      have HC : Hid (∀ i, i < (Tk.cl R k).length → w2.cell? ⟨bl, ol + i, none⟩ = some (.int .i64 ((Tk.cl R k).getD i 0))) := hcl
      have HB : Hid (0 < (Tk.cl R k).length → bl < w2.heap.size ∧ su = some ⟨bl, ol, none⟩) := fun hi => by
        obtain ⟨h1, c, h2⟩ := hvl hi
        simp at h2
        exact ⟨h1, h2.1⟩
      have fl := Tk.lfits ru
      have NF : Hid (tok (Tk.cz R k 1) (Tk.cz R k 2) (Tk.cz R k 3) (Tk.cl R k) (k : Int) (nx : Int) = false → bo = false) := fun h => N4.out k hkl h
      have NX : Hid (tok (Tk.cz R k 1) (Tk.cz R k 2) (Tk.cz R k 3) (Tk.cl R k) (k : Int) (nx : Int) = true → ∀ j, j < k + 1 → okT R (nx : Int) j = true) := fun h j hj => by
        by_cases e : j = k
        · rw [e]; exact h
        · exact OK.out j (by omega)
      have i2 : (0 : Int) ≤ (k : Int) := by omega
      have i3 : (k : Int) < (nr : Int) := by omega
      have hs : w.heap.size < wo.heap.size := by omega
      have k60 : (k : Int) ≤ 60 := by omega
      obtain ⟨x0, x1, x2, x3⟩ := X2.out
      obtain ⟨y0, y1⟩ := Y2.out
      clear hw2 b2 ru z0 zr hcl hvl
      generalize Tk.cz R k 1 = e1 at *
      generalize Tk.cz R k 2 = e2 at *
      generalize Tk.cz R k 3 = e3 at *
      generalize Tk.cl R k = L at *
      have D1 : Hid (∀ w, Calls Try.prog 27 #[.int .i64 e1, .int .i64 1, .int .i64 (nx : Int)] w fun e w' => e = .returned (.bool (inn e1 1 nx)) ∧ w' = w) := fun w => s_in _ _ _ w
      have D2 : Hid (∀ w, Calls Try.prog 27 #[.int .i64 e2, .int .i64 0, .int .i64 1000000000000] w fun e w' => e = .returned (.bool (inn e2 0 1000000000000)) ∧ w' = w) := fun w => s_in _ _ _ w
      have D4 : Hid (∀ w, Calls Try.prog 27 #[.int .i64 e3, .int .i64 1, .int .i64 5] w fun e w' => e = .returned (.bool (inn e3 1 5)) ∧ w' = w) := fun w => s_in _ _ _ w
      by_cases cl : (k : Int) < (L.length : Int)
      · have HF : Hid (bo = false) := NF.out (tok_long i2 cl)
        generalize L.length = lh at *
        go_wp2_with fail
        rw [← HW2.out]
        go_ret
        exact ⟨by rw [HF.out]; rfl, BW.out⟩
      cases d1 : inn e1 1 nx
      · have HF : Hid (bo = false) := NF.out (tok_no2 d1)
        rw [d1] at D1
        clear d1
        generalize L.length = lh at *
        go_wp2_with fail
        rw [← HW2.out]
        refine (D1.out _).mono ?_
        rintro e w5 ⟨rfl, hw⟩
        have hw' := hw.symm
        subst hw'
        go_wp2_with fail
        go_ret
        exact ⟨by rw [HF.out]; rfl, BW.out⟩
      have Hd1 : Hid (inn e1 1 nx = true) := d1
      rw [d1] at D1
      clear d1
      cases d2 : inn e2 0 1000000000000
      · have HF : Hid (bo = false) := NF.out (tok_no3 d2)
        rw [d2] at D2
        clear d2
        generalize L.length = lh at *
        go_wp2_with fail
        rw [← HW2.out]
        refine (D1.out _).mono ?_
        rintro e w5 ⟨rfl, hw⟩
        have hw' := hw.symm
        subst hw'
        go_wp2_with fail
        refine (D2.out _).mono ?_
        rintro e w5 ⟨rfl, hw⟩
        have hw' := hw.symm
        subst hw'
        go_wp2_with fail
        go_ret
        exact ⟨by rw [HF.out]; rfl, BW.out⟩
      have Hd2 : Hid (inn e2 0 1000000000000 = true) := d2
      rw [d2] at D2
      clear d2
      cases d3 : inn e3 1 5
      · have HF : Hid (bo = false) := NF.out (tok_no4 d3)
        rw [d3] at D4
        clear d3
        generalize L.length = lh at *
        go_wp2_with fail
        rw [← HW2.out]
        refine (D1.out _).mono ?_
        rintro e w5 ⟨rfl, hw⟩
        have hw' := hw.symm
        subst hw'
        go_wp2_with fail
        refine (D2.out _).mono ?_
        rintro e w5 ⟨rfl, hw⟩
        have hw' := hw.symm
        subst hw'
        go_wp2_with fail
        refine (D4.out _).mono ?_
        rintro e w5 ⟨rfl, hw⟩
        have hw' := hw.symm
        subst hw'
        go_wp2_with fail
        go_ret
        exact ⟨by rw [HF.out]; rfl, BW.out⟩
      have Hd3 : Hid (inn e3 1 5 = true) := d3
      rw [d3] at D4
      clear d3
      have NO : Hid (∀ j, j < L.length → eA L (k : Int) j = false → bo = false) := fun j hj h => NF.out (tok_no1 (eAs_no hj h))
      have YE : Hid ((∀ j, j < L.length → eA L (k : Int) j = true) → ∀ j, j < k + 1 → okT R (nx : Int) j = true) := fun h => NX.out (tok_yes (eAs_yes h) Hd1.out Hd2.out Hd3.out)
      obtain ⟨lh, hlh⟩ : ∃ lh, lh = L.length := ⟨_, rfl⟩
      have HLH : Hid (lh = L.length) := hlh
      rw [← hlh] at cl fl HW2 X2 HC HB NO YE x0 q0
      clear hlh NF NX OK
      go_wp2_with fail
      rw [← HW2.out]
      refine (D1.out _).mono ?_
      rintro e w5 ⟨rfl, hw⟩
      have hw' := hw.symm
      subst hw'
      go_wp2_with fail
      refine (D2.out _).mono ?_
      rintro e w5 ⟨rfl, hw⟩
      have hw' := hw.symm
      subst hw'
      go_wp2_with fail
      refine (D4.out _).mono ?_
      rintro e w5 ⟨rfl, hw⟩
      have hw' := hw.symm
      subst hw'
      go_wp2_with fail
      go_loopw [5] (fun i wi => ∃ j m : Nat, j ≤ lh ∧ i = .int .i64 j ∧ Hid (∀ p, p < j → eA L (k : Int) p = true) ∧ Hid (wi = w2.drewN m)) (fun i _ => lh - (intOf i).toNat)
      case atStart => exact ⟨0, 0, Nat.zero_le _, rfl, fun j hj => absurd hj (by omega), rfl⟩
      case round =>
        obtain ⟨j, m, hj, rfl, OJ, HW⟩ := hrel
        clear x0 x1 x2 x3 y0 y1 k0 k1 q0 q1 q2 q3
        have x0 : wr.cell? ⟨wo.heap.size, 0, none⟩ = some (.slice su lh cu) := by rw [HW.out]; exact X2.out.1
        by_cases hjl : j < lh
        · obtain ⟨hbl, hsu⟩ := HB.out (by omega)
          subst hsu
          have q : wr.cell? ⟨bl, ol + j, none⟩ = some (.int .i64 (L.getD j 0)) := by rw [HW.out]; exact HC.out j hjl
          have j2 : (0 : Int) ≤ (j : Int) := by omega
          have j3 : (j : Int) < (lh : Int) := by omega
          have EA : Hid (eA L (k : Int) j = (inn (L.getD j 0) 1 (k : Int) && (decide (j = 0) || decide (L.getD (j - 1) 0 < L.getD j 0)))) := rfl
          have NJ : Hid (eA L (k : Int) j = true → ∀ p, p < j + 1 → eA L (k : Int) p = true) := fun h p hp => by
            by_cases e : p = j
            · rw [e]; exact h
            · exact OJ.out p (by omega)
          have NN : Hid (eA L (k : Int) j = false → bo = false) := fun h => NO.out j hjl h
          have C3 : Hid (∀ w, Calls Try.prog 27 #[.int .i64 (L.getD j 0), .int .i64 1, .int .i64 (k : Int)] w fun e w' => e = .returned (.bool (inn (L.getD j 0) 1 (k : Int))) ∧ w' = w) := fun w => s_in _ _ _ w
          by_cases k0 : j = 0
          · subst k0
            rw [Nat.add_zero] at q
            cases hz : inn (L.getD 0 0) 1 (k : Int)
            · rw [hz] at C3 EA
              clear hz
              generalize L.getD 0 0 = z at *
              have HF : Hid (bo = false) := NN.out (by rw [EA.out, Bool.false_and])
              clear NN NJ EA
              go_wp2_with fail
              go_quiet ((go_at_call 27; exact Calls.quiet_of_same (C3.out _)))
              go_wp2_with fail
              go_ret
              exact ⟨by rw [HF.out]; rfl, by rw [HW.out]; exact below_drewN (below_drewN BW.out _) _⟩
            · rw [hz] at C3 EA
              clear hz
              generalize L.getD 0 0 = z at *
              have OK2 : Hid (∀ p, p < 0 + 1 → eA L (k : Int) p = true) := NJ.out (by rw [EA.out, decide_eq_true rfl]; rfl)
              clear NN NJ EA
              go_wp2_with fail
              go_quiet ((go_at_call 27; exact Calls.quiet_of_same (C3.out _)))
              go_wp2_with fail
              go_roundw
              case rel => exact ⟨0 + 1, m + nq, by omega, by go_num, OK2, (by show _ = _; rw [HW.out]; exact World.drewN_drewN _ _ _)⟩
              case measure => simp [intOf]; omega
          · obtain ⟨p, rfl⟩ : ∃ p, j = p + 1 := ⟨j - 1, by omega⟩
            have q' : wr.cell? ⟨bl, ol + p, none⟩ = some (.int .i64 (L.getD p 0)) := by rw [HW.out]; exact HC.out p (by omega)
            rw [Nat.add_sub_cancel] at EA
            have j3 : (p : Int) + 1 - 1 = (p : Int) := by omega
            have j4 : IntKind.i64.wrap ((p : Int) + 1 - 1) = (p : Int) := by rw [j3]; exact IntWalk.i64_in _ (by omega)
            have j5 : (p : Int) < (lh : Int) := by omega
            have j7 : IntKind.i64.wrap (p : Int) = (p : Int) := IntWalk.i64_in _ (by omega)
            have j8 : (0 : Int) ≤ (p : Int) := by omega
            have j6 : (0 : Int) < (p : Int) + 1 := by omega
            rw [decide_eq_false k0] at EA
            cases hz : inn (L.getD (p + 1) 0) 1 (k : Int)
            · rw [hz] at C3 EA
              clear hz k0
              generalize L.getD (p + 1) 0 = z at *
              generalize L.getD p 0 = z' at *
              have HF : Hid (bo = false) := NN.out (by rw [EA.out, Bool.false_and])
              clear NN NJ EA
              go_wp2_with fail
              go_quiet ((go_at_call 27; exact Calls.quiet_of_same (C3.out _)))
              go_wp2_with fail
              go_ret
              exact ⟨by rw [HF.out]; rfl, by rw [HW.out]; exact below_drewN (below_drewN BW.out _) _⟩
            · rw [hz] at C3 EA
              clear hz k0
              generalize L.getD (p + 1) 0 = z at *
              generalize L.getD p 0 = z' at *
              by_cases c2 : z ≤ z'
              · have c3 : decide (z' < z) = false := decide_eq_false (by omega)
                rw [c3] at EA
                clear c3
                have HF : Hid (bo = false) := NN.out (by rw [EA.out, Bool.true_and]; rfl)
                clear NN NJ EA
                go_wp2_with fail
                go_quiet ((go_at_call 27; exact Calls.quiet_of_same (C3.out _)))
                go_wp2_with fail
                go_ret
                exact ⟨by rw [HF.out]; rfl, by rw [HW.out]; exact below_drewN (below_drewN BW.out _) _⟩
              · have c3 : decide (z' < z) = true := decide_eq_true (by omega)
                rw [c3] at EA
                clear c3
                have OK2 : Hid (∀ q, q < p + 1 + 1 → eA L (k : Int) q = true) := NJ.out (by rw [EA.out, Bool.true_and]; rfl)
                clear NN NJ EA
                go_wp2_with fail
                go_quiet ((go_at_call 27; exact Calls.quiet_of_same (C3.out _)))
                go_wp2_with fail
                go_roundw
                case rel => exact ⟨p + 1 + 1, m + nq, by omega, by go_num, OK2, (by show _ = _; rw [HW.out]; exact World.drewN_drewN _ _ _)⟩
                case measure => simp [intOf]; omega
        · have OK2 : Hid (∀ j, j < k + 1 → okT R (nx : Int) j = true) := YE.out (fun p hp => OJ.out p (by omega))
          go_wp2_with fail
          go_roundw
          case rel => exact ⟨k + 1, by omega, by go_num, OK2, (by show Below _ _ _; rw [HW.out]; exact below_drewN B2.out _)⟩
          case measure => simp [intOf]; omega
    · have HT : Hid (bo = true) := Y1.out Q1.out Q2.out Q3.out (fun j hj => OK.out j (by have := HN.out; omega))
      have BW : Hid (Below w.heap.size w wo) := B0.out.trans (BB.out.mono (by omega))
      clear z0 zr
      go_wp2_with fail
      go_ret
      exact ⟨by rw [HT.out]; rfl, BW.out⟩
end Go.Proofs.Ytfhpomfdkpfooaa.So
