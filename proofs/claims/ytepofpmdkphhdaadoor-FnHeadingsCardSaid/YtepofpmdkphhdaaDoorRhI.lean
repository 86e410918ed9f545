/- What ReadHeading calls, in the program: the library's cut at one byte, its search, a join of one piece or none. -/
import Derived.Test.YtepofpmdkphhdaaDoorRhF
import Derived.Test.YtepofpmdkphhdaaDoorShelf
import Derived.OpenShut
import Derived.Outline
namespace Go.Proofs.YtepofpmdkphhdaaDoor.Head
open Go.ChangeShapes Go.WideShapes Go.ChangeAt Go.RowKit Mk Fig

theorem inf9 : (Tryd.prog.info? 9).map (fun i => (i.zero, i.size, i.bytes)) = some (some (.string ByteArray.empty), 1, 16) := by kernel_rfl

theorem gsplit (s : ByteArray) (w : World) (hs : s.size < 4294967281) :
    Calls Tryd.prog 39 #[.string s, .string ⟨#[32]⟩, .int .i64 0, .int .i64 (-1)] w fun e w' => e = .returned (.slice (some ⟨w.heap.size, 0, none⟩) (pcs s).length (pcs s).length) ∧ w' = w.alloc (.cells ((pcs s).map Value.string).toArray 9) := by
  have hl := count_pcs s
  have hc : Calls Tryd.prog 52 #[.string s, .string ⟨#[32]⟩] w fun e w' => e = .returned (.int .i64 (Lib.countB s ⟨#[32]⟩)) ∧ w' = w := by
    refine (Tryd.strings_Count_one s 32 w).mono fun e w' ⟨he, hw⟩ => ⟨?_, hw⟩
    rw [he]
    show _ = Ending.returned (Value.int .i64 ((Lib.count s.data.toList [32] : Nat) : Int))
    rw [Lib.count_one]
    rfl
  have hle := Lib.countB_le ⟨#[32]⟩ (by decide) s.size s (Nat.le_refl _)
  have c := Any.strings_genSplit_core Tryd.lays221 inf9 s ⟨#[32]⟩ 0 (-1) (Lib.countB s ⟨#[32]⟩ + 1) w hs (by decide) (by decide)
    (fun x c hx => by
      refine (Tryd.strings_Index_one x 32 (w.alloc (.cells c 9))).mono fun e w' ⟨he, hw⟩ => ⟨?_, hw⟩
      rw [he]
      show _ = Ending.returned (Value.int .i64 (Lib.index x.data.toList [32]))
      rw [Lib.index_one]) hc (by decide) (by decide) (by rw [if_pos (by decide)]; omega)
  rw [Nat.add_sub_cancel, split_pcs, hl] at c
  have e2 : Lib.cellsOf (pcs s) (pcs s).length = ((pcs s).map Value.string).toArray := Lib.cellsOf_full _
  rw [e2] at c
  exact c

set_option maxHeartbeats 1000000 in
theorem isplit (s : ByteArray) (w : World) (hs : s.size ≤ 1048576) :
    Calls Tryd.prog 19 #[.string s, .string ⟨#[32]⟩] w fun e w' => e = .returned (.slice (some ⟨w.heap.size, 0, none⟩) (pcs s).length (pcs s).length) ∧ w' = w.alloc (.cells ((pcs s).map Value.string).toArray 9) := by
  have G : Hid (∀ w, Calls Tryd.prog 39 #[.string s, .string ⟨#[32]⟩, .int .i64 0, .int .i64 (-1)] w fun e w' => e = .returned (.slice (some ⟨w.heap.size, 0, none⟩) (pcs s).length (pcs s).length) ∧ w' = w.alloc (.cells ((pcs s).map Value.string).toArray 9)) := fun w => gsplit s w (by omega)
  go_enter Tryd.func19, Tryd.ntmps19
  go_wp2_with fail
  refine (G.out _).mono ?_
  rintro e w' ⟨rfl, hw⟩
  subst hw
  go_wp2_with fail
  go_ret
  exact ⟨rfl, rfl⟩

def Emp (p : Nat → ByteArray) (n : Nat) : Prop := ∃ j, j < n ∧ (p j).size = 0
set_option maxHeartbeats 1000000 in
theorem index_any (b n c : Nat) (p : Nat → ByteArray) (w : World) (hn : n ≤ 1000) (hc : ∀ j, j < n → w.cell? ⟨b, j, none⟩ = some (.string (p j))) :
    Calls Tryd.prog 40 #[.slice (some ⟨b, 0, none⟩) n c, .string ⟨#[]⟩] w fun e w' => (∃ i : Int, e = .returned (.int .i64 i) ∧ Hid (0 ≤ i ↔ Emp p n)) ∧ w' = w := by
  have HC : Hid (∀ j, j < n → w.cell? ⟨b, j, none⟩ = some (.string (p j))) := hc
  clear hc
  go_enter Tryd.func40, Tryd.ntmps40
  go_wp2
  go_loop [8] (fun i => ∃ k : Nat, k ≤ n ∧ i = .int .i64 k ∧ Hid (∀ j, j < k → (p j).size ≠ 0)) (fun i => n - (intOf i).toNat)
  case atStart => exact ⟨0, Nat.zero_le _, rfl, fun j hj => by omega⟩
  case round =>
    obtain ⟨k, hk, rfl, NZ⟩ := hrel
    by_cases hlt : k < n
    · have q := HC.out k hlt
      have i0 : (0 : Int) ≤ (k : Int) := by omega
      have i1 : (k : Int) < (n : Int) := by omega
      by_cases hz : (p k).size = 0
      · have he : (p k).toList.isEmpty = true := by rw [empty_eq, decide_eq_true hz]
        have he' : ([] == (p k).toList) = true := by
          have := List.isEmpty_iff.1 he
          rw [this]
          rfl
        have EX : Hid (Emp p n) := ⟨k, hlt, hz⟩
        clear hz
        go_wp2
        go_ret
        exact ⟨⟨k, rfl, ⟨fun _ => EX.out, fun _ => i0⟩⟩, rfl⟩
      · have he : (p k).toList.isEmpty = false := by rw [empty_eq, decide_eq_false hz]
        have he' : ([] == (p k).toList) = false := by
          rw [beq_eq_false_iff_ne]
          intro h
          rw [← h] at he
          cases he
        have NZ' : Hid (∀ j, j < k + 1 → (p j).size ≠ 0) := fun j hj => by
          by_cases c : j = k
          · rw [c]; exact hz
          · exact NZ.out j (by omega)
        clear hz
        go_wp2
        go_round
        case rel => exact ⟨k + 1, by omega, by go_num, NZ'⟩
        case measure => simp [intOf]; omega
    · have ek : k = n := by omega
      subst ek
      go_wp2
      go_ret
      exact ⟨⟨-1, rfl, ⟨fun h => absurd h (by decide), fun ⟨j, h1, h2⟩ => absurd h2 (NZ.out j h1)⟩⟩, rfl⟩

set_option maxHeartbeats 1000000 in
theorem contains_any (b n c : Nat) (p : Nat → ByteArray) (w : World) (B : Bool) (hn : n ≤ 1000) (hc : ∀ j, j < n → w.cell? ⟨b, j, none⟩ = some (.string (p j))) (hB : B = true ↔ Emp p n) :
    Calls Tryd.prog 21 #[.slice (some ⟨b, 0, none⟩) n c, .string ⟨#[]⟩] w fun e w' => e = .returned (.bool B) ∧ w' = w := by
  have IX : Hid (Calls Tryd.prog 40 #[.slice (some ⟨b, 0, none⟩) n c, .string ⟨#[]⟩] w fun e w' => (∃ i : Int, e = .returned (.int .i64 i) ∧ Hid (0 ≤ i ↔ Emp p n)) ∧ w' = w) := index_any b n c p w hn hc
  have HB : Hid (B = true ↔ Emp p n) := hB
  clear hc hB
  go_enter Tryd.func21, Tryd.ntmps21
  go_wp2_with fail
  refine (Calls.mono IX.out) ?_
  rintro e w' ⟨⟨i, rfl, hi⟩, hw⟩
  subst hw
  have hd : decide (0 ≤ i) = B := by
    have := HB.out
    cases B
    · rw [decide_eq_false_iff_not]
      intro h
      exact absurd (this.2 (hi.out.1 h)) (by decide)
    · rw [decide_eq_true_eq]
      exact hi.out.2 (this.1 rfl)
  clear hi
  go_wp2_with fail
  go_ret
  exact ⟨rfl, rfl⟩

set_option maxHeartbeats 1000000 in
theorem joined_none (a : Option Addr) (c : Nat) (w : World) : Calls Tryd.prog 17 #[.slice a 0 c] w fun e w' => e = .returned (.string em) ∧ w' = w := by
  go_enter Tryd.func17, Tryd.ntmps17
  go_wp2_with fail
  refine (Tryd.strings_Join_none _ _ _ _).mono ?_
  rintro e w' ⟨rfl, hw⟩
  subst hw
  go_wp2_with fail
  go_ret
  exact ⟨rfl, rfl⟩
set_option maxHeartbeats 1000000 in
theorem join_one (b o c : Nat) (x : ByteArray) (w : World) (h : w.cell? ⟨b, o, none⟩ = some (.string x)) : Calls Tryd.prog 36 #[.slice (some ⟨b, o, none⟩) 1 c, .string ⟨#[]⟩] w fun e w' => e = .returned (.string x) ∧ w' = w := by
  go_enter Tryd.func36, Tryd.ntmps36
  go_wp2_with fail
  go_ret
  exact ⟨rfl, rfl⟩
set_option maxHeartbeats 1000000 in
theorem joined_one (b o c : Nat) (x : ByteArray) (w : World) (h : w.cell? ⟨b, o, none⟩ = some (.string x)) : Calls Tryd.prog 17 #[.slice (some ⟨b, o, none⟩) 1 c] w fun e w' => e = .returned (.string x) ∧ w' = w := by
  go_enter Tryd.func17, Tryd.ntmps17
  go_wp2_with fail
  refine (join_one _ _ _ _ _ h).mono ?_
  rintro e w' ⟨rfl, hw⟩
  subst hw
  go_wp2_with fail
  go_ret
  exact ⟨rfl, rfl⟩
end Go.Proofs.YtepofpmdkphhdaaDoor.Head
