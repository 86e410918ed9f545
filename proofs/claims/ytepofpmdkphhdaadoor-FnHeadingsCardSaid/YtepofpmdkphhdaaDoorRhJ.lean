/- ReadHeading in the program. -/
import Derived.Test.YtepofpmdkphhdaaDoorRhI
import Derived.Test.YtepofpmdkphhdaaDoorRhT
namespace Go.Proofs.YtepofpmdkphhdaaDoor.Head
open Go.ChangeShapes Go.WideShapes Go.ChangeAt Go.RowKit Mk Fig
attribute [local go_sem ↓] Go.wp_at_zero Go.wp_at_succ

set_option maxHeartbeats 1000000 in
theorem iread_len (s : ByteArray) (w : World) (hs : s.size ≤ 1048576) (h3 : (pcs s).length ≠ 3) (h4 : (pcs s).length ≠ 4) :
    Calls Tryd.prog 8 #[.string s] w fun e w' => e = .returned (out 1) ∧ Below w.heap.size w w' := by
  have SP : Hid (∀ w, Calls Tryd.prog 19 #[.string s, .string ⟨#[32]⟩] w fun e w' => e = .returned (.slice (some ⟨w.heap.size, 0, none⟩) (pcs s).length (pcs s).length) ∧ w' = w.alloc (.cells ((pcs s).map Value.string).toArray 9)) := fun w => isplit s w hs
  have hl := pcs_len s
  have hw' : (decide ((3 : Int) ≤ ((pcs s).length : Int)) && decide (((pcs s).length : Int) ≤ 4)) = false := by
    rw [Bool.and_eq_false_iff, decide_eq_false_iff_not, decide_eq_false_iff_not]
    omega
  generalize (pcs s).length = n at *
  have WI : Hid (∀ w, Calls Tryd.prog 20 #[.int .i64 (n : Int), .int .i64 3, .int .i64 4] w fun e w' => e = .returned (.bool false) ∧ w' = w) := fun w => by
    have := within_any (n : Int) 3 4 w
    rw [hw'] at this
    exact this
  have hn : (n : Int) ≤ 9223372036854775807 := by omega
  clear hw'
  go_enter Tryd.func8, Tryd.ntmps8
  go_wp2_with fail
  refine (SP.out _).mono ?_
  rintro e w1 ⟨rfl, hw⟩
  subst hw
  go_wp2_with fail
  refine (WI.out _).mono ?_
  rintro e w2 ⟨rfl, hw⟩
  have hw' := hw.symm
  subst hw'
  clear hw
  go_wp2_with fail
  refine bodyPost_ret (v := .tuple #[none8, .int .i64 1]) (by simp [results, Tryd.results8, go_sem]) rfl ⟨rfl, ?_⟩
  exact ((Below.refl _ _).alloc (Nat.le_refl _) _).alloc (by simp) _

set_option maxHeartbeats 1000000 in
theorem iread_empty3 (s : ByteArray) (w : World) (P0 P1 P2 : ByteArray) (hs : s.size ≤ 1048576) (hp : pcs s = [P0, P1, P2]) (hz : P0.size = 0 ∨ P1.size = 0 ∨ P2.size = 0) :
    Calls Tryd.prog 8 #[.string s] w fun e w' => e = .returned (out 1) ∧ Below w.heap.size w w' := by
  have SP : Hid (∀ w, Calls Tryd.prog 19 #[.string s, .string ⟨#[32]⟩] w fun e w' => e = .returned (.slice (some ⟨w.heap.size, 0, none⟩) 3 3) ∧ w' = w.alloc (.cells #[.string P0, .string P1, .string P2] 9)) := fun w => by
    have := isplit s w hs
    rw [hp] at this
    exact this
  have WI : Hid (∀ w, Calls Tryd.prog 20 #[.int .i64 3, .int .i64 3, .int .i64 4] w fun e w' => e = .returned (.bool true) ∧ w' = w) := fun w => within_any 3 3 4 w
  have EX : Emp (fun j => ([P0, P1, P2] : List ByteArray).getD j em) 3 := by
    rcases hz with hz | hz | hz
    · exact ⟨0, by decide, hz⟩
    · exact ⟨1, by decide, hz⟩
    · exact ⟨2, by decide, hz⟩
  have CO : Hid (∀ (w : World) (b : Nat), (∀ j, j < 3 → w.cell? ⟨b, j, none⟩ = some (.string (([P0, P1, P2] : List ByteArray).getD j em))) → Calls Tryd.prog 21 #[.slice (some ⟨b, 0, none⟩) 3 3, .string ⟨#[]⟩] w fun e w' => e = .returned (.bool true) ∧ w' = w) := fun w b hc => contains_any b 3 3 (fun j => ([P0, P1, P2] : List ByteArray).getD j em) w true (by decide) hc ⟨fun _ => EX, fun _ => rfl⟩
  clear EX hz hp
  go_enter Tryd.func8, Tryd.ntmps8
  go_wp2_with fail
  refine (SP.out _).mono ?_
  rintro e w1 ⟨rfl, hw⟩
  subst hw
  go_wp2_with fail
  refine (WI.out _).mono ?_
  rintro e w2 ⟨rfl, hw⟩
  have hw' := hw.symm
  subst hw'
  clear hw
  go_wp2_with fail
  refine (CO.out _ _ (fun j hj => match j, hj with | 0, _ => by simp [go_sem] | 1, _ => by simp [go_sem] | 2, _ => by simp [go_sem])).mono ?_
  rintro e w2 ⟨rfl, hw⟩
  have hw' := hw.symm
  subst hw'
  clear hw
  go_wp2_with fail
  refine bodyPost_ret (v := .tuple #[none8, .int .i64 1]) (by simp [results, Tryd.results8, go_sem]) rfl ⟨rfl, ?_⟩
  exact ((Below.refl _ _).alloc (Nat.le_refl _) _).alloc (by simp) _

set_option maxHeartbeats 1000000 in
theorem iread_empty4 (s : ByteArray) (w : World) (P0 P1 P2 P3 : ByteArray) (hs : s.size ≤ 1048576) (hp : pcs s = [P0, P1, P2, P3]) (hz : P0.size = 0 ∨ P1.size = 0 ∨ P2.size = 0 ∨ P3.size = 0) :
    Calls Tryd.prog 8 #[.string s] w fun e w' => e = .returned (out 1) ∧ Below w.heap.size w w' := by
  have SP : Hid (∀ w, Calls Tryd.prog 19 #[.string s, .string ⟨#[32]⟩] w fun e w' => e = .returned (.slice (some ⟨w.heap.size, 0, none⟩) 4 4) ∧ w' = w.alloc (.cells #[.string P0, .string P1, .string P2, .string P3] 9)) := fun w => by
    have := isplit s w hs
    rw [hp] at this
    exact this
  have WI : Hid (∀ w, Calls Tryd.prog 20 #[.int .i64 4, .int .i64 3, .int .i64 4] w fun e w' => e = .returned (.bool true) ∧ w' = w) := fun w => within_any 4 3 4 w
  have EX : Emp (fun j => ([P0, P1, P2, P3] : List ByteArray).getD j em) 4 := by
    rcases hz with hz | hz | hz | hz
    · exact ⟨0, by decide, hz⟩
    · exact ⟨1, by decide, hz⟩
    · exact ⟨2, by decide, hz⟩
    · exact ⟨3, by decide, hz⟩
  have CO : Hid (∀ (w : World) (b : Nat), (∀ j, j < 4 → w.cell? ⟨b, j, none⟩ = some (.string (([P0, P1, P2, P3] : List ByteArray).getD j em))) → Calls Tryd.prog 21 #[.slice (some ⟨b, 0, none⟩) 4 4, .string ⟨#[]⟩] w fun e w' => e = .returned (.bool true) ∧ w' = w) := fun w b hc => contains_any b 4 4 (fun j => ([P0, P1, P2, P3] : List ByteArray).getD j em) w true (by decide) hc ⟨fun _ => EX, fun _ => rfl⟩
  clear EX hz hp
  go_enter Tryd.func8, Tryd.ntmps8
  go_wp2_with fail
  refine (SP.out _).mono ?_
  rintro e w1 ⟨rfl, hw⟩
  subst hw
  go_wp2_with fail
  refine (WI.out _).mono ?_
  rintro e w2 ⟨rfl, hw⟩
  have hw' := hw.symm
  subst hw'
  clear hw
  go_wp2_with fail
  refine (CO.out _ _ (fun j hj => match j, hj with | 0, _ => by simp [go_sem] | 1, _ => by simp [go_sem] | 2, _ => by simp [go_sem] | 3, _ => by simp [go_sem])).mono ?_
  rintro e w2 ⟨rfl, hw⟩
  have hw' := hw.symm
  subst hw'
  clear hw
  go_wp2_with fail
  refine bodyPost_ret (v := .tuple #[none8, .int .i64 1]) (by simp [results, Tryd.results8, go_sem]) rfl ⟨rfl, ?_⟩
  exact ((Below.refl _ _).alloc (Nat.le_refl _) _).alloc (by simp) _
end Go.Proofs.YtepofpmdkphhdaaDoor.Head
