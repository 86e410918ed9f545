/- Both fold a text into the same lines. -/
import Derived.Test.YtchdhiojhdoenaaGoI
import Derived.Test.YtchdhiojhdoenaaRunf
namespace Go.Proofs.Ytchdhiojhdoenaa.Ru
open Go.ChangeShapes Go.WideShapes Go.ChangeAt Go.RowKit

set_option maxHeartbeats 1000000 in
theorem sfold_no (s : ByteArray) (b : Int) (w : World) (h : b < 8 ∨ 200 < b ∨ 20000 < s.size) :
    Calls Try.prog 7 #[.string s, .int .i64 b] w fun e w' => ∃ v, e = .returned v ∧ w'.ownsRow w.heap.size 9 1 v ([] : List ByteArray).length (strs []) ∧ Below w.heap.size w w' := by
  have R0 : Hid ((w.alloc (.cells #[] 9)).ownsRow w.heap.size 9 1 (.slice (some ⟨w.heap.size, 0, none⟩) 0 0) ([] : List ByteArray).length (strs [])) := empty_row 9 w _ (Nat.le_refl _)
  by_cases h1 : b < 8
  · clear h
    go_enter Try.func7, Try.ntmps7
    go_wp2_with fail
    go_ret
    exact ⟨_, rfl, R0.out, (Below.refl _ _).alloc (Nat.le_refl _) _⟩
  · by_cases h2 : 200 < b
    · clear h
      go_enter Try.func7, Try.ntmps7
      go_wp2_with fail
      go_ret
      exact ⟨_, rfl, R0.out, (Below.refl _ _).alloc (Nat.le_refl _) _⟩
    · have h3 : (20000 : Int) < (s.size : Int) := by omega
      clear h
      go_enter Try.func7, Try.ntmps7
      go_wp2_with fail
      go_ret
      exact ⟨_, rfl, R0.out, (Below.refl _ _).alloc (Nat.le_refl _) _⟩
set_option maxHeartbeats 1000000 in
theorem ifold_no (s : ByteArray) (b : Int) (w : World) (h : b < 8 ∨ 200 < b ∨ 20000 < s.size) :
    Calls Try.prog 6 #[.string s, .int .i64 b] w fun e w' => ∃ v, e = .returned v ∧ w'.ownsRow w.heap.size 9 1 v ([] : List ByteArray).length (strs []) ∧ Below w.heap.size w w' := by
  have R0 : Hid (w.ownsRow w.heap.size 9 1 (.slice none 0 0) ([] : List ByteArray).length (strs [])) := World.ownsRow_nil _ _ _ _
  have WI' : Hid (∀ w, Calls Try.prog 14 #[.int .i64 b, .int .i64 8, .int .i64 200] w fun e w' => e = .returned (.bool (decide (8 ≤ b) && decide (b ≤ 200))) ∧ w' = w) := fun w => iwithin b 8 200 w
  have hB : (decide (8 ≤ b) && decide (b ≤ 200)) = false ∨ (decide (8 ≤ b) && decide (b ≤ 200)) = true ∧ (20000 : Int) < (s.size : Int) := by
    by_cases c : 8 ≤ b ∧ b ≤ 200
    · exact .inr ⟨by rw [decide_eq_true c.1, decide_eq_true c.2]; rfl, by omega⟩
    · refine .inl ?_
      rw [Bool.and_eq_false_iff, decide_eq_false_iff_not, decide_eq_false_iff_not]
      omega
  generalize (decide (8 ≤ b) && decide (b ≤ 200)) = B at *
  clear h
  rcases hB with hB | ⟨hB, h3⟩
  all_goals
    subst hB
    go_enter Try.func6, Try.ntmps6
    go_wp2_with fail
    refine (WI'.out _).mono ?_
    rintro e wz ⟨rfl, hw⟩
    have hw' := hw.symm
    subst hw'
    clear hw
    go_wp2_with fail
    go_ret
    exact ⟨_, rfl, R0.out, Below.refl _ _⟩

theorem row_belowB {w w' : World} {B base n : Nat} {e : TypeId} {v : Value} {xs : List Value} (h : w.ownsRow base e 1 v n xs) (hlt : ∀ k, v.ownBlock = some k → k < B) (hb : Below B w w') : w'.ownsRow base e 1 v n xs := by
  refine ⟨h.1, ?_⟩
  rcases h.2 with h | ⟨g, cap, cur, h1, h2, h3, h4⟩
  · exact .inl h
  · refine .inr ⟨g, cap, cur, h1, h2, ?_, h4⟩
    rw [hb.block g (hlt g (by rw [h1]; rfl))]
    exact h3
theorem belowD {B : Nat} {a w : World} (h : Below B a w) (n : Nat) : Below B a (w.drewN n) := ⟨h.os, h.tape, h.output, h.size, h.block⟩

end Go.Proofs.Ytchdhiojhdoenaa.Ru
