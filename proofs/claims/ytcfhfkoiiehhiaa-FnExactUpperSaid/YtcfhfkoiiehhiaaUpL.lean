/- Upper: the law. -/
import Derived.Test.YtcfhfkoiiehhiaaSup
namespace Go.Proofs.Ytcfhfkoiiehhiaa.Ru
open Go.ChangeShapes Go.WideShapes Go.ChangeAt Go.RowKit

set_option maxHeartbeats 1000000 in
theorem supper_big (s : ByteArray) (w : World) (h : 20000 < s.size) : Calls Try.prog 5 #[.string s] w fun e w' => e = .returned (.string ⟨#[]⟩) ∧ w' = w := by
  go_enter Try.func5, Try.ntmps5
  go_wp2
  go_ret
  exact ⟨rfl, rfl⟩
set_option maxHeartbeats 1000000 in
theorem iupper_big (s : ByteArray) (w : World) (h : 20000 < s.size) : Calls Try.prog 6 #[.string s] w fun e w' => e = .returned (.string ⟨#[]⟩) ∧ w' = w := by
  go_enter Try.func6, Try.ntmps6
  go_wp2
  go_ret
  exact ⟨rfl, rfl⟩

theorem both (s : ByteArray) (RA : s.size ≤ 20000 → RuneAt s) : ∃ u : ByteArray, (∀ w, Calls Try.prog 5 #[.string s] w fun e w' => e = .returned (.string u) ∧ Below w.heap.size w w') ∧ (∀ w, Calls Try.prog 6 #[.string s] w fun e w' => e = .returned (.string u) ∧ Below w.heap.size w w') := by
  by_cases h : s.size ≤ 20000
  · have hex : ∃ k, Ends s k := by
      obtain ⟨k, hk⟩ : ∃ k, ¬ lows s k := ⟨s.size + 1, fun x => by have := pos_ge x; omega⟩
      induction k with
      | zero => exact absurd (lows_zero s) hk
      | succ k ih =>
        by_cases hl : lows s k
        · exact ⟨k, fun x => hk (lows_succ hl x), hl⟩
        · exact ih hl
    obtain ⟨k, hk⟩ := hex
    refine ⟨⟨(outs s k).toArray⟩, fun w => ?_, fun w => ?_⟩
    · refine (supper s w h (RA h)).mono ?_
      rintro e w' ⟨m, hm, rfl, hb⟩
      rw [ends_one hk hm]
      exact ⟨rfl, hb⟩
    · refine (iupper s w h).mono ?_
      rintro e w' ⟨m, hm, rfl, hb⟩
      rw [ends_one hk hm]
      exact ⟨rfl, hb⟩
  · refine ⟨⟨#[]⟩, fun w => ?_, fun w => ?_⟩
    · refine (supper_big s w (by omega)).mono ?_
      rintro e w' ⟨rfl, rfl⟩
      exact ⟨rfl, Below.refl _ _⟩
    · refine (iupper_big s w (by omega)).mono ?_
      rintro e w' ⟨rfl, rfl⟩
      exact ⟨rfl, Below.refl _ _⟩

set_option maxHeartbeats 1000000 in
theorem upperLaw' (s : ByteArray) (w : World) (RA : s.size ≤ 20000 → RuneAt s) : Calls Try.prog 3 #[.string s] w fun e w' => e = .returned (.bool true) ∧ Below w.heap.size w w' := by
  by_cases h : 1048576 < s.size
  · go_enter Try.func3, Try.ntmps3
    go_wp2
    go_ret
    exact ⟨rfl, Below.refl _ _⟩
  · obtain ⟨u, h1, h2⟩ := both s RA
    clear RA
    go_enter Try.func3, Try.ntmps3
    go_wp2_with fail
    refine (h1 _).mono ?_
    rintro e w1 ⟨rfl, b1⟩
    go_wp2_with fail
    refine (h2 _).mono ?_
    rintro e w2 ⟨rfl, b2⟩
    go_wp2_with fail
    go_ret
    exact ⟨rfl, b1.trans (b2.mono b1.size)⟩
end Go.Proofs.Ytcfhfkoiiehhiaa.Ru
