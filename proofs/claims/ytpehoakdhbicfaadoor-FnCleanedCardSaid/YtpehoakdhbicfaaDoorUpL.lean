/- Upper: the law. -/
import Derived.Test.YtpehoakdhbicfaaDoorSup
namespace Go.Proofs.YtpehoakdhbicfaaDoor.Uq
open Go.Proofs.YtpehoakdhbicfaaDoor.Ru
open Go.ChangeShapes Go.WideShapes Go.ChangeAt Go.RowKit

set_option maxHeartbeats 1000000 in
theorem supper_big (s : ByteArray) (w : World) (h : 20000 < s.size) : Calls Tryd.prog 10 #[.string s] w fun e w' => e = .returned (.string ⟨#[]⟩) ∧ w' = w := by
  go_enter Tryd.func10, Tryd.ntmps10
  go_wp2
  go_ret
  exact ⟨rfl, rfl⟩
set_option maxHeartbeats 1000000 in
theorem iupper_big (s : ByteArray) (w : World) (h : 20000 < s.size) : Calls Tryd.prog 9 #[.string s] w fun e w' => e = .returned (.string ⟨#[]⟩) ∧ w' = w := by
  go_enter Tryd.func9, Tryd.ntmps9
  go_wp2
  go_ret
  exact ⟨rfl, rfl⟩

theorem both (s : ByteArray) (RA : s.size ≤ 20000 → RuneAt s) : ∃ u : ByteArray, (∀ w, Calls Tryd.prog 10 #[.string s] w fun e w' => e = .returned (.string u) ∧ Below w.heap.size w w') ∧ (∀ w, Calls Tryd.prog 9 #[.string s] w fun e w' => e = .returned (.string u) ∧ Below w.heap.size w w') := by
  by_cases h : s.size ≤ 20000
  · have hex : ∃ k, Ends s k := by
      obtain ⟨k, hk⟩ : ∃ k, ¬ lows s k := ⟨s.size + 1, fun x => by have := pos_ge x; omega⟩
      induction k with
      | zero => exact absurd (lows_zero s) hk
      | succ k ih =>
        by_cases hl : lows s k
        · exact ⟨k, fun x => hk (lows_succ hl x), hl⟩
        · exact ih hl
    obtain ⟨k, hk⟩ := hex
    refine ⟨⟨(outs s k).toArray⟩, fun w => ?_, fun w => ?_⟩
    · refine (supper s w h (RA h)).mono ?_
      rintro e w' ⟨m, hm, rfl, hb⟩
      rw [ends_one hk hm]
      exact ⟨rfl, hb⟩
    · refine (iupper s w h).mono ?_
      rintro e w' ⟨m, hm, rfl, hb⟩
      rw [ends_one hk hm]
      exact ⟨rfl, hb⟩
  · refine ⟨⟨#[]⟩, fun w => ?_, fun w => ?_⟩
    · refine (supper_big s w (by omega)).mono ?_
      rintro e w' ⟨rfl, rfl⟩
      exact ⟨rfl, Below.refl _ _⟩
    · refine (iupper_big s w (by omega)).mono ?_
      rintro e w' ⟨rfl, rfl⟩
      exact ⟨rfl, Below.refl _ _⟩

end Go.Proofs.YtpehoakdhbicfaaDoor.Uq
