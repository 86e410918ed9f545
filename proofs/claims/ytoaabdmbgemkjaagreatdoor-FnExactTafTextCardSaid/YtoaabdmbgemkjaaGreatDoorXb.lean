/- What the texts of this seat stand on. -/
import Derived.Test.YtoaabdmbgemkjaaGreatDoorRows
import Derived.WalkKit
import Derived.ProofKit
import Derived.OpenShut
import Derived.WalkSpells
import Derived.Below
import Derived.Outline
import Derived.Laws.MakeOwn
import Derived.Deep.RegionWith
import Derived.Deep.QuietTactic
import Derived.BigQuiet
namespace Go.Proofs.YtoaabdmbgemkjaaGreatDoor.Al
open Go.ChangeShapes Go.WideShapes Go.ChangeAt Go.RowKit
def inn (a lo hi : Int) : Bool := decide (lo ≤ a) && decide (a ≤ hi)
theorem inn_iff (a lo hi : Int) : inn a lo hi = true ↔ lo ≤ a ∧ a ≤ hi := by simp [inn]
theorem below_drewN {B : Nat} {a w : World} (h : Below B a w) (n : Nat) : Below B a (w.drewN n) := h.trans ⟨rfl, rfl, rfl, Nat.le_refl _, fun _ _ => rfl⟩

set_option maxHeartbeats 1000000 in
theorem s_in (n l h : Int) (w : World) : Calls Tryz.prog 33 #[.int .i64 n, .int .i64 l, .int .i64 h] w fun e w' => e = .returned (.bool (inn n l h)) ∧ w' = w := by
  unfold inn
  by_cases h1 : l ≤ n
  · have e1 : decide (l ≤ n) = true := by simpa using h1
    rw [e1]
    go_enter Tryz.func33, Tryz.ntmps33
    go_wp2_with fail
    go_ret
    exact ⟨rfl, rfl⟩
  · have e1 : decide (l ≤ n) = false := by simpa using h1
    rw [e1]
    go_enter Tryz.func33, Tryz.ntmps33
    go_wp2_with fail
    go_ret
    exact ⟨rfl, rfl⟩

set_option maxHeartbeats 1000000 in
theorem i_in (n l h : Int) (w : World) : Calls Tryz.prog 65 #[.int .i64 n, .int .i64 l, .int .i64 h] w fun e w' => e = .returned (.bool (inn n l h)) ∧ w' = w := by
  unfold inn
  by_cases h1 : l ≤ n
  · have e1 : decide (l ≤ n) = true := by simpa using h1
    rw [e1]
    go_enter Tryz.func65, Tryz.ntmps65
    go_wp2_with fail
    go_ret
    exact ⟨rfl, rfl⟩
  · have e1 : decide (l ≤ n) = false := by simpa using h1
    rw [e1]
    go_enter Tryz.func65, Tryz.ntmps65
    go_wp2_with fail
    go_ret
    exact ⟨rfl, rfl⟩
end Go.Proofs.YtoaabdmbgemkjaaGreatDoor.Al
