/- Skies in the laws: copied, compared, measured. -/
import Derived.Test.YtoaabdmbgemkjaaGreatDoorLd
namespace Go.Proofs.YtoaabdmbgemkjaaGreatDoor.Sk
open Go.ChangeShapes Go.WideShapes Go.ChangeAt Go.RowKit
open Go.Proofs.YtoaabdmbgemkjaaGreatDoor.Al

set_option maxHeartbeats 1000000 in
theorem to_any (d p v : Int) (W C : ByteArray) (b : Int) (w : World) : Calls Tryz.prog 17 #[sk d p v W C b] w fun e w' => e = .returned (sk d p v W C b) ∧ Below w.heap.size w w' := by
  go_enter Tryz.func17, Tryz.ntmps17
  go_wp2_with fail
  refine bodyPost_ret (v := sk d p v W C b) (by simp [results, Tryz.results17, go_sem]) rfl ⟨rfl, ?_⟩
  repeat' first | exact Below.refl _ _ | refine Below.setCell ?_ (by simp <;> omega) _ | refine Below.alloc ?_ (by simp <;> omega) _
set_option maxHeartbeats 1000000 in
theorem eq_any (d p v : Int) (W C : ByteArray) (b : Int) (w : World) : Calls Tryz.prog 27 #[sk d p v W C b, sk d p v W C b] w fun e w' => e = .returned (.bool true) ∧ Below w.heap.size w w' := by
  have hii : ∀ b : Int, (b != b) = false := fun b => by simp
  go_enter Tryz.func27, Tryz.ntmps27
  go_wp2_with fail
  go_ret
  refine ⟨rfl, ?_⟩
  repeat' first | exact Below.refl _ _ | refine Below.setCell ?_ (by simp <;> omega) _ | refine Below.alloc ?_ (by simp <;> omega) _
set_option maxHeartbeats 1000000 in
theorem sz_any (d p v : Int) (W C : ByteArray) (b l : Int) (w : World) (h0 : 0 ≤ l) (h1 : l ≤ 1048576) (hW : W.size < 9223372036854775808) (hC : C.size < 9223372036854775808) :
    Calls Tryz.prog 9 #[sk d p v W C b, .int .i64 l] w fun e w' => (∃ r : Int, e = .returned (.int .i64 r) ∧ (0 ≤ r → W.size ≤ 1048576 ∧ C.size ≤ 1048576) ∧ r ≤ 1048576) ∧ Below w.heap.size w w' := by
  have BB : Hid (Below w.heap.size w (w.alloc (.cells #[.int .i64 d, .int .i64 p, .int .i64 v, .string W, .string C, .int .i64 b] 25))) := (Below.refl _ _).alloc (Nat.le_refl _) _
  by_cases i1 : l - (W.size : Int) < 0
  · have j1 : IntKind.i64.wrap (l - (W.size : Int)) = l - (W.size : Int) := IntWalk.i64_in _ (by omega)
    go_enter Tryz.func9, Tryz.ntmps9
    go_wp2_with fail
    go_ret
    exact ⟨⟨-1, rfl, fun h => by omega, by omega⟩, BB.out⟩
  · have j1 : IntKind.i64.wrap (l - (W.size : Int)) = l - (W.size : Int) := IntWalk.i64_in _ (by omega)
    by_cases i2 : l - (W.size : Int) - (C.size : Int) < 0
    · have j2 : IntKind.i64.wrap (l - (W.size : Int) - (C.size : Int)) = l - (W.size : Int) - (C.size : Int) := IntWalk.i64_in _ (by omega)
      go_enter Tryz.func9, Tryz.ntmps9
      go_wp2_with fail
      go_ret
      exact ⟨⟨-1, rfl, fun h => by omega, by omega⟩, BB.out⟩
    · have j2 : IntKind.i64.wrap (l - (W.size : Int) - (C.size : Int)) = l - (W.size : Int) - (C.size : Int) := IntWalk.i64_in _ (by omega)
      go_enter Tryz.func9, Tryz.ntmps9
      go_wp2_with fail
      go_ret
      exact ⟨⟨l - (W.size : Int) - (C.size : Int), rfl, fun h => by omega, by omega⟩, BB.out⟩
end Go.Proofs.YtoaabdmbgemkjaaGreatDoor.Sk
