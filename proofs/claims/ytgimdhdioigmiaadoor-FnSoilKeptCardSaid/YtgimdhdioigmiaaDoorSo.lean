/- Soils: copied and compared by the law; the program's steps. -/
import Derived.Test.YtgimdhdioigmiaaDoorRows
import Derived.WalkKit
import Derived.ProofKit
import Derived.Below
import Derived.OwnWalk
import Derived.Deep.RegionHeld3
import Derived.BigRegion
namespace Go.Proofs.YtgimdhdioigmiaaDoor.So
open Go.ChangeShapes Go.WideShapes Go.ChangeAt Go.RowKit

abbrev sv (a b c d e : Int) : Value := .agg #[.int .i64 a, .int .i64 b, .int .i64 c, .int .i64 d, .int .i64 e]

theorem tdiv_pos {a : Int} (h : 0 ≤ a) (k : Int) : a.tdiv k = a / k := Int.tdiv_eq_ediv_of_nonneg h

def ml (a t : Int) : Int := min a (3 * t / 10)
def dr (b t : Int) : Int := min b (t / 20)
set_option maxHeartbeats 1000000 in
theorem warmed_any (a b c d f t : Int) (w : World) (h1 : 0 ≤ a ∧ a ≤ 2000000000000) (h2 : 0 ≤ b ∧ b ≤ 2000000000000) (h3 : 0 ≤ d ∧ d ≤ 2000000000000) (ht : 0 < t ∧ t ≤ 800) :
    Calls Tryd.prog 18 #[sv a b c d f, .int .i64 t] w fun e w' => e = .returned (sv (a - ml a t) (b + ml a t - dr (b + ml a t) t) c (d + dr (b + ml a t) t) f) ∧ Below w.heap.size w w' := by
  obtain ⟨q1, hq1⟩ : ∃ q1, 3 * t / 10 = q1 := ⟨_, rfl⟩
  obtain ⟨q2, hq2⟩ : ∃ q2, t / 20 = q2 := ⟨_, rfl⟩
  have e1 : (3 * t).tdiv 10 = q1 := by rw [tdiv_pos (by omega)]; exact hq1
  have e2 : t.tdiv 20 = q2 := by rw [tdiv_pos (by omega)]; exact hq2
  have b1 : 0 ≤ q1 ∧ q1 ≤ 240 := by omega
  have b2 : 0 ≤ q2 ∧ q2 ≤ 40 := by omega
  unfold ml dr
  rw [hq1, hq2]
  clear hq1 hq2
  obtain ⟨x0, X0⟩ : ∃ x, a - min a q1 = x := ⟨_, rfl⟩
  obtain ⟨x1, X1⟩ : ∃ x, b + min a q1 - min (b + min a q1) q2 = x := ⟨_, rfl⟩
  obtain ⟨x3, X3⟩ : ∃ x, d + min (b + min a q1) q2 = x := ⟨_, rfl⟩
  rw [X0, X1, X3]
  have HX : Hid (a - min a q1 = x0 ∧ b + min a q1 - min (b + min a q1) q2 = x1 ∧ d + min (b + min a q1) q2 = x3) := ⟨X0, X1, X3⟩
  clear X0 X1 X3
  by_cases g1 : q1 < a
  · by_cases g2 : q2 < b + q1
    · go_enter Tryd.func18, Tryd.ntmps18
      go_wp2_with fail
      refine bodyPost_ret (v := sv x0 x1 c x3 f) (by have := HX.out; simp [results, Tryd.results18, go_sem]; omega) rfl ⟨rfl, ?_⟩
      repeat' first | exact Below.refl _ _ | refine Below.setCell ?_ (by simp <;> omega) _ | refine Below.alloc ?_ (by simp <;> omega) _
    · go_enter Tryd.func18, Tryd.ntmps18
      go_wp2_with fail
      refine bodyPost_ret (v := sv x0 x1 c x3 f) (by have := HX.out; simp [results, Tryd.results18, go_sem]; omega) rfl ⟨rfl, ?_⟩
      repeat' first | exact Below.refl _ _ | refine Below.setCell ?_ (by simp <;> omega) _ | refine Below.alloc ?_ (by simp <;> omega) _
  · by_cases g2 : q2 < b + a
    · go_enter Tryd.func18, Tryd.ntmps18
      go_wp2_with fail
      refine bodyPost_ret (v := sv x0 x1 c x3 f) (by have := HX.out; simp [results, Tryd.results18, go_sem]; omega) rfl ⟨rfl, ?_⟩
      repeat' first | exact Below.refl _ _ | refine Below.setCell ?_ (by simp <;> omega) _ | refine Below.alloc ?_ (by simp <;> omega) _
    · go_enter Tryd.func18, Tryd.ntmps18
      go_wp2_with fail
      refine bodyPost_ret (v := sv x0 x1 c x3 f) (by have := HX.out; simp [results, Tryd.results18, go_sem]; omega) rfl ⟨rfl, ?_⟩
      repeat' first | exact Below.refl _ _ | refine Below.setCell ?_ (by simp <;> omega) _ | refine Below.alloc ?_ (by simp <;> omega) _
end Go.Proofs.YtgimdhdioigmiaaDoor.So
