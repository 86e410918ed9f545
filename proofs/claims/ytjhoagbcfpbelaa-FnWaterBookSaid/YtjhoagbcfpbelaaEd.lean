/- Whether a cell lies at the edge. -/
import Derived.Test.YtjhoagbcfpbelaaXa
import Derived.Deep.DeepCutAuto
import Derived.Deep.QuietTactic
namespace Go.Proofs.Ytjhoagbcfpbelaa.Xa
open Go.ChangeShapes Go.WideShapes Go.ChangeAt Go.RowKit
open Go.Proofs.Ytjhoagbcfpbelaa.Lists
set_option maxRecDepth 20000 in
set_option maxHeartbeats 1000000 in
theorem edge_any (r c x : Int) (hr : 1 ≤ r ∧ r ≤ 24) (hc : 1 ≤ c ∧ c ≤ 24) (hx : 0 ≤ x ∧ x < 576) (u : Value) (w : World) :
    Calls Try.prog 28 #[Bx.sv r c u, .int .i64 x] w fun e w' => ∃ q : Bool, e = .returned (.bool q) ∧ Below w.heap.size w w' := by
  have td : x.tdiv c = x / c := Int.tdiv_eq_ediv_of_nonneg hx.1
  have tm : x.tmod c = x % c := Int.tmod_eq_emod_of_nonneg hx.1
  have i1 : 0 ≤ x / c ∧ x / c ≤ x := ⟨Int.ediv_nonneg hx.1 (by omega), Int.ediv_le_self c hx.1⟩
  have j1 : 0 ≤ x % c ∧ x % c < c := ⟨Int.emod_nonneg _ (by omega), Int.emod_lt_of_pos _ (by omega)⟩
  obtain ⟨r1, r2⟩ := hr
  obtain ⟨c1, c2⟩ := hc
  obtain ⟨x1, x2⟩ := hx
  generalize x / c = i at *
  generalize x % c = j at *
  obtain ⟨i1, i2⟩ := i1
  obtain ⟨j1, j2⟩ := j1
  have cz : ¬ c = 0 := by omega
  have w1 : IntKind.i64.wrap (r - 1) = r - 1 := IntWalk.i64_in _ (by omega)
  have w2 : IntKind.i64.wrap (c - 1) = c - 1 := IntWalk.i64_in _ (by omega)
  go_enter Try.func28, Try.ntmps28
  have B1 : Below w.heap.size w (w.alloc (Obj.cells #[.int .i64 r, .int .i64 c, u] 49)) := (Below.refl _ _).alloc (Nat.le_refl _) _
  go_wp2_with fail
  all_goals exact bodyPost_ret (v := .bool _) (by simp [results, Try.results28, go_sem]; rfl) rfl ⟨_, rfl, B1⟩
end Go.Proofs.Ytjhoagbcfpbelaa.Xa
