/- The quotient at one place, in the program. -/
import Derived.Test.YtpcgnahjibfphaaLpA
namespace Go.Proofs.Ytpcgnahjibfphaa.Flt
open Go.ChangeShapes Go.WideShapes Go.ChangeAt Go.RowKit
attribute [local go_sem] run_store_float

set_option maxHeartbeats 1000000 in
theorem lapseAt_any (w : World) (v : Value) (L : Lv) (h : Reads w v L) (hk : ∀ j, j < L.length → okAt L j = true) (i : Nat) (hi : i + 1 < L.length) (hn : L.length ≤ 400) :
    Calls Try.prog 35 #[v, .int .i64 i] w fun e w' => e = .returned (.float .f64 (lapse L i)) ∧ Below w.heap.size w w' := by
  rcases h with ⟨rfl, _⟩ | ⟨b, o, c, rfl, x1, x2, x3, x4⟩
  · simp at hi
  have hS : ∀ w, (binOp .sub 29 (.float .f64 (tOf L i)) (.float .f64 (tOf L (i + 1)))).run Try.prog w = .ok (.float .f64 (fall L i)) w := fun w => run_float_arith w .sub 29 .f64 _ _ _ (fall_run hk hi).1
  have hQ : ∀ w, (binOp .quo 29 (.float .f64 (fall L i)) (.float .f64 (floatOfInt .f64 (pOf L i - pOf L (i + 1))))).run Try.prog w = .ok (.float .f64 (lapse L i)) w := fun w => run_float_arith w .quo 29 .f64 _ _ _ (lapse_run hk hi)
  obtain ⟨f1, f2, f3⟩ := ok_fall hk hi
  have q1 := (x4 i (by omega)).1
  have q2 := (x4 i (by omega)).2
  have q3 := (x4 (i + 1) hi).1
  have q4 := (x4 (i + 1) hi).2
  generalize fall L i = fl at *
  generalize lapse L i = la at *
  generalize tOf L i = t0 at *
  generalize tOf L (i + 1) = t1 at *
  generalize pOf L i = p0 at *
  generalize pOf L (i + 1) = p1 at *
  obtain ⟨n, hnn⟩ : ∃ n, n = L.length := ⟨_, rfl⟩
  rw [← hnn] at x1 hi hn ⊢
  clear x4 hk hnn
  unfold maxLen at x2
  have i0 : (0 : Int) ≤ (i : Int) := by omega
  have i1 : (i : Int) < (n : Int) := by omega
  have i2 : (i : Int) + 1 < (n : Int) := by omega
  have i3 : (0 : Int) ≤ (i : Int) + 1 := by omega
  have i4 : IntKind.i64.wrap ((i : Int) + 1) = (i : Int) + 1 := IntWalk.i64_in _ (by omega)
  go_enter Try.func35, Try.ntmps35
  have n1 : b ≠ w.heap.size := by omega
  have n2 : b ≠ w.heap.size + 1 := by omega
  go_wp2_with fail
  go_region_held3 (fun w' => w'.cell? ⟨b, o + i * 2, none⟩ = some (.int .i64 p0) ∧ w'.cell? ⟨b, o + i * 2 + 1, none⟩ = some (.float .f64 t0) ∧ w'.cell? ⟨b, o + (i + 1) * 2, none⟩ = some (.int .i64 p1) ∧ w'.cell? ⟨b, o + (i + 1) * 2 + 1, none⟩ = some (.float .f64 t1)) (go_keep) (fail)
  all_goals
    go_wp2_with fail
    go_ret
    exact ⟨rfl, (((Below.refl _ _).alloc (Nat.le_refl _) _).alloc (by simp) _).drew⟩
end Go.Proofs.Ytpcgnahjibfphaa.Flt
