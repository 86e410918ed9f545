/- A float drawn. -/
import Derived.Test.YtpmgbbhoplicgaaRdJ
import Derived.Test.YtpmgbbhoplicgaaNanC
namespace Go.Proofs.Ytpmgbbhoplicgaa.Rd
open Go.ChangeShapes Go.WideShapes Go.ChangeAt Go.RowKit
open Flt

theorem oneOf16 (u : Int) (h0 : 0 ≤ u) (h1 : u < 16) : u = 0 ∨ u = 1 ∨ u = 2 ∨ u = 3 ∨ u = 4 ∨ u = 5 ∨ u = 6 ∨ u = 7 ∨ u = 8 ∨ u = 9 ∨ u = 10 ∨ u = 11 ∨ u = 12 ∨ u = 13 ∨ u = 14 ∨ u = 15 := by omega
abbrev sixteen : Obj := .cells #[.float .f64 0, .float .f64 9223372036854775808, .float .f64 4602678819172646912, .float .f64 13826050856027422720, .float .f64 4609434218613702656, .float .f64 4612811918334230528, .float .f64 13836183955189006336, .float .f64 4831355200913801216, .float .f64 4831355200913801224, .float .f64 14054727237768577024, .float .f64 1, .float .f64 9214871658872686752, .float .f64 9218868437227405312, .float .f64 18442240474082181120, .float .f64 4587366580439587226, .float .f64 4598175219545276416] 27
theorem neg_lt (x : Nat) (h : x < 18446744073709551616) : Op.negFloat .f64 x < 18446744073709551616 := by
  show x ^^^ 2 ^ 63 < 2 ^ 64
  exact Nat.xor_lt_two_pow h (by decide)
set_option maxHeartbeats 2000000 in
theorem float_any (r : Nat) (w : World) (h : Rd r w) : Calls Try.prog 39 #[.pointer (some ⟨r, 0, none⟩)] w (DrawnF r w) := by
  have hr := h.lt
  have hQ : ∀ x y w, (binOp .quo 27 (.float .f64 x) (.float .f64 y)).run Try.prog w = .ok (.float .f64 (opB .quo x y w)) (w.drewN (opD .quo x y)) := fun x y w => run_op Try.prog .quo arQuo 24 x y w
  have hN : ∀ x, Op.unary .neg (.float .f64 x) = pure (.float .f64 (Op.negFloat .f64 x)) := fun _ => rfl
  go_enter Try.func39, Try.ntmps39
  go_wp2_with fail
  refine (below_any r _ h 8 (by omega) (by omega)).mono ?_
  rintro e w1 ⟨⟨u, ⟨hu1, hu2⟩, rfl⟩, k1, k2⟩
  by_cases u0 : u = 0
  · go_wp2_with fail
    refine (none_any _).mono ?_
    rintro e w2 ⟨b, rfl, _, hb, hw⟩
    subst hw
    go_wp2_with fail
    go_ret
    exact ⟨⟨_, hb, rfl⟩, k1.drewN 1, k2.drewN 1⟩
  · by_cases u1 : u = 1
    · have m1 : ∀ w, (binOp .mul 27 (.float .f64 9214871658872686752) (.float .f64 4621819117588971520)).run Try.prog w = .ok (.float .f64 9218868437227405312) w := fun w => run_float_arith w .mul 27 .f64 _ _ _ (by decide +kernel)
      have m2 : ∀ w, (binOp .mul 27 (.float .f64 18438243695727462560) (.float .f64 4621819117588971520)).run Try.prog w = .ok (.float .f64 18442240474082181120) w := fun w => run_float_arith w .mul 27 .f64 _ _ _ (by decide +kernel)
      have n1 : Op.unary .neg (.float .f64 0) = pure (.float .f64 9223372036854775808) := rfl
      have n2 : Op.unary .neg (.float .f64 9214871658872686752) = pure (.float .f64 18438243695727462560) := rfl
      clear hN
      go_wp2_with fail
      have s1 := k2.size
      have kA : Rd r (w1.alloc sixteen) := k1.kept ((Below.refl w1.heap.size w1).alloc (Nat.le_refl _) sixteen) (by omega)
      refine (below_any r _ kA 16 (by omega) (by omega)).mono ?_
      rintro e w2 ⟨⟨v, ⟨hv1, hv2⟩, rfl⟩, k3, k4⟩
      have kt : Turn r w w2 := (k2.alloc hr sixteen).trans k4
      have c0 : w2.cell? ⟨w1.heap.size, 0, none⟩ = some (.float .f64 0) := (k4.cell 0 (by simp) (by omega)).trans (by simp [go_sem])
      have c1 : w2.cell? ⟨w1.heap.size, 1, none⟩ = some (.float .f64 9223372036854775808) := (k4.cell 1 (by simp) (by omega)).trans (by simp [go_sem])
      have c2 : w2.cell? ⟨w1.heap.size, 2, none⟩ = some (.float .f64 4602678819172646912) := (k4.cell 2 (by simp) (by omega)).trans (by simp [go_sem])
      have c3 : w2.cell? ⟨w1.heap.size, 3, none⟩ = some (.float .f64 13826050856027422720) := (k4.cell 3 (by simp) (by omega)).trans (by simp [go_sem])
      have c4 : w2.cell? ⟨w1.heap.size, 4, none⟩ = some (.float .f64 4609434218613702656) := (k4.cell 4 (by simp) (by omega)).trans (by simp [go_sem])
      have c5 : w2.cell? ⟨w1.heap.size, 5, none⟩ = some (.float .f64 4612811918334230528) := (k4.cell 5 (by simp) (by omega)).trans (by simp [go_sem])
      have c6 : w2.cell? ⟨w1.heap.size, 6, none⟩ = some (.float .f64 13836183955189006336) := (k4.cell 6 (by simp) (by omega)).trans (by simp [go_sem])
      have c7 : w2.cell? ⟨w1.heap.size, 7, none⟩ = some (.float .f64 4831355200913801216) := (k4.cell 7 (by simp) (by omega)).trans (by simp [go_sem])
      have c8 : w2.cell? ⟨w1.heap.size, 8, none⟩ = some (.float .f64 4831355200913801224) := (k4.cell 8 (by simp) (by omega)).trans (by simp [go_sem])
      have c9 : w2.cell? ⟨w1.heap.size, 9, none⟩ = some (.float .f64 14054727237768577024) := (k4.cell 9 (by simp) (by omega)).trans (by simp [go_sem])
      have c10 : w2.cell? ⟨w1.heap.size, 10, none⟩ = some (.float .f64 1) := (k4.cell 10 (by simp) (by omega)).trans (by simp [go_sem])
      have c11 : w2.cell? ⟨w1.heap.size, 11, none⟩ = some (.float .f64 9214871658872686752) := (k4.cell 11 (by simp) (by omega)).trans (by simp [go_sem])
      have c12 : w2.cell? ⟨w1.heap.size, 12, none⟩ = some (.float .f64 9218868437227405312) := (k4.cell 12 (by simp) (by omega)).trans (by simp [go_sem])
      have c13 : w2.cell? ⟨w1.heap.size, 13, none⟩ = some (.float .f64 18442240474082181120) := (k4.cell 13 (by simp) (by omega)).trans (by simp [go_sem])
      have c14 : w2.cell? ⟨w1.heap.size, 14, none⟩ = some (.float .f64 4587366580439587226) := (k4.cell 14 (by simp) (by omega)).trans (by simp [go_sem])
      have c15 : w2.cell? ⟨w1.heap.size, 15, none⟩ = some (.float .f64 4598175219545276416) := (k4.cell 15 (by simp) (by omega)).trans (by simp [go_sem])
      rcases oneOf16 v hv1 hv2 with rfl | rfl | rfl | rfl | rfl | rfl | rfl | rfl | rfl | rfl | rfl | rfl | rfl | rfl | rfl | rfl
      all_goals
        go_wp2_with fail
        go_ret
        exact ⟨⟨_, by decide, rfl⟩, k3, kt⟩
    · by_cases u2 : u = 2
      · go_wp2_with fail
        refine (number_any r _ k1).mono ?_
        rintro e w2 ⟨⟨v, _, rfl⟩, k3, k4⟩
        go_wp2_with fail
        refine (below_any r _ k3 1000 (by omega) (by omega)).mono ?_
        rintro e w3 ⟨⟨z, ⟨hz1, hz2⟩, rfl⟩, k5, k6⟩
        go_wp2_with fail
        go_ret
        exact ⟨⟨_, op_lt _ _ _ _, rfl⟩, k5.drewN _, ((k2.trans k4).trans k6).drewN _⟩
      · by_cases u3 : u = 3
        · go_wp2_with fail
          refine (below_any r _ k1 1000 (by omega) (by omega)).mono ?_
          rintro e w2 ⟨⟨v, ⟨hv1, hv2⟩, rfl⟩, k3, k4⟩
          go_wp2_with fail
          go_ret
          exact ⟨⟨_, neg_lt _ (op_lt _ _ _ _), rfl⟩, k3.drewN _, (k2.trans k4).drewN _⟩
        · go_wp2_with fail
          refine (below_any r _ k1 1000 (by omega) (by omega)).mono ?_
          rintro e w2 ⟨⟨v, ⟨hv1, hv2⟩, rfl⟩, k3, k4⟩
          go_wp2_with fail
          go_ret
          exact ⟨⟨_, op_lt _ _ _ _, rfl⟩, k3.drewN _, (k2.trans k4).drewN _⟩
end Go.Proofs.Ytpmgbbhoplicgaa.Rd
