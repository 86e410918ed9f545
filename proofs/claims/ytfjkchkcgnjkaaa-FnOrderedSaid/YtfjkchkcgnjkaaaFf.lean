/- Floats and pairs drawn of a code, told by the code alone, up to which missing number. -/
import Derived.Test.YtfjkchkcgnjkaaaFe
import Derived.Test.YtfjkchkcgnjkaaaNanC
namespace Go.Proofs.Ytfjkchkcgnjkaaa.Fd
open Go.ChangeShapes Go.WideShapes Go.ChangeAt Go.RowKit
open Flt
attribute [local go_sem] Flt.run_store_float

theorem Turn.drewN {r : Nat} {a w : World} (h : Turn r a w) (n : Nat) : Turn r a (w.drewN n) := ⟨below_drewN h.bel n, h.abv⟩
theorem Rd.drewN {B : List UInt8} {p r : Nat} {w : World} (h : Rd B p r w) (n : Nat) : Rd B p r (w.drewN n) := h.kept (below_drewN (Below.refl (r + 1) w) n) (Nat.lt_succ_self r)

theorem oneOf16 (u : Nat) (h1 : u < 16) : u = 0 ∨ u = 1 ∨ u = 2 ∨ u = 3 ∨ u = 4 ∨ u = 5 ∨ u = 6 ∨ u = 7 ∨ u = 8 ∨ u = 9 ∨ u = 10 ∨ u = 11 ∨ u = 12 ∨ u = 13 ∨ u = 14 ∨ u = 15 := by omega
abbrev sixteen : Obj := .cells #[.float .f64 0, .float .f64 9223372036854775808, .float .f64 4602678819172646912, .float .f64 13826050856027422720, .float .f64 4609434218613702656, .float .f64 4612811918334230528, .float .f64 13836183955189006336, .float .f64 4831355200913801216, .float .f64 4831355200913801224, .float .f64 14054727237768577024, .float .f64 1, .float .f64 9214871658872686752, .float .f64 9218868437227405312, .float .f64 18442240474082181120, .float .f64 4587366580439587226, .float .f64 4598175219545276416] 31
def sxs : List Nat := [0, 9223372036854775808, 4602678819172646912, 13826050856027422720, 4609434218613702656, 4612811918334230528, 13836183955189006336, 4831355200913801216, 4831355200913801224, 14054727237768577024, 1, 9214871658872686752, 9218868437227405312, 18442240474082181120, 4587366580439587226, 4598175219545276416]
theorem sixteen_at (w : World) (u : Nat) (h : u < 16) : (w.alloc sixteen).cell? ⟨w.heap.size, u, none⟩ = some (.float .f64 (sxs.getD u 0)) := by
  rcases oneOf16 u h with rfl | rfl | rfl | rfl | rfl | rfl | rfl | rfl | rfl | rfl | rfl | rfl | rfl | rfl | rfl | rfl <;> simp [go_sem, sxs]
theorem tenth_some (v : Nat) (h : v < 1000) : (floatBits .quo .f64 (floatOfInt .f64 (v : Int)) 4621819117588971520).isSome = true := by
  have : ∀ v : Fin 1000, (floatBits .quo .f64 (floatOfInt .f64 ((v.val : Nat) : Int)) 4621819117588971520).isSome = true := by decide +kernel
  exact this ⟨v, h⟩
theorem neg_lt (q : Nat) (h : q < 18446744073709551616) : Op.negFloat .f64 q < 18446744073709551616 := by

  unfold Op.negFloat
  exact Nat.xor_lt_two_pow (n := 64) h (by decide)
/-- a float drawn: but for which missing number, it is the code's -/
def FltD (B : List UInt8) (p : Nat) (x : Nat) (p' : Nat) : Prop := ∀ r w, Rd B p r w → Calls Try.prog 35 #[.pointer (some ⟨r, 0, none⟩)] w fun e w' => ∃ y, e = .returned (.float .f64 y) ∧ cn y = x ∧ y < 18446744073709551616 ∧ Rd B p' r w' ∧ Turn r w w'
set_option maxHeartbeats 2000000 in
theorem float_det (B : List UInt8) (p : Nat) : ∃ x p', FltD B p x p' := by
  obtain ⟨u, hu⟩ : ∃ u, bw B p 8 = u := ⟨_, rfl⟩
  obtain ⟨p1, hp1⟩ : ∃ q, bp B p 8 = q := ⟨_, rfl⟩
  have hu5 := bw_lt B p 8 (by omega)
  rw [hu] at hu5
  have hQ : ∀ x y w, (binOp .quo 31 (.float .f64 x) (.float .f64 y)).run Try.prog w = .ok (.float .f64 (opB .quo x y w)) (w.drewN (opD .quo x y)) := fun x y w => run_op Try.prog .quo arQuo 24 x y w
  have hN : ∀ x, Op.unary .neg (.float .f64 x) = pure (.float .f64 (Op.negFloat .f64 x)) := fun _ => rfl
  have hc : u = 0 ∨ u = 1 ∨ u = 2 ∨ u = 3 ∨ 3 < u := by omega
  rcases hc with rfl | rfl | rfl | rfl | h4
  · refine ⟨qn, p1, fun r w h => ?_⟩
    have C1 := below_is h 8 (by omega) (by omega) hu hp1
    go_enter Try.func35, Try.ntmps35
    go_wp2_with fail
    refine C1.mono ?_
    rintro e w1 ⟨rfl, k1, k2⟩
    go_wp2_with fail
    refine (none_any _).mono ?_
    rintro e w2 ⟨b, rfl, hq, hb, hw⟩
    subst hw
    go_wp2_with fail
    go_ret
    exact ⟨_, rfl, hq, hb, k1.drewN 1, k2.drewN 1⟩
  · have hv := bw_lt B p1 16 (by omega)
    obtain ⟨v, hvv⟩ : ∃ v, bw B p1 16 = v := ⟨_, rfl⟩
    rw [hvv] at hv
    obtain ⟨x, hx⟩ : ∃ x, sxs.getD v 0 = x := ⟨_, rfl⟩
    refine ⟨cn x, bp B p1 16, fun r w h => ?_⟩
    have C1 := below_is h 8 (by omega) (by omega) hu hp1
    have hr := h.lt
    have m1 : ∀ w, (binOp .mul 31 (.float .f64 9214871658872686752) (.float .f64 4621819117588971520)).run Try.prog w = .ok (.float .f64 9218868437227405312) w := fun w => run_float_arith w .mul 31 .f64 _ _ _ (by decide +kernel)
    have m2 : ∀ w, (binOp .mul 31 (.float .f64 18438243695727462560) (.float .f64 4621819117588971520)).run Try.prog w = .ok (.float .f64 18442240474082181120) w := fun w => run_float_arith w .mul 31 .f64 _ _ _ (by decide +kernel)
    have n1 : Op.unary .neg (.float .f64 0) = pure (.float .f64 9223372036854775808) := rfl
    have n2 : Op.unary .neg (.float .f64 9214871658872686752) = pure (.float .f64 18438243695727462560) := rfl
    clear hN
    go_enter Try.func35, Try.ntmps35
    go_wp2_with fail
    refine C1.mono ?_
    rintro e w1 ⟨rfl, k1, k2⟩
    go_wp2_with fail
    have s1 := k2.size
    have kA : Rd B p1 r (w1.alloc sixteen) := k1.kept ((Below.refl w1.heap.size w1).alloc (Nat.le_refl _) sixteen) (by omega)
    refine (below_is kA 16 (by omega) (by omega) hvv rfl).mono ?_
    rintro e w2 ⟨rfl, k3, k4⟩
    have kt : Turn r w w2 := (k2.alloc hr sixteen).trans k4
    have c0 : w2.cell? ⟨w1.heap.size, v, none⟩ = some (.float .f64 x) := by rw [← hx]; exact (k4.cell _ (by simp) (by omega)).trans (sixteen_at w1 _ hv)
    have hxb : x < 18446744073709551616 := by rw [← hx]; rcases oneOf16 v hv with rfl | rfl | rfl | rfl | rfl | rfl | rfl | rfl | rfl | rfl | rfl | rfl | rfl | rfl | rfl | rfl <;> decide
    clear hx hvv
    go_wp2_with fail
    go_ret
    exact ⟨_, rfl, rfl, hxb, k3, kt⟩
  · obtain ⟨x, p2, HN⟩ := number_det B p1
    have hz := bw_lt B p2 1000 (by omega)
    obtain ⟨z, hzz⟩ : ∃ v, bw B p2 1000 = v := ⟨_, rfl⟩
    rw [hzz] at hz
    refine ⟨opF .quo (cn (floatOfInt .f64 x)) (cn (floatOfInt .f64 (1 + (z : Int)))), bp B p2 1000, fun r w h => ?_⟩
    have C1 := below_is h 8 (by omega) (by omega) hu hp1
    go_enter Try.func35, Try.ntmps35
    go_wp2_with fail
    refine C1.mono ?_
    rintro e w1 ⟨rfl, k1, k2⟩
    go_wp2_with fail
    refine (HN r _ k1).mono ?_
    rintro e w2 ⟨rfl, k3, k4⟩
    go_wp2_with fail
    refine (below_is k3 1000 (by omega) (by omega) hzz rfl).mono ?_
    rintro e w3 ⟨rfl, k5, k6⟩
    clear hzz
    go_wp2_with fail
    go_ret
    exact ⟨_, rfl, cn_op _ _ _ _, op_lt _ _ _ _, k5.drewN _, ((k2.trans k4).trans k6).drewN _⟩
  · have hz := bw_lt B p1 1000 (by omega)
    obtain ⟨q, hq⟩ := Option.isSome_iff_exists.1 (tenth_some _ hz)
    have HQ : Hid (∀ w, opB .quo (floatOfInt .f64 (bw B p1 1000 : Int)) 4621819117588971520 w = q) := fun w => by show opB _ _ _ _ = _; unfold opB; rw [hq]
    clear hq
    refine ⟨cn (Op.negFloat .f64 q), bp B p1 1000, fun r w h => ?_⟩
    have C1 := below_is h 8 (by omega) (by omega) hu hp1
    go_enter Try.func35, Try.ntmps35
    go_wp2_with fail
    refine C1.mono ?_
    rintro e w1 ⟨rfl, k1, k2⟩
    go_wp2_with fail
    refine (below_any B _ r _ k1 1000 (by omega) (by omega)).mono ?_
    rintro e w2 ⟨rfl, k3, k4⟩
    generalize bw B p1 1000 = z at *
    go_wp2_with fail
    go_ret
    exact ⟨_, rfl, by rw [HQ.out], neg_lt _ (op_lt _ _ _ _), k3.drewN _, (k2.trans k4).drewN _⟩
  · have hz := bw_lt B p1 1000 (by omega)
    obtain ⟨z, hzz⟩ : ∃ v, bw B p1 1000 = v := ⟨_, rfl⟩
    rw [hzz] at hz
    refine ⟨opF .quo (cn (floatOfInt .f64 (z : Int))) (cn 4621819117588971520), bp B p1 1000, fun r w h => ?_⟩
    have C1 := below_is h 8 (by omega) (by omega) hu hp1
    go_enter Try.func35, Try.ntmps35
    go_wp2_with fail
    refine C1.mono ?_
    rintro e w1 ⟨rfl, k1, k2⟩
    have u0 : ¬ ((u : Int) = 0) := by omega
    have u1 : ¬ ((u : Int) = 1) := by omega
    have u2 : ¬ ((u : Int) = 2) := by omega
    have u3 : ¬ ((u : Int) = 3) := by omega
    go_wp2_with fail
    refine (below_is k1 1000 (by omega) (by omega) hzz rfl).mono ?_
    rintro e w2 ⟨rfl, k3, k4⟩
    clear hzz
    go_wp2_with fail
    go_ret
    exact ⟨_, rfl, cn_op _ _ _ _, op_lt _ _ _ _, k3.drewN _, (k2.trans k4).drewN _⟩

end Go.Proofs.Ytfjkchkcgnjkaaa.Fd
