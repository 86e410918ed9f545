/- The program's Nearest, and the law FnExactNearest walked. -/
import Derived.Test.YtgajajpcjbpalaaNearC
namespace Go.Proofs.Ytgajajpcjbpalaa.Flt
open Go.ChangeShapes Go.WideShapes Go.ChangeAt Go.RowKit

theorem run_round0 (x : Nat) (w : World) : (callFunc 59 #[.float .f64 x]).run Try.prog w = ((Go.Extern.MathFloor.toIntegral "math.RoundToEven" .even #[.float .f64 x]) >>= fun v => pure (Next.value v)).run Try.prog w := by kernel_rfl

theorem to_num (x : Nat) (s : Bool) (m : Nat) (p : Int) (e : FloatKind.f64.decode x = .number s m p) : Go.Extern.MathFloor.toIntegral "math.RoundToEven" .even #[.float .f64 x] = pure (.float .f64 (FloatKind.f64.encode ((Ieee.Datum.number s m p).integral .even))) := by
  conv => lhs; unfold Go.Extern.MathFloor.toIntegral; whnf
  rw [e]

theorem run_round (x : Nat) (w : World) (h : rng x < 9218868437227405312) : (callFunc 59 #[.float .f64 x]).run Try.prog w = .ok (.value (.float .f64 (Ieee.double.write ((Ieee.double.read x).integral .even)))) w := by
  obtain ⟨m, a, e, _⟩ := read_fin x h
  have e' : FloatKind.f64.decode x = .number (sgn x) m (-1074 + (a : Int)) := e
  rw [run_round0, to_num x _ _ _ e', e]
  rfl

set_option maxHeartbeats 1000000 in
theorem inear_yes (x : Nat) (w : World) (hx : x < 18446744073709551616) (h : rng x ≤ 4831355200913801216) :
    Calls Try.prog 45 #[.float .f64 x] w fun e w' => e = two (near x) true ∧ ∃ m, w' = w.drewN m := by
  have hr := fun w => run_round x w (by omega)
  obtain ⟨y, y1, y2, y3⟩ := rounded x h
  rw [y1] at hr
  have hc : ∀ w, (convert 40 2 (.float .f64 y)).run Try.prog w = .ok (.int .i64 (near x)) w := fun w => run_convert_float_int w 40 2 .f64 .i64 y _ (by rw [Try.underlying40]; rfl) Try.underlying2 y3
  have hk : kn x = true := decide_eq_true (by omega)
  obtain ⟨c, d, h1, h2, h3, h4⟩ := inside x h
  generalize near x = N at *
  clear y1 y3
  rcases h3 with rfl | rfl <;> rcases h4 with rfl | rfl
  all_goals
    go_enter Try.func45, Try.ntmps45
    go_wp2_with fail
    refine (iknown x _ hx).mono ?_
    rintro e w1 ⟨rfl, hw⟩
    subst hw
    rw [hk]
    go_wp2_with fail
    go_ret2
    exact ⟨rfl, 0, rfl⟩

set_option maxHeartbeats 1000000 in
theorem inear_no (x : Nat) (w : World) (hx : x < 18446744073709551616) (h : 4831355200913801216 < rng x) :
    Calls Try.prog 45 #[.float .f64 x] w fun e w' => e = two 0 false ∧ ∃ m, w' = w.drewN m := by
  by_cases hk : rng x < 9218868437227405312
  · have hkn : kn x = true := decide_eq_true hk
    rcases outside x h hk with h1 | ⟨h1, h2⟩
    all_goals
      go_enter Try.func45, Try.ntmps45
      go_wp2_with fail
      refine (iknown x _ hx).mono ?_
      rintro e w1 ⟨rfl, hw⟩
      subst hw
      rw [hkn]
      go_wp2_with fail
      go_ret2
      exact ⟨rfl, 0, rfl⟩
  · have hkn : kn x = false := decide_eq_false hk
    go_enter Try.func45, Try.ntmps45
    go_wp2_with fail
    refine (iknown x _ hx).mono ?_
    rintro e w1 ⟨rfl, hw⟩
    subst hw
    rw [hkn]
    go_wp2_with fail
    go_ret2
    exact ⟨rfl, 0, rfl⟩

theorem Below.ofDrewN (w : World) (m : Nat) : Below w.heap.size w (w.drewN m) := by
  induction m with
  | zero => exact Below.refl _ _
  | succ k ih => exact ih.drew

end Go.Proofs.Ytgajajpcjbpalaa.Flt
