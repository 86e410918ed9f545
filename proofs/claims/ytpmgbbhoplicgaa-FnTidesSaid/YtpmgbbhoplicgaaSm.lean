/- Whether two numbers are the same, are known: the model. -/
import Derived.Test.YtpmgbbhoplicgaaNanC
namespace Go.Proofs.Ytpmgbbhoplicgaa.Flt
open Go.ChangeShapes Go.WideShapes Go.ChangeAt Go.RowKit
set_option maxHeartbeats 400000 in
theorem minus_any (x : Nat) (w : World) (h : rng x ≤ 9218868437227405312) :
    Calls Try.prog 19 #[.float .f64 x] w fun e w' => e = .returned (.bool (sgn x)) ∧ w' = w := by
  have ho : ord x 0 = some (compare (key x) 0) := order_key x 0 h (by decide)
  by_cases hz : rng x = 0
  · have hk : key x = 0 := by unfold key; rw [hz]; cases sgn x <;> rfl
    have o1 : (ord x 0 == some .lt) = false := by rw [ho, hk]; rfl
    have o2 : (ord x 0 == some .eq) = true := by rw [ho, hk]; rfl
    have hq : ∀ w, (binOp .quo 27 (.float .f64 4607182418800017408) (.float .f64 x)).run Try.prog w = .ok (.float .f64 (if sgn x then 18442240474082181120 else 9218868437227405312)) w := fun w => run_float_arith w .quo 27 .f64 _ _ _ (div_zero x hz)
    have o3 : (ord (if sgn x then 18442240474082181120 else 9218868437227405312) 0 == some .lt) = sgn x := by
      have := order_key (if sgn x then 18442240474082181120 else 9218868437227405312) 0 (by rw [(sgn_inf (sgn x)).2]; omega) (by decide)
      show (Ieee.double.order _ _ == _) = _
      rw [this, (sgn_inf (sgn x)).1]
      cases sgn x <;> rfl
    generalize (if sgn x then 18442240474082181120 else 9218868437227405312) = y at *
    generalize sgn x = s at *
    clear hk ho
    cases s
    · go_enter Try.func19, Try.ntmps19
      go_wp2
      go_ret
      exact ⟨rfl, rfl⟩
    · go_enter Try.func19, Try.ntmps19
      go_wp2
      go_ret
      exact ⟨rfl, rfl⟩
  · cases hs : sgn x
    · have hk : 0 < key x := by unfold key; rw [hs]; simp [sg]; omega
      have o1 : (ord x 0 == some .lt) = false := by rw [ho, c_gt hk]; rfl
      have o2 : (ord x 0 == some .eq) = false := by rw [ho, c_gt hk]; rfl
      clear ho hk hs
      go_enter Try.func19, Try.ntmps19
      go_wp2
      go_ret
      exact ⟨rfl, rfl⟩
    · have hk : key x < 0 := by unfold key; rw [hs]; simp [sg]; omega
      have o1 : (ord x 0 == some .lt) = true := by rw [ho, c_lt hk]; rfl
      clear ho hk hs
      go_enter Try.func19, Try.ntmps19
      go_wp2
      go_ret
      exact ⟨rfl, rfl⟩

set_option maxHeartbeats 1000000 in
theorem sameT (a b : Nat) (h : cn a = cn b) (w : World) : Calls Try.prog 7 #[.float .f64 a, .float .f64 b] w fun e w' => e = .returned (.bool true) ∧ w' = w := by
  have n1 := self_ne a
  have n2 := self_ne b
  cases ea : nan a
  · have eb : nan b = false := by rw [← nan_cn b, ← h, nan_cn, ea]
    have e : a = b := by rw [cn_num ea, cn_num eb] at h; exact h
    subst e
    have ra : rng a ≤ 9218868437227405312 := by have := ea; unfold nan at this; simpa using this
    have o1 : (ord a a == some .eq) = true := by
      have := order_key a a ra ra
      show (Ieee.double.order a a == some .eq) = true
      rw [this, c_eq rfl]; rfl
    have M1 : Hid (rng a ≤ 9218868437227405312) := ra
    have hbb : (sgn a == sgn a) = true := by simp
    rw [ea] at n1
    clear h ea eb ra n2
    go_enter Try.func7, Try.ntmps7
    go_wp2_with fail
    refine (minus_any _ _ M1.out).mono ?_
    rintro e w' ⟨rfl, rfl⟩
    go_wp2_with fail
    refine (minus_any _ _ M1.out).mono ?_
    rintro e w' ⟨rfl, rfl⟩
    go_wp2_with fail
    go_ret
    exact ⟨rfl, rfl⟩
  · have eb : nan b = true := by rw [← nan_cn b, ← h, nan_cn, ea]
    rw [ea] at n1
    rw [eb] at n2
    clear h ea eb
    go_enter Try.func7, Try.ntmps7
    go_wp2
    go_ret
    exact ⟨rfl, rfl⟩
theorem sub_self_cn (x : Nat) : kn x = true → opF .sub x x = 0 := fun h => by
  show (Ieee.double.sub x x).getD qn = 0
  rw [sub_self x (by unfold kn at h; simpa using h)]
  rfl
end Go.Proofs.Ytpmgbbhoplicgaa.Flt
