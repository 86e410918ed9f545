/- Whether two numbers are the same, are known: the model. -/
import Derived.Test.YthdhjinmjneenaaNanC
namespace Go.Proofs.Ythdhjinmjneenaa.Flt
open Go.ChangeShapes Go.WideShapes Go.ChangeAt Go.RowKit
set_option maxHeartbeats 400000 in
theorem minus_any (x : Nat) (w : World) (h : rng x ≤ 9218868437227405312) :
    Calls Try.prog 18 #[.float .f64 x] w fun e w' => e = .returned (.bool (sgn x)) ∧ w' = w := by
  have ho : ord x 0 = some (compare (key x) 0) := order_key x 0 h (by decide)
  by_cases hz : rng x = 0
  · have hk : key x = 0 := by unfold key; rw [hz]; cases sgn x <;> rfl
    have o1 : (ord x 0 == some .lt) = false := by rw [ho, hk]; rfl
    have o2 : (ord x 0 == some .eq) = true := by rw [ho, hk]; rfl
    have hq : ∀ w, (binOp .quo 24 (.float .f64 4607182418800017408) (.float .f64 x)).run Try.prog w = .ok (.float .f64 (if sgn x then 18442240474082181120 else 9218868437227405312)) w := fun w => run_float_arith w .quo 24 .f64 _ _ _ (div_zero x hz)
    have o3 : (ord (if sgn x then 18442240474082181120 else 9218868437227405312) 0 == some .lt) = sgn x := by
      have := order_key (if sgn x then 18442240474082181120 else 9218868437227405312) 0 (by rw [(sgn_inf (sgn x)).2]; omega) (by decide)
      show (Ieee.double.order _ _ == _) = _
      rw [this, (sgn_inf (sgn x)).1]
      cases sgn x <;> rfl
    generalize (if sgn x then 18442240474082181120 else 9218868437227405312) = y at *
    generalize sgn x = s at *
    clear hk ho
    cases s
    · go_enter Try.func18, Try.ntmps18
      go_wp2
      go_ret
      exact ⟨rfl, rfl⟩
    · go_enter Try.func18, Try.ntmps18
      go_wp2
      go_ret
      exact ⟨rfl, rfl⟩
  · cases hs : sgn x
    · have hk : 0 < key x := by unfold key; rw [hs]; simp [sg]; omega
      have o1 : (ord x 0 == some .lt) = false := by rw [ho, c_gt hk]; rfl
      have o2 : (ord x 0 == some .eq) = false := by rw [ho, c_gt hk]; rfl
      clear ho hk hs
      go_enter Try.func18, Try.ntmps18
      go_wp2
      go_ret
      exact ⟨rfl, rfl⟩
    · have hk : key x < 0 := by unfold key; rw [hs]; simp [sg]; omega
      have o1 : (ord x 0 == some .lt) = true := by rw [ho, c_lt hk]; rfl
      clear ho hk hs
      go_enter Try.func18, Try.ntmps18
      go_wp2
      go_ret
      exact ⟨rfl, rfl⟩

set_option maxHeartbeats 1000000 in
theorem sameT (a b : Nat) (h : cn a = cn b) (w : World) : Calls Try.prog 10 #[.float .f64 a, .float .f64 b] w fun e w' => e = .returned (.bool true) ∧ w' = w := by
  have n1 := self_ne a
  have n2 := self_ne b
  cases ea : nan a
  · have eb : nan b = false := by rw [← nan_cn b, ← h, nan_cn, ea]
    have e : a = b := by rw [cn_num ea, cn_num eb] at h; exact h
    subst e
    have ra : rng a ≤ 9218868437227405312 := by have := ea; unfold nan at this; simpa using this
    have o1 : (ord a a == some .eq) = true := by
      have := order_key a a ra ra
      show (Ieee.double.order a a == some .eq) = true
      rw [this, c_eq rfl]; rfl
    have M1 : Hid (rng a ≤ 9218868437227405312) := ra
    have hbb : (sgn a == sgn a) = true := by simp
    rw [ea] at n1
    clear h ea eb ra n2
    go_enter Try.func10, Try.ntmps10
    go_wp2_with fail
    refine (minus_any _ _ M1.out).mono ?_
    rintro e w' ⟨rfl, rfl⟩
    go_wp2_with fail
    refine (minus_any _ _ M1.out).mono ?_
    rintro e w' ⟨rfl, rfl⟩
    go_wp2_with fail
    go_ret
    exact ⟨rfl, rfl⟩
  · have eb : nan b = true := by rw [← nan_cn b, ← h, nan_cn, ea]
    rw [ea] at n1
    rw [eb] at n2
    clear h ea eb
    go_enter Try.func10, Try.ntmps10
    go_wp2
    go_ret
    exact ⟨rfl, rfl⟩
theorem sub_self_cn (x : Nat) : kn x = true → opF .sub x x = 0 := fun h => by
  show (Ieee.double.sub x x).getD qn = 0
  rw [sub_self x (by unfold kn at h; simpa using h)]
  rfl
set_option maxHeartbeats 1000000 in
theorem known_one (x : Nat) (w : World) : Calls Try.prog 19 #[.float .f64 x] w fun e w' => e = .returned (.bool (kn x)) ∧ Below w.heap.size w w' := by
  have hS : ∀ w, (binOp .sub 24 (.float .f64 x) (.float .f64 x)).run Try.prog w = .ok (.float .f64 (opB .sub x x w)) (w.drewN (opD .sub x x)) := fun w => run_op Try.prog .sub arSub 24 x x w
  have BB : Hid (Below w.heap.size w (w.drewN (opD .sub x x))) := (Below.refl _ _).trans ⟨rfl, rfl, rfl, Nat.le_refl _, fun _ _ => rfl⟩
  have ho : (ord (opB .sub x x w) 0 == some .eq) = kn x := by
    unfold opB kn
    by_cases hk : rng x < 9218868437227405312
    · have e : floatBits .sub .f64 x x = some 0 := sub_self x hk
      rw [e, decide_eq_true hk]
      show (Ieee.double.order 0 0 == some .eq) = true
      decide +kernel
    · have e : floatBits .sub .f64 x x = none := sub_self_none x (by omega)
      rw [e, decide_eq_false hk]
      have := (cut_nan x x (w.tape w.drawn (.nanBits .f64 x x))).1
      unfold nan at this
      show (Ieee.double.order _ 0 == some .eq) = false
      rw [order_nan _ 0 (Or.inl (by simpa using this))]
      rfl
  have HO : Hid ((FloatKind.f64.format.order (opB .sub x x w) 0 == some .eq) = kn x) := ho
  clear ho
  go_enter Try.func19, Try.ntmps19
  go_wp2_with fail
  go_ret
  exact ⟨by rw [← HO.out]; rfl, BB.out⟩
set_option maxHeartbeats 1000000 in
theorem known_any (a b : Nat) (w : World) : Calls Try.prog 11 #[.agg #[.float .f64 a, .float .f64 b]] w fun e w' => e = .returned (.bool (kn a && kn b)) ∧ Below w.heap.size w w' := by
  obtain ⟨w0, hw0⟩ : ∃ w0, w0 = w.alloc (.cells #[.float .f64 a, .float .f64 b] 26) := ⟨_, rfl⟩
  have HW0 : Hid (w0 = w.alloc (.cells #[.float .f64 a, .float .f64 b] 26)) := hw0
  have B0 : Hid (Below w.heap.size w w0) := (by show Below _ _ _; rw [hw0]; exact (Below.refl _ _).alloc (Nat.le_refl _) _)
  have c0 : w0.cell? ⟨w.heap.size, 0, none⟩ = some (.float .f64 a) := by rw [hw0]; simp [go_sem]
  have c1 : w0.cell? ⟨w.heap.size, 1, none⟩ = some (.float .f64 b) := by rw [hw0]; simp [go_sem]
  have lt : w.heap.size < w0.heap.size := by rw [hw0]; simp
  obtain ⟨q0, hq0⟩ : ∃ q, q = kn a := ⟨_, rfl⟩
  obtain ⟨q1, hq1⟩ : ∃ q, q = kn b := ⟨_, rfl⟩
  have C0 : Hid (∀ w : World, Calls Try.prog 19 #[.float .f64 a] w fun e w' => e = .returned (.bool q0) ∧ Below w.heap.size w w') := fun w => hq0 ▸ known_one a w
  have C1 : Hid (∀ w : World, Calls Try.prog 19 #[.float .f64 b] w fun e w' => e = .returned (.bool q1) ∧ Below w.heap.size w w') := fun w => hq1 ▸ known_one b w
  rw [← hq0, ← hq1]
  clear hq0 hq1 hw0
  go_enter Try.func11, Try.ntmps11
  go_wp2_with fail
  rw [← HW0.out]
  refine (C0.out _).mono ?_
  rintro e w1 ⟨rfl, hb⟩
  have B1 : Hid (Below w.heap.size w w1) := B0.out.trans (hb.mono B0.out.size)
  have d1 : w1.cell? ⟨w.heap.size, 1, none⟩ = some (.float .f64 b) := (hb.cell (p := ⟨w.heap.size, 1, none⟩) lt).trans c1
  clear hb c0 c1 lt HW0
  cases q0
  · go_wp2_with fail
    go_ret
    exact ⟨rfl, B1.out⟩
  · go_wp2_with fail
    refine (C1.out _).mono ?_
    rintro e w2 ⟨rfl, hb⟩
    have B2 : Hid (Below w.heap.size w w2) := B1.out.trans (hb.mono B1.out.size)
    clear hb
    go_wp2_with fail
    go_ret
    exact ⟨rfl, B2.out⟩
end Go.Proofs.Ythdhjinmjneenaa.Flt
