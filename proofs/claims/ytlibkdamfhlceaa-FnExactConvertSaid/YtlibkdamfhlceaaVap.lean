/- Vapour, in the program and in its model: both tell the same but for which missing number it is. -/
import Derived.Test.YtlibkdamfhlceaaCn
import Derived.Laws.Cover2
import Derived.WalkSmall
namespace Go.Proofs.Ytlibkdamfhlceaa.Flt
open Go.ChangeShapes Go.WideShapes Go.ChangeAt Go.RowKit

theorem run_store_float {P : Program} (w : World) (a : Addr) (m : Mode) (k : FloatKind) (b : Nat) : (store a (.float k b) m).run P w = stored P w a (.float k b) m := run_store P w a _ m rfl
attribute [local go_sem] run_store_float

theorem arAdd : Arith .add := .inl rfl
theorem arSub : Arith .sub := .inr (.inl rfl)
theorem arMul : Arith .mul := .inr (.inr (.inl rfl))
theorem arQuo : Arith .quo := .inr (.inr (.inr rfl))

set_option maxHeartbeats 400000 in
theorem none_any (w : World) : Calls Try.prog 25 #[] w fun e w' => ∃ b, e = .returned (.float .f64 b) ∧ cn b = qn ∧ b < 18446744073709551616 ∧ w' = w.drew := by
  obtain ⟨b, hb, hl, hrun⟩ := run_nan Try.prog .quo 22 0 0 (Or.inr (Or.inr (Or.inr rfl))) rfl w
  have HN : Hid (cn b = qn) := cn_nan (decide_eq_true hb)
  have HL : Hid (b < 18446744073709551616) := hl
  clear hb hl
  go_enter Try.func25, Try.ntmps25
  go_wp2
  go_ret
  exact ⟨b, rfl, HN.out, HL.out, rfl⟩

theorem run_from (w : World) : (callFunc 35 #[.int .u64 9221120237041090561]).run Try.prog w = .ok (.value (.float .f64 9221120237041090561)) w := by kernel_rfl
set_option maxHeartbeats 400000 in
theorem nan_any (w : World) : Calls Try.prog 27 #[] w fun e w' => e = .returned (.float .f64 qn) ∧ w' = w := by
  have h := run_from
  go_enter Try.func27, Try.ntmps27
  go_wp2
  go_ret
  exact ⟨rfl, rfl⟩

def inR (t : Nat) : Bool := (ord t 13855605728582041600 == some .gt || ord t 13855605728582041600 == some .eq) && (ord t 4632233691727265792 == some .lt || ord t 4632233691727265792 == some .eq)
def co (k : Nat) : Nat := match k with
  | 0 => 4491732861304072521
  | 1 => 4524267740276402943
  | 2 => 4553525207041591613
  | 3 => 4579390933518564651
  | 4 => 4601663741181105082
  | _ => 4618562789834491187
def vh (t : Nat) : Nat → Nat
  | 0 => 4454304567055758550
  | k + 1 => opF .add (opF .mul t (vh t k)) (co k)
/-- What Vapour tells, of a number that is told but for which missing one it is. -/
def vap (t : Nat) : Nat := if inR t then vh t 6 else qn
theorem co_cn : ∀ k, cn (co k) = co k
  | 0 => by decide +kernel
  | 1 => by decide +kernel
  | 2 => by decide +kernel
  | 3 => by decide +kernel
  | 4 => by decide +kernel
  | _ + 5 => by show cn 4618562789834491187 = 4618562789834491187; decide +kernel
theorem vh_step (t b k : Nat) (h : cn b = vh (cn t) k) (c : Nat) (hc : c = co k) (w w' : World) : cn (opB .add (opB .mul t b w) c w') = vh (cn t) (k + 1) := by
  rw [cn_op, cn_op, h, hc, co_cn]; rfl
theorem vh_step' (t b k : Nat) (h : cn b = vh (cn t) k) (c : Nat) (hc : c = co k) (w w' : World) : cn (opB .add c (opB .mul t b w) w') = vh (cn t) (k + 1) := by
  rw [cn_op, cn_op, h, hc, co_cn, add_comm]; rfl
theorem vh0 (t : Nat) : cn 4454304567055758550 = vh t 0 := by show cn 4454304567055758550 = 4454304567055758550; decide +kernel
theorem drewN_drewN (w : World) (m n : Nat) : (w.drewN m).drewN n = w.drewN (m + n) := by unfold World.drewN; simp [Nat.add_assoc]

set_option maxHeartbeats 4000000 in
theorem ivap_in (t : Nat) (w : World) (h1 : (ord t 13855605728582041600 == some .gt || ord t 13855605728582041600 == some .eq) = true) (h2 : (ord t 4632233691727265792 == some .lt || ord t 4632233691727265792 == some .eq) = true) :
    Calls Try.prog 13 #[.float .f64 t] w fun e w' => ∃ b, e = .returned (.float .f64 b) ∧ cn b = vh (cn t) 6 ∧ b < 18446744073709551616 ∧ Below w.heap.size w w' := by
  have ha : ∀ x y w, (binOp .add 22 (.float .f64 x) (.float .f64 y)).run Try.prog w = .ok (.float .f64 (opB .add x y w)) (w.drewN (opD .add x y)) := fun x y w => run_op Try.prog .add arAdd 22 x y w
  have hm : ∀ x y w, (binOp .mul 22 (.float .f64 x) (.float .f64 y)).run Try.prog w = .ok (.float .f64 (opB .mul x y w)) (w.drewN (opD .mul x y)) := fun x y w => run_op Try.prog .mul arMul 22 x y w
  have i0 : ∀ w, (Instr.index 48 (.agg #[.float .f64 4491732861304072521, .float .f64 4524267740276402943, .float .f64 4553525207041591613, .float .f64 4579390933518564651, .float .f64 4601663741181105082, .float .f64 4618562789834491187]) (.int .i64 0)).run Try.prog w = .ok (.float .f64 4491732861304072521) w := fun _ => by kernel_rfl
  have i1 : ∀ w, (Instr.index 48 (.agg #[.float .f64 4491732861304072521, .float .f64 4524267740276402943, .float .f64 4553525207041591613, .float .f64 4579390933518564651, .float .f64 4601663741181105082, .float .f64 4618562789834491187]) (.int .i64 1)).run Try.prog w = .ok (.float .f64 4524267740276402943) w := fun _ => by kernel_rfl
  have i2 : ∀ w, (Instr.index 48 (.agg #[.float .f64 4491732861304072521, .float .f64 4524267740276402943, .float .f64 4553525207041591613, .float .f64 4579390933518564651, .float .f64 4601663741181105082, .float .f64 4618562789834491187]) (.int .i64 2)).run Try.prog w = .ok (.float .f64 4553525207041591613) w := fun _ => by kernel_rfl
  have i3 : ∀ w, (Instr.index 48 (.agg #[.float .f64 4491732861304072521, .float .f64 4524267740276402943, .float .f64 4553525207041591613, .float .f64 4579390933518564651, .float .f64 4601663741181105082, .float .f64 4618562789834491187]) (.int .i64 3)).run Try.prog w = .ok (.float .f64 4579390933518564651) w := fun _ => by kernel_rfl
  have i4 : ∀ w, (Instr.index 48 (.agg #[.float .f64 4491732861304072521, .float .f64 4524267740276402943, .float .f64 4553525207041591613, .float .f64 4579390933518564651, .float .f64 4601663741181105082, .float .f64 4618562789834491187]) (.int .i64 4)).run Try.prog w = .ok (.float .f64 4601663741181105082) w := fun _ => by kernel_rfl
  have i5 : ∀ w, (Instr.index 48 (.agg #[.float .f64 4491732861304072521, .float .f64 4524267740276402943, .float .f64 4553525207041591613, .float .f64 4579390933518564651, .float .f64 4601663741181105082, .float .f64 4618562789834491187]) (.int .i64 5)).run Try.prog w = .ok (.float .f64 4618562789834491187) w := fun _ => by kernel_rfl
  go_enter Try.func13, Try.ntmps13
  go_wp2
  go_loopw [4, 6, 17] (fun s _ i wr => ∃ k b : Nat, k ≤ 6 ∧ i = .int .i64 k ∧ s = .float .f64 b ∧ Hid (cn b = vh (cn t) k ∧ b < 18446744073709551616) ∧ Hid (Below w.heap.size w wr)) (fun _ _ i _ => 6 - (intOf i).toNat)
  case atStart => exact ⟨0, _, by omega, rfl, rfl, ⟨vh0 _, by omega⟩, (Below.refl _ _).alloc (Nat.le_refl _) _⟩
  case round =>
    obtain ⟨k, b, hk, rfl, rfl, HB, HW⟩ := hrel
    by_cases hlt : k < 6
    · have key : k = 0 ∨ k = 1 ∨ k = 2 ∨ k = 3 ∨ k = 4 ∨ k = 5 := by omega
      rcases key with rfl | rfl | rfl | rfl | rfl | rfl
      · go_wp2
        go_round
        case rel => exact ⟨1, _, by omega, rfl, rfl, ⟨vh_step t b 0 HB.out.1 _ rfl _ _, op_lt _ _ _ _⟩, below_drewN HW.out _⟩
        case measure => simp [intOf]
      · go_wp2
        go_round
        case rel => exact ⟨2, _, by omega, rfl, rfl, ⟨vh_step t b 1 HB.out.1 _ rfl _ _, op_lt _ _ _ _⟩, below_drewN HW.out _⟩
        case measure => simp [intOf]
      · go_wp2
        go_round
        case rel => exact ⟨3, _, by omega, rfl, rfl, ⟨vh_step t b 2 HB.out.1 _ rfl _ _, op_lt _ _ _ _⟩, below_drewN HW.out _⟩
        case measure => simp [intOf]
      · go_wp2
        go_round
        case rel => exact ⟨4, _, by omega, rfl, rfl, ⟨vh_step t b 3 HB.out.1 _ rfl _ _, op_lt _ _ _ _⟩, below_drewN HW.out _⟩
        case measure => simp [intOf]
      · go_wp2
        go_round
        case rel => exact ⟨5, _, by omega, rfl, rfl, ⟨vh_step t b 4 HB.out.1 _ rfl _ _, op_lt _ _ _ _⟩, below_drewN HW.out _⟩
        case measure => simp [intOf]
      · go_wp2
        go_round
        case rel => exact ⟨6, _, by omega, rfl, rfl, ⟨vh_step t b 5 HB.out.1 _ rfl _ _, op_lt _ _ _ _⟩, below_drewN HW.out _⟩
        case measure => simp [intOf]
    · obtain rfl : k = 6 := by omega
      go_wp2
      go_ret
      exact ⟨b, rfl, HB.out.1, HB.out.2, HW.out⟩

set_option maxHeartbeats 4000000 in
theorem svap_in (t : Nat) (w : World) (h1 : (ord t 13855605728582041600 == some .gt || ord t 13855605728582041600 == some .eq) = true) (h2 : (ord t 4632233691727265792 == some .lt || ord t 4632233691727265792 == some .eq) = true) :
    Calls Try.prog 12 #[.float .f64 t] w fun e w' => ∃ b, e = .returned (.float .f64 b) ∧ cn b = vh (cn t) 6 ∧ b < 18446744073709551616 ∧ Below w.heap.size w w' := by
  have ha : ∀ x y w, (binOp .add 22 (.float .f64 x) (.float .f64 y)).run Try.prog w = .ok (.float .f64 (opB .add x y w)) (w.drewN (opD .add x y)) := fun x y w => run_op Try.prog .add arAdd 22 x y w
  have hm : ∀ x y w, (binOp .mul 22 (.float .f64 x) (.float .f64 y)).run Try.prog w = .ok (.float .f64 (opB .mul x y w)) (w.drewN (opD .mul x y)) := fun x y w => run_op Try.prog .mul arMul 22 x y w
  go_enter Try.func12, Try.ntmps12
  go_wp2
  go_loopw [4, 5] (fun s i wr => ∃ k b m : Nat, k ≤ 6 ∧ i = .int .i64 (5 - (k : Int)) ∧ s = .float .f64 b ∧ Hid (cn b = vh (cn t) k ∧ b < 18446744073709551616) ∧ wr = (w.alloc (.cells #[.float .f64 4618562789834491187, .float .f64 4601663741181105082, .float .f64 4579390933518564651, .float .f64 4553525207041591613, .float .f64 4524267740276402943, .float .f64 4491732861304072521, .float .f64 4454304567055758550] 22)).drewN m) (fun _ i _ => (intOf i + 1).toNat)
  case atStart => exact ⟨0, _, 0, by omega, rfl, rfl, ⟨vh0 _, by omega⟩, rfl⟩
  case round =>
    obtain ⟨k, b, m, hk, rfl, rfl, HB, rfl⟩ := hrel
    by_cases hlt : k < 6
    · have key : k = 0 ∨ k = 1 ∨ k = 2 ∨ k = 3 ∨ k = 4 ∨ k = 5 := by omega
      rcases key with rfl | rfl | rfl | rfl | rfl | rfl
      · go_wp2
        go_round
        case rel => exact ⟨1, _, _, by omega, rfl, rfl, ⟨vh_step' t b 0 HB.out.1 _ rfl _ _, op_lt _ _ _ _⟩, rfl⟩
        case measure => simp [intOf]
      · go_wp2
        go_round
        case rel => exact ⟨2, _, _, by omega, rfl, rfl, ⟨vh_step' t b 1 HB.out.1 _ rfl _ _, op_lt _ _ _ _⟩, rfl⟩
        case measure => simp [intOf]
      · go_wp2
        go_round
        case rel => exact ⟨3, _, _, by omega, rfl, rfl, ⟨vh_step' t b 2 HB.out.1 _ rfl _ _, op_lt _ _ _ _⟩, rfl⟩
        case measure => simp [intOf]
      · go_wp2
        go_round
        case rel => exact ⟨4, _, _, by omega, rfl, rfl, ⟨vh_step' t b 3 HB.out.1 _ rfl _ _, op_lt _ _ _ _⟩, rfl⟩
        case measure => simp [intOf]
      · go_wp2
        go_round
        case rel => exact ⟨5, _, _, by omega, rfl, rfl, ⟨vh_step' t b 4 HB.out.1 _ rfl _ _, op_lt _ _ _ _⟩, rfl⟩
        case measure => simp [intOf]
      · go_wp2
        go_round
        case rel => exact ⟨6, _, _, by omega, rfl, rfl, ⟨vh_step' t b 5 HB.out.1 _ rfl _ _, op_lt _ _ _ _⟩, rfl⟩
        case measure => simp [intOf]
    · obtain rfl : k = 6 := by omega
      go_wp2
      go_ret
      exact ⟨b, rfl, HB.out.1, HB.out.2, below_drewN ((Below.refl _ _).alloc (Nat.le_refl _) _) _⟩
end Go.Proofs.Ytlibkdamfhlceaa.Flt
