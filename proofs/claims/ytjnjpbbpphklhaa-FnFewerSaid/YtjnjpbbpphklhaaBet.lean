/- Between, in the program and in its model. -/
import Derived.Test.YtjnjpbbpphklhaaNanC
import Derived.Deep.RegionWith
import Derived.Deep.WholeRow
import Derived.Deep.RegionHeld3
import Derived.Deep.DrawnRows
import Derived.Deep.Cut
import Derived.Deep.DeepCutAuto
import Derived.Deep.DeepMust
namespace Go.Proofs.Ytjnjpbbpphklhaa.Flt
open Go.ChangeShapes Go.WideShapes Go.ChangeAt Go.RowKit
attribute [local go_sem] run_store_float

abbrev lv (p : Int) (t : Nat) : Value := .agg #[.int .i64 p, .float .f64 t]
def inB (n l h : Int) : Bool := decide (l ≤ n) && decide (n ≤ h)
set_option maxHeartbeats 400000 in
theorem within_any (n l h : Int) (w : World) : Calls Try.prog 24 #[.int .i64 n, .int .i64 l, .int .i64 h] w fun e w' => e = .returned (.bool (inB n l h)) ∧ w' = w := by
  unfold inB
  cases h1 : decide (l ≤ n)
  · have i1 : ¬ l ≤ n := by simpa using h1
    go_enter Try.func24, Try.ntmps24
    go_wp2
    go_ret
    exact ⟨rfl, rfl⟩
  · have i1 : l ≤ n := by simpa using h1
    go_enter Try.func24, Try.ntmps24
    go_wp2
    go_ret
    exact ⟨rfl, rfl⟩
set_option maxHeartbeats 400000 in
theorem in_any (n l h : Int) (w : World) : Calls Try.prog 32 #[.int .i64 n, .int .i64 l, .int .i64 h] w fun e w' => e = .returned (.bool (inB n l h)) ∧ w' = w := by
  unfold inB
  cases h1 : decide (l ≤ n)
  · have i1 : ¬ l ≤ n := by simpa using h1
    go_enter Try.func32, Try.ntmps32
    go_wp2
    go_ret
    exact ⟨rfl, rfl⟩
  · have i1 : l ≤ n := by simpa using h1
    go_enter Try.func32, Try.ntmps32
    go_wp2
    go_ret
    exact ⟨rfl, rfl⟩

def ap (a b : Int) : Int := if a ≤ b then b - a else a - b
def lies (a b p : Int) : Bool := inB a (-12000) 12000 && (inB b (-12000) 12000 && (decide (ap a b ≤ 12000) && (decide ((if a ≤ b then a else b) < p) && decide (p < (if a ≤ b then b else a)))))

set_option maxHeartbeats 1000000 in
theorem apart_any (a b : Int) (w : World) (ha : inB a (-12000) 12000 = true) (hb : inB b (-12000) 12000 = true) : Calls Try.prog 40 #[.int .i64 a, .int .i64 b] w fun e w' => e = .returned (.int .i64 (ap a b)) ∧ w' = w := by
  unfold inB at ha hb
  simp at ha hb
  obtain ⟨a1, a2⟩ := ha
  obtain ⟨b1, b2⟩ := hb
  have H : Hid (ap a b = if a ≤ b then b - a else a - b) := rfl
  go_enter Try.func40, Try.ntmps40
  go_wp2
  all_goals
    go_ret
    exact ⟨by rw [H.out]; split <;> simp <;> omega, rfl⟩

set_option maxHeartbeats 1000000 in
theorem lies_any (a b p : Int) (w : World) : Calls Try.prog 35 #[.int .i64 a, .int .i64 b, .int .i64 p] w fun e w' => e = .returned (.bool (lies a b p)) ∧ w' = w := by
  obtain ⟨r, hr⟩ : ∃ r, lies a b p = r := ⟨_, rfl⟩
  rw [hr]
  have HR : Hid (lies a b p = r) := hr
  have HU : Hid (lies a b p = (inB a (-12000) 12000 && (inB b (-12000) 12000 && (decide (ap a b ≤ 12000) && (decide ((if a ≤ b then a else b) < p) && decide (p < (if a ≤ b then b else a))))))) := rfl
  clear hr
  cases h1 : inB a (-12000) 12000
  · have E : Hid (r = false) := (by show _ = _; rw [← HR.out, HU.out, h1]; rfl)
    go_enter Try.func35, Try.ntmps35
    go_wp2_with (go_at_call 24; refine (within_any _ _ _ _).mono ?_; rintro e w' ⟨rfl, rfl⟩; rw [h1])
    go_ret
    exact ⟨by rw [E.out]; rfl, rfl⟩
  cases h2 : inB b (-12000) 12000
  · have E : Hid (r = false) := (by show _ = _; rw [← HR.out, HU.out, h1, h2]; rfl)
    go_enter Try.func35, Try.ntmps35
    go_wp2_with (go_at_call 24; refine (within_any _ _ _ _).mono ?_; rintro e w' ⟨rfl, rfl⟩; first | rw [h1] | rw [h2])
    go_ret
    exact ⟨by rw [E.out]; rfl, rfl⟩
  have H1 : Hid (inB a (-12000) 12000 = true) := h1
  have H2 : Hid (inB b (-12000) 12000 = true) := h2
  cases h3 : decide (ap a b ≤ 12000)
  · have i3 : ¬ ap a b ≤ 12000 := by simpa using h3
    have E : Hid (r = false) := (by show _ = _; rw [← HR.out, HU.out, h1, h2, h3]; rfl)
    go_enter Try.func35, Try.ntmps35
    go_wp2_with (first
      | (go_at_call 24; refine (within_any _ _ _ _).mono ?_; rintro e w' ⟨rfl, rfl⟩; first | rw [h1] | rw [h2])
      | (go_at_call 40; refine (apart_any _ _ _ H1.out H2.out).mono ?_; rintro e w' ⟨rfl, rfl⟩))
    go_ret
    exact ⟨by rw [E.out]; rfl, rfl⟩
  have i3 : ap a b ≤ 12000 := by simpa using h3
  have E : Hid (r = (decide ((if a ≤ b then a else b) < p) && decide (p < (if a ≤ b then b else a)))) := (by show _ = _; rw [← HR.out, HU.out, h1, h2, h3]; rfl)
  go_enter Try.func35, Try.ntmps35
  go_wp2_with (first
    | (go_at_call 24; refine (within_any _ _ _ _).mono ?_; rintro e w' ⟨rfl, rfl⟩; first | rw [h1] | rw [h2])
    | (go_at_call 40; refine (apart_any _ _ _ H1.out H2.out).mono ?_; rintro e w' ⟨rfl, rfl⟩))
  all_goals
    go_ret
    refine ⟨?_, rfl⟩
    rw [E.out]
    by_cases hab : a ≤ b <;> simp [hab] <;> first | omega | (rw [Bool.eq_iff_iff]; simp; omega)

theorem cn_qn : cn qn = qn := by decide +kernel
def fi (n : Int) : Nat := floatOfInt .f64 n
def bet (a : Int) (s : Nat) (b : Int) (t : Nat) (p : Int) : Nat :=
  if p = a then cn s else if p = b then cn t else if lies a b p then opF .add (cn s) (opF .mul (opF .sub (cn t) (cn s)) (opF .quo (cn (fi (a - p))) (cn (fi (a - b))))) else qn

theorem lies_fit (a b p : Int) (h : lies a b p = true) : (-12000 ≤ a ∧ a ≤ 12000) ∧ (-12000 ≤ b ∧ b ≤ 12000) ∧ (-12000 ≤ p ∧ p ≤ 12000) ∧ (-12000 ≤ a - b ∧ a - b ≤ 12000) ∧ (a < p ∧ p < b ∨ b < p ∧ p < a) := by
  unfold lies inB ap at h
  simp at h
  obtain ⟨⟨h1, h2⟩, ⟨h3, h4⟩, h5, h6, h7⟩ := h
  split at h5 <;> simp_all <;> omega
theorem lies_not (a b p : Int) (h : lies a b p = false) (h1 : p ≠ a) (h2 : p ≠ b) : inB a (-12000) 12000 = false ∨ (inB a (-12000) 12000 = true ∧ inB b (-12000) 12000 = false) ∨ (inB a (-12000) 12000 = true ∧ inB b (-12000) 12000 = true ∧ inB p (-12000) 12000 = false) ∨ (inB a (-12000) 12000 = true ∧ inB b (-12000) 12000 = true ∧ inB p (-12000) 12000 = true ∧ inB (a - b) (-12000) 12000 = false) ∨ (inB a (-12000) 12000 = true ∧ inB b (-12000) 12000 = true ∧ inB p (-12000) 12000 = true ∧ inB (a - b) (-12000) 12000 = true ∧ (a < p ∧ b < p ∨ p < a ∧ p < b)) := by
  cases c1 : inB a (-12000) 12000
  · exact .inl rfl
  cases c2 : inB b (-12000) 12000
  · exact .inr (.inl ⟨rfl, rfl⟩)
  cases c3 : inB p (-12000) 12000
  · exact .inr (.inr (.inl ⟨rfl, rfl, rfl⟩))
  cases c4 : inB (a - b) (-12000) 12000
  · exact .inr (.inr (.inr (.inl ⟨rfl, rfl, rfl, rfl⟩)))
  · refine .inr (.inr (.inr (.inr ⟨rfl, rfl, rfl, rfl, ?_⟩)))
    unfold lies at h
    rw [c1, c2] at h
    unfold inB ap at *
    simp at *
    by_cases hab : a ≤ b
    · simp [hab] at h
      by_cases q1 : a < p
      · have := h (by omega) q1; left; omega
      · right; omega
    · simp [hab] at h
      by_cases q1 : b < p
      · have := h (by omega) q1; left; omega
      · right; omega

set_option maxHeartbeats 1000000 in
theorem sbet (a : Int) (s : Nat) (b : Int) (t : Nat) (p : Int) (w : World) : Calls Try.prog 39 #[lv a s, lv b t, .int .i64 p] w fun e w' => ∃ x, e = .returned (.float .f64 x) ∧ cn x = bet a s b t p ∧ Below w.heap.size w w' := by
  have hA : ∀ x y w, (binOp .add 25 (.float .f64 x) (.float .f64 y)).run Try.prog w = .ok (.float .f64 (opB .add x y w)) (w.drewN (opD .add x y)) := fun x y w => run_op Try.prog .add arAdd 23 x y w
  have hS : ∀ x y w, (binOp .sub 25 (.float .f64 x) (.float .f64 y)).run Try.prog w = .ok (.float .f64 (opB .sub x y w)) (w.drewN (opD .sub x y)) := fun x y w => run_op Try.prog .sub arSub 23 x y w
  have hM : ∀ x y w, (binOp .mul 25 (.float .f64 x) (.float .f64 y)).run Try.prog w = .ok (.float .f64 (opB .mul x y w)) (w.drewN (opD .mul x y)) := fun x y w => run_op Try.prog .mul arMul 23 x y w
  have hQ : ∀ x y w, (binOp .quo 25 (.float .f64 x) (.float .f64 y)).run Try.prog w = .ok (.float .f64 (opB .quo x y w)) (w.drewN (opD .quo x y)) := fun x y w => run_op Try.prog .quo arQuo 23 x y w
  by_cases h1 : p = a
  · have E : Hid (bet a s b t p = cn s) := (by show _ = _; unfold bet; rw [if_pos h1])
    subst h1
    go_enter Try.func39, Try.ntmps39
    go_wp2
    go_ret
    exact ⟨s, rfl, E.out.symm, ((Below.refl _ _).alloc (Nat.le_refl _) _).alloc (by simp) _⟩
  by_cases h2 : p = b
  · have E : Hid (bet a s b t p = cn t) := (by show _ = _; unfold bet; rw [if_neg h1, if_pos h2])
    subst h2
    go_enter Try.func39, Try.ntmps39
    go_wp2
    go_ret
    exact ⟨t, rfl, E.out.symm, ((Below.refl _ _).alloc (Nat.le_refl _) _).alloc (by simp) _⟩
  cases h3 : lies a b p
  · have E : Hid (bet a s b t p = qn) := (by show _ = _; unfold bet; rw [if_neg h1, if_neg h2, h3]; rfl)
    rcases lies_not a b p h3 h1 h2 with i1 | ⟨i1, i2⟩ | ⟨i1, i2, i3⟩ | ⟨i1, i2, i3, i4⟩ | ⟨i1, i2, i3, i4, ⟨q1, q2⟩ | ⟨q1, q2⟩⟩
    · have EQ := E
      clear h3
      go_enter Try.func39, Try.ntmps39
      go_wp2_with (first | (go_at_call 32; refine (in_any _ _ _ _).mono ?_; rintro e w' ⟨rfl, rfl⟩; first | rw [i1]) | (go_at_call 27; refine (none_any _).mono ?_; rintro e w' ⟨z, rfl, hz, _, rfl⟩; have HZ : Hid (cn z = qn) := hz; clear hz))
      go_ret
      exact ⟨z, rfl, HZ.out.trans E.out.symm, (((Below.refl _ _).alloc (Nat.le_refl _) _).alloc (by simp) _).drew⟩
    · have EQ := E
      clear h3
      go_enter Try.func39, Try.ntmps39
      go_wp2_with (first | (go_at_call 32; refine (in_any _ _ _ _).mono ?_; rintro e w' ⟨rfl, rfl⟩; first | rw [i1] | rw [i2]) | (go_at_call 27; refine (none_any _).mono ?_; rintro e w' ⟨z, rfl, hz, _, rfl⟩; have HZ : Hid (cn z = qn) := hz; clear hz))
      go_ret
      exact ⟨z, rfl, HZ.out.trans E.out.symm, (((Below.refl _ _).alloc (Nat.le_refl _) _).alloc (by simp) _).drew⟩
    · have EQ := E
      clear h3
      go_enter Try.func39, Try.ntmps39
      go_wp2_with (first | (go_at_call 32; refine (in_any _ _ _ _).mono ?_; rintro e w' ⟨rfl, rfl⟩; first | rw [i1] | rw [i2] | rw [i3]) | (go_at_call 27; refine (none_any _).mono ?_; rintro e w' ⟨z, rfl, hz, _, rfl⟩; have HZ : Hid (cn z = qn) := hz; clear hz))
      go_ret
      exact ⟨z, rfl, HZ.out.trans E.out.symm, (((Below.refl _ _).alloc (Nat.le_refl _) _).alloc (by simp) _).drew⟩
    · have EQ := E
      clear h3
      have z1 := i1; have z2 := i2; unfold inB at z1 z2; simp at z1 z2; go_enter Try.func39, Try.ntmps39
      go_wp2_with (first | (go_at_call 32; refine (in_any _ _ _ _).mono ?_; rintro e w' ⟨rfl, rfl⟩; first | rw [i1] | rw [i2] | rw [i3] | rw [i4]) | (go_at_call 27; refine (none_any _).mono ?_; rintro e w' ⟨z, rfl, hz, _, rfl⟩; have HZ : Hid (cn z = qn) := hz; clear hz))
      go_ret
      exact ⟨z, rfl, HZ.out.trans E.out.symm, (((Below.refl _ _).alloc (Nat.le_refl _) _).alloc (by simp) _).drew⟩
    · have EQ := E
      clear h3
      have z1 := i1; have z2 := i2; unfold inB at z1 z2; simp at z1 z2; have q3 : decide (p < b) = false := (by simp; omega); go_enter Try.func39, Try.ntmps39
      go_wp2_with (first | (go_at_call 32; refine (in_any _ _ _ _).mono ?_; rintro e w' ⟨rfl, rfl⟩; first | rw [i1] | rw [i2] | rw [i3] | rw [i4]) | (go_at_call 27; refine (none_any _).mono ?_; rintro e w' ⟨z, rfl, hz, _, rfl⟩; have HZ : Hid (cn z = qn) := hz; clear hz))
      go_ret
      exact ⟨z, rfl, HZ.out.trans E.out.symm, (((Below.refl _ _).alloc (Nat.le_refl _) _).alloc (by simp) _).drew⟩
    · have EQ := E
      clear h3
      have z1 := i1; have z2 := i2; unfold inB at z1 z2; simp at z1 z2; have q3 : decide (a < p) = false := (by simp; omega); go_enter Try.func39, Try.ntmps39
      go_wp2_with (first | (go_at_call 32; refine (in_any _ _ _ _).mono ?_; rintro e w' ⟨rfl, rfl⟩; first | rw [i1] | rw [i2] | rw [i3] | rw [i4]) | (go_at_call 27; refine (none_any _).mono ?_; rintro e w' ⟨z, rfl, hz, _, rfl⟩; have HZ : Hid (cn z = qn) := hz; clear hz))
      go_ret
      exact ⟨z, rfl, HZ.out.trans E.out.symm, (((Below.refl _ _).alloc (Nat.le_refl _) _).alloc (by simp) _).drew⟩
  · have E : Hid (bet a s b t p = opF .add (cn s) (opF .mul (opF .sub (cn t) (cn s)) (opF .quo (cn (fi (a - p))) (cn (fi (a - b)))))) := (by show _ = _; unfold bet; rw [if_neg h1, if_neg h2, h3]; rfl)
    obtain ⟨⟨a1, a2⟩, ⟨b1, b2⟩, ⟨p1, p2⟩, ⟨d1, d2⟩, hh⟩ := lies_fit a b p h3
    have i1 : inB a (-12000) 12000 = true := by unfold inB; simp; omega
    have i2 : inB b (-12000) 12000 = true := by unfold inB; simp; omega
    have i3 : inB p (-12000) 12000 = true := by unfold inB; simp; omega
    have i4 : inB (a - b) (-12000) 12000 = true := by unfold inB; simp; omega
    rcases hh with ⟨q1, q2⟩ | ⟨q1, q2⟩
    · skip
      go_enter Try.func39, Try.ntmps39
      go_wp2_with (go_at_call 32; refine (in_any _ _ _ _).mono ?_; rintro e w' ⟨rfl, rfl⟩; first | rw [i1] | rw [i2] | rw [i3] | rw [i4])
      go_ret
      exact ⟨_, rfl, by rw [cn_op, cn_op, cn_op, cn_op]; exact E.out.symm, below_drewN (((Below.refl _ _).alloc (Nat.le_refl _) _).alloc (by simp) _) _⟩
    · skip
      have q3 : decide (a < p) = false := (by simp; omega)
      have q4 : decide (p < b) = false := (by simp; omega)
      go_enter Try.func39, Try.ntmps39
      go_wp2_with (go_at_call 32; refine (in_any _ _ _ _).mono ?_; rintro e w' ⟨rfl, rfl⟩; first | rw [i1] | rw [i2] | rw [i3] | rw [i4])
      go_ret
      exact ⟨_, rfl, by rw [cn_op, cn_op, cn_op, cn_op]; exact E.out.symm, below_drewN (((Below.refl _ _).alloc (Nat.le_refl _) _).alloc (by simp) _) _⟩

set_option maxHeartbeats 1000000 in
theorem ibet (a : Int) (s : Nat) (b : Int) (t : Nat) (p : Int) (w : World) : Calls Try.prog 25 #[lv a s, lv b t, .int .i64 p] w fun e w' => ∃ x, e = .returned (.float .f64 x) ∧ cn x = bet a s b t p ∧ Below w.heap.size w w' := by
  have hA : ∀ x y w, (binOp .add 25 (.float .f64 x) (.float .f64 y)).run Try.prog w = .ok (.float .f64 (opB .add x y w)) (w.drewN (opD .add x y)) := fun x y w => run_op Try.prog .add arAdd 23 x y w
  have hS : ∀ x y w, (binOp .sub 25 (.float .f64 x) (.float .f64 y)).run Try.prog w = .ok (.float .f64 (opB .sub x y w)) (w.drewN (opD .sub x y)) := fun x y w => run_op Try.prog .sub arSub 23 x y w
  have hM : ∀ x y w, (binOp .mul 25 (.float .f64 x) (.float .f64 y)).run Try.prog w = .ok (.float .f64 (opB .mul x y w)) (w.drewN (opD .mul x y)) := fun x y w => run_op Try.prog .mul arMul 23 x y w
  have hQ : ∀ x y w, (binOp .quo 25 (.float .f64 x) (.float .f64 y)).run Try.prog w = .ok (.float .f64 (opB .quo x y w)) (w.drewN (opD .quo x y)) := fun x y w => run_op Try.prog .quo arQuo 23 x y w
  by_cases h1 : p = a
  · have E : Hid (bet a s b t p = cn s) := (by show _ = _; unfold bet; rw [if_pos h1])
    subst h1
    go_enter Try.func25, Try.ntmps25
    go_wp2
    go_ret
    exact ⟨s, rfl, E.out.symm, ((Below.refl _ _).alloc (Nat.le_refl _) _).alloc (by simp) _⟩
  by_cases h2 : p = b
  · have E : Hid (bet a s b t p = cn t) := (by show _ = _; unfold bet; rw [if_neg h1, if_pos h2])
    subst h2
    go_enter Try.func25, Try.ntmps25
    go_wp2
    go_ret
    exact ⟨t, rfl, E.out.symm, ((Below.refl _ _).alloc (Nat.le_refl _) _).alloc (by simp) _⟩
  cases h3 : lies a b p
  · have E : Hid (bet a s b t p = qn) := (by show _ = _; unfold bet; rw [if_neg h1, if_neg h2, h3]; rfl)
    go_enter Try.func25, Try.ntmps25
    go_wp2_with (first | (go_at_call 35; refine (lies_any _ _ _ _).mono ?_; rintro e w' ⟨rfl, rfl⟩; rw [h3]) | (go_at_call 23; refine (nan_any _).mono ?_; rintro e w' ⟨rfl, rfl⟩))
    go_ret
    exact ⟨qn, rfl, cn_qn.trans E.out.symm, ((Below.refl _ _).alloc (Nat.le_refl _) _).alloc (by simp) _⟩
  · have E : Hid (bet a s b t p = opF .add (cn s) (opF .mul (opF .sub (cn t) (cn s)) (opF .quo (cn (fi (a - p))) (cn (fi (a - b)))))) := (by show _ = _; unfold bet; rw [if_neg h1, if_neg h2, h3]; rfl)
    obtain ⟨⟨a1, a2⟩, ⟨b1, b2⟩, ⟨p1, p2⟩, ⟨d1, d2⟩, hh⟩ := lies_fit a b p h3
    go_enter Try.func25, Try.ntmps25
    go_wp2_with (go_at_call 35; refine (lies_any _ _ _ _).mono ?_; rintro e w' ⟨rfl, rfl⟩; rw [h3])
    go_ret
    exact ⟨_, rfl, by rw [cn_op, cn_op, cn_op, cn_op]; exact E.out.symm, below_drewN (((Below.refl _ _).alloc (Nat.le_refl _) _).alloc (by simp) _) _⟩
end Go.Proofs.Ytjnjpbbpphklhaa.Flt
