/- Beaufort, in the program and in its model; the law FnExactBeaufort walked. -/
import Derived.Test.YteofcckdeglnjaaRows
import Derived.Test.YteofcckdeglnjaaFlt
import Derived.WalkKit
import Derived.ProofKit
import Derived.WalkSpells
import Derived.WalkLawsBesides
import Derived.Below
import Derived.WalkSmall
import Derived.Laws.Cover2
namespace Go.Proofs.Yteofcckdeglnjaa.Flt
open Go.ChangeShapes Go.WideShapes Go.ChangeAt Go.RowKit

theorem run_store_float {P : Program} (w : World) (a : Addr) (m : Mode) (k : FloatKind) (b : Nat) : (store a (.float k b) m).run P w = stored P w a (.float k b) m := run_store P w a _ m rfl
attribute [local go_sem] run_store_float
abbrev ord (x y : Nat) : Option Ordering := FloatKind.f64.format.order x y
/-- The thirteen speeds. -/
def tb (k : Nat) : Nat := match k with
  | 0 => 0
  | 1 => 4599075939470750515
  | 2 => 4609884578576439706
  | 3 => 4614838538166547251
  | 4 => 4617878467915022336
  | 5 => 4620693217682128896
  | 6 => 4622269477551708570
  | 7 => 4624014622407314637
  | 8 => 4625534587281552179
  | 9 => 4626547897197710541
  | 10 => 4627589354611539968
  | 11 => 4628715254518382592
  | _ => 4629798933178718618
/-- Is the speed at least the k-th? -/
def ge (x k : Nat) : Bool := ord x (tb k) == some .gt || ord x (tb k) == some .eq
/-- How many of the first n are reached, less one. -/
def fo (x : Nat) : Nat → Int
  | 0 => -1
  | n + 1 => if ge x n then fo x n + 1 else fo x n
/-- The last of the first n that is reached. -/
def la (x : Nat) : Nat → Int
  | 0 => -1
  | n + 1 => if ge x n then (n : Int) else la x n
theorem fo_rng (x : Nat) : ∀ n, -1 ≤ fo x n ∧ fo x n < (n : Int)
  | 0 => by simp [fo]
  | n + 1 => by have := fo_rng x n; unfold fo; split <;> omega
theorem tb_up : ∀ k, k < 12 → key (tb k) < key (tb (k + 1)) ∧ rng (tb k) ≤ 9218868437227405312 ∧ rng (tb (k + 1)) ≤ 9218868437227405312 := by decide +kernel
theorem ge_key (x c : Nat) (hc : rng c ≤ 9218868437227405312) : (ord x c == some .gt || ord x c == some .eq) = (decide (rng x ≤ 9218868437227405312) && decide (key c ≤ key x)) := by
  by_cases hx : rng x ≤ 9218868437227405312
  · rw [show ord x c = some (compare (key x) (key c)) from order_key x c hx hc, decide_eq_true hx]
    by_cases h1 : key x < key c
    · rw [c_lt h1, decide_eq_false (by omega)]; rfl
    · by_cases h2 : key x = key c
      · rw [c_eq h2, decide_eq_true (by omega)]; rfl
      · rw [c_gt (by omega), decide_eq_true (by omega)]; rfl
  · rw [show ord x c = none from order_nan x c (Or.inl (by omega)), decide_eq_false hx]; rfl
theorem ge_down (x k : Nat) (hk : k < 12) (h : ge x (k + 1) = true) : ge x k = true := by
  obtain ⟨h1, h2, h3⟩ := tb_up k hk
  unfold ge at h ⊢
  rw [ge_key _ _ h3] at h
  rw [ge_key _ _ h2]
  simp only [Bool.and_eq_true, decide_eq_true_eq] at h ⊢
  exact ⟨h.1, by omega⟩
theorem fo_all (x : Nat) : ∀ n, n ≤ 12 → ge x n = true → fo x (n + 1) = n
  | 0, _, h => by simp [fo, h]
  | n + 1, hn, h => by
    have ih := fo_all x n (by omega) (ge_down x n (by omega) h)
    rw [fo, if_pos h, ih]; omega
theorem la_fo (x : Nat) : ∀ n, n ≤ 13 → la x n = fo x n
  | 0, _ => rfl
  | n + 1, hn => by
    by_cases h : ge x n = true
    · rw [fo_all x n (by omega) h, la, if_pos h]
    · rw [fo, la, if_neg h, if_neg h]; exact la_fo x n (by omega)
theorem fo_t {x k : Nat} (h : ge x k = true) : fo x (k + 1) = fo x k + 1 := by rw [fo, if_pos h]
theorem fo_f {x k : Nat} (h : ge x k = false) : fo x (k + 1) = fo x k := by rw [fo, h]; rfl
theorem la_t {x k : Nat} (h : ge x k = true) : la x (k + 1) = k := by rw [la, if_pos h]
theorem la_f {x k : Nat} (h : ge x k = false) : la x (k + 1) = la x k := by rw [la, h]; rfl
theorem la_rng (x : Nat) : ∀ n, -1 ≤ la x n ∧ la x n < (n : Int)
  | 0 => by simp [la]
  | n + 1 => by have := la_rng x n; unfold la; split <;> omega

set_option maxHeartbeats 4000000 in
theorem ibeau_any (x : Nat) (w : World) :
    Calls Try.prog 5 #[.float .f64 x] w fun e w' => e = .returned (.int .i64 (fo x 13)) ∧ Below w.heap.size w w' := by
  have i0 : ∀ w, (Instr.index 26 (.agg #[.float .f64 0, .float .f64 4599075939470750515, .float .f64 4609884578576439706, .float .f64 4614838538166547251, .float .f64 4617878467915022336, .float .f64 4620693217682128896, .float .f64 4622269477551708570, .float .f64 4624014622407314637, .float .f64 4625534587281552179, .float .f64 4626547897197710541, .float .f64 4627589354611539968, .float .f64 4628715254518382592, .float .f64 4629798933178718618]) (.int .i64 0)).run Try.prog w = .ok (.float .f64 0) w := fun _ => by kernel_rfl
  have i1 : ∀ w, (Instr.index 26 (.agg #[.float .f64 0, .float .f64 4599075939470750515, .float .f64 4609884578576439706, .float .f64 4614838538166547251, .float .f64 4617878467915022336, .float .f64 4620693217682128896, .float .f64 4622269477551708570, .float .f64 4624014622407314637, .float .f64 4625534587281552179, .float .f64 4626547897197710541, .float .f64 4627589354611539968, .float .f64 4628715254518382592, .float .f64 4629798933178718618]) (.int .i64 1)).run Try.prog w = .ok (.float .f64 4599075939470750515) w := fun _ => by kernel_rfl
  have i2 : ∀ w, (Instr.index 26 (.agg #[.float .f64 0, .float .f64 4599075939470750515, .float .f64 4609884578576439706, .float .f64 4614838538166547251, .float .f64 4617878467915022336, .float .f64 4620693217682128896, .float .f64 4622269477551708570, .float .f64 4624014622407314637, .float .f64 4625534587281552179, .float .f64 4626547897197710541, .float .f64 4627589354611539968, .float .f64 4628715254518382592, .float .f64 4629798933178718618]) (.int .i64 2)).run Try.prog w = .ok (.float .f64 4609884578576439706) w := fun _ => by kernel_rfl
  have i3 : ∀ w, (Instr.index 26 (.agg #[.float .f64 0, .float .f64 4599075939470750515, .float .f64 4609884578576439706, .float .f64 4614838538166547251, .float .f64 4617878467915022336, .float .f64 4620693217682128896, .float .f64 4622269477551708570, .float .f64 4624014622407314637, .float .f64 4625534587281552179, .float .f64 4626547897197710541, .float .f64 4627589354611539968, .float .f64 4628715254518382592, .float .f64 4629798933178718618]) (.int .i64 3)).run Try.prog w = .ok (.float .f64 4614838538166547251) w := fun _ => by kernel_rfl
  have i4 : ∀ w, (Instr.index 26 (.agg #[.float .f64 0, .float .f64 4599075939470750515, .float .f64 4609884578576439706, .float .f64 4614838538166547251, .float .f64 4617878467915022336, .float .f64 4620693217682128896, .float .f64 4622269477551708570, .float .f64 4624014622407314637, .float .f64 4625534587281552179, .float .f64 4626547897197710541, .float .f64 4627589354611539968, .float .f64 4628715254518382592, .float .f64 4629798933178718618]) (.int .i64 4)).run Try.prog w = .ok (.float .f64 4617878467915022336) w := fun _ => by kernel_rfl
  have i5 : ∀ w, (Instr.index 26 (.agg #[.float .f64 0, .float .f64 4599075939470750515, .float .f64 4609884578576439706, .float .f64 4614838538166547251, .float .f64 4617878467915022336, .float .f64 4620693217682128896, .float .f64 4622269477551708570, .float .f64 4624014622407314637, .float .f64 4625534587281552179, .float .f64 4626547897197710541, .float .f64 4627589354611539968, .float .f64 4628715254518382592, .float .f64 4629798933178718618]) (.int .i64 5)).run Try.prog w = .ok (.float .f64 4620693217682128896) w := fun _ => by kernel_rfl
  have i6 : ∀ w, (Instr.index 26 (.agg #[.float .f64 0, .float .f64 4599075939470750515, .float .f64 4609884578576439706, .float .f64 4614838538166547251, .float .f64 4617878467915022336, .float .f64 4620693217682128896, .float .f64 4622269477551708570, .float .f64 4624014622407314637, .float .f64 4625534587281552179, .float .f64 4626547897197710541, .float .f64 4627589354611539968, .float .f64 4628715254518382592, .float .f64 4629798933178718618]) (.int .i64 6)).run Try.prog w = .ok (.float .f64 4622269477551708570) w := fun _ => by kernel_rfl
  have i7 : ∀ w, (Instr.index 26 (.agg #[.float .f64 0, .float .f64 4599075939470750515, .float .f64 4609884578576439706, .float .f64 4614838538166547251, .float .f64 4617878467915022336, .float .f64 4620693217682128896, .float .f64 4622269477551708570, .float .f64 4624014622407314637, .float .f64 4625534587281552179, .float .f64 4626547897197710541, .float .f64 4627589354611539968, .float .f64 4628715254518382592, .float .f64 4629798933178718618]) (.int .i64 7)).run Try.prog w = .ok (.float .f64 4624014622407314637) w := fun _ => by kernel_rfl
  have i8 : ∀ w, (Instr.index 26 (.agg #[.float .f64 0, .float .f64 4599075939470750515, .float .f64 4609884578576439706, .float .f64 4614838538166547251, .float .f64 4617878467915022336, .float .f64 4620693217682128896, .float .f64 4622269477551708570, .float .f64 4624014622407314637, .float .f64 4625534587281552179, .float .f64 4626547897197710541, .float .f64 4627589354611539968, .float .f64 4628715254518382592, .float .f64 4629798933178718618]) (.int .i64 8)).run Try.prog w = .ok (.float .f64 4625534587281552179) w := fun _ => by kernel_rfl
  have i9 : ∀ w, (Instr.index 26 (.agg #[.float .f64 0, .float .f64 4599075939470750515, .float .f64 4609884578576439706, .float .f64 4614838538166547251, .float .f64 4617878467915022336, .float .f64 4620693217682128896, .float .f64 4622269477551708570, .float .f64 4624014622407314637, .float .f64 4625534587281552179, .float .f64 4626547897197710541, .float .f64 4627589354611539968, .float .f64 4628715254518382592, .float .f64 4629798933178718618]) (.int .i64 9)).run Try.prog w = .ok (.float .f64 4626547897197710541) w := fun _ => by kernel_rfl
  have i10 : ∀ w, (Instr.index 26 (.agg #[.float .f64 0, .float .f64 4599075939470750515, .float .f64 4609884578576439706, .float .f64 4614838538166547251, .float .f64 4617878467915022336, .float .f64 4620693217682128896, .float .f64 4622269477551708570, .float .f64 4624014622407314637, .float .f64 4625534587281552179, .float .f64 4626547897197710541, .float .f64 4627589354611539968, .float .f64 4628715254518382592, .float .f64 4629798933178718618]) (.int .i64 10)).run Try.prog w = .ok (.float .f64 4627589354611539968) w := fun _ => by kernel_rfl
  have i11 : ∀ w, (Instr.index 26 (.agg #[.float .f64 0, .float .f64 4599075939470750515, .float .f64 4609884578576439706, .float .f64 4614838538166547251, .float .f64 4617878467915022336, .float .f64 4620693217682128896, .float .f64 4622269477551708570, .float .f64 4624014622407314637, .float .f64 4625534587281552179, .float .f64 4626547897197710541, .float .f64 4627589354611539968, .float .f64 4628715254518382592, .float .f64 4629798933178718618]) (.int .i64 11)).run Try.prog w = .ok (.float .f64 4628715254518382592) w := fun _ => by kernel_rfl
  have i12 : ∀ w, (Instr.index 26 (.agg #[.float .f64 0, .float .f64 4599075939470750515, .float .f64 4609884578576439706, .float .f64 4614838538166547251, .float .f64 4617878467915022336, .float .f64 4620693217682128896, .float .f64 4622269477551708570, .float .f64 4624014622407314637, .float .f64 4625534587281552179, .float .f64 4626547897197710541, .float .f64 4627589354611539968, .float .f64 4628715254518382592, .float .f64 4629798933178718618]) (.int .i64 12)).run Try.prog w = .ok (.float .f64 4629798933178718618) w := fun _ => by kernel_rfl
  go_enter Try.func5, Try.ntmps5
  go_wp2
  go_loopw [4, 6, 9] (fun s _ i wr => ∃ (k : Nat) (f : Int), k ≤ 13 ∧ i = .int .i64 k ∧ s = .int .i64 f ∧ -1 ≤ f ∧ f ≤ 13 ∧ Hid (f = fo x k) ∧ Hid (Below w.heap.size w wr)) (fun _ _ i _ => 13 - (intOf i).toNat)
  case atStart => exact ⟨0, -1, by omega, rfl, rfl, by omega, by omega, rfl, (Below.refl _ _).alloc (Nat.le_refl _) _⟩
  case round =>
    obtain ⟨k, f, hk, rfl, rfl, hf0, hf1, HF, HW⟩ := hrel
    by_cases hlt : k < 13
    · have bb := fo_rng x (k + 1)
      have key : k = 0 ∨ k = 1 ∨ k = 2 ∨ k = 3 ∨ k = 4 ∨ k = 5 ∨ k = 6 ∨ k = 7 ∨ k = 8 ∨ k = 9 ∨ k = 10 ∨ k = 11 ∨ k = 12 := by omega
      rcases key with rfl | rfl | rfl | rfl | rfl | rfl | rfl | rfl | rfl | rfl | rfl | rfl | rfl
      · have BB : Hid (-1 ≤ fo x 1 ∧ fo x 1 < ((1 : Nat) : Int)) := bb
        clear bb
        cases hg : (ord x 0 == some .gt || ord x 0 == some .eq)
        · have HG : Hid (ge x 0 = false) := hg
          go_wp2
          go_round
          case rel => exact ⟨1, f, by omega, rfl, rfl, hf0, hf1, HF.out.trans (fo_f HG.out).symm, HW.out⟩
          case measure => simp [intOf]
        · have HG : Hid (ge x 0 = true) := hg
          have e1 : f + 1 = fo x 1 := by rw [fo_t HG.out, ← HF.out]
          have e2 : f + 1 ≤ 13 := by have := BB.out; omega
          have E1 : Hid (f + 1 = fo x 1) := e1
          clear e1
          go_wp2
          go_round
          case rel => exact ⟨1, f + 1, by omega, rfl, rfl, by omega, e2, E1.out, HW.out⟩
          case measure => simp [intOf]
      · have BB : Hid (-1 ≤ fo x 2 ∧ fo x 2 < ((2 : Nat) : Int)) := bb
        clear bb
        cases hg : (ord x 4599075939470750515 == some .gt || ord x 4599075939470750515 == some .eq)
        · have HG : Hid (ge x 1 = false) := hg
          go_wp2
          go_round
          case rel => exact ⟨2, f, by omega, rfl, rfl, hf0, hf1, HF.out.trans (fo_f HG.out).symm, HW.out⟩
          case measure => simp [intOf]
        · have HG : Hid (ge x 1 = true) := hg
          have e1 : f + 1 = fo x 2 := by rw [fo_t HG.out, ← HF.out]
          have e2 : f + 1 ≤ 13 := by have := BB.out; omega
          have E1 : Hid (f + 1 = fo x 2) := e1
          clear e1
          go_wp2
          go_round
          case rel => exact ⟨2, f + 1, by omega, rfl, rfl, by omega, e2, E1.out, HW.out⟩
          case measure => simp [intOf]
      · have BB : Hid (-1 ≤ fo x 3 ∧ fo x 3 < ((3 : Nat) : Int)) := bb
        clear bb
        cases hg : (ord x 4609884578576439706 == some .gt || ord x 4609884578576439706 == some .eq)
        · have HG : Hid (ge x 2 = false) := hg
          go_wp2
          go_round
          case rel => exact ⟨3, f, by omega, rfl, rfl, hf0, hf1, HF.out.trans (fo_f HG.out).symm, HW.out⟩
          case measure => simp [intOf]
        · have HG : Hid (ge x 2 = true) := hg
          have e1 : f + 1 = fo x 3 := by rw [fo_t HG.out, ← HF.out]
          have e2 : f + 1 ≤ 13 := by have := BB.out; omega
          have E1 : Hid (f + 1 = fo x 3) := e1
          clear e1
          go_wp2
          go_round
          case rel => exact ⟨3, f + 1, by omega, rfl, rfl, by omega, e2, E1.out, HW.out⟩
          case measure => simp [intOf]
      · have BB : Hid (-1 ≤ fo x 4 ∧ fo x 4 < ((4 : Nat) : Int)) := bb
        clear bb
        cases hg : (ord x 4614838538166547251 == some .gt || ord x 4614838538166547251 == some .eq)
        · have HG : Hid (ge x 3 = false) := hg
          go_wp2
          go_round
          case rel => exact ⟨4, f, by omega, rfl, rfl, hf0, hf1, HF.out.trans (fo_f HG.out).symm, HW.out⟩
          case measure => simp [intOf]
        · have HG : Hid (ge x 3 = true) := hg
          have e1 : f + 1 = fo x 4 := by rw [fo_t HG.out, ← HF.out]
          have e2 : f + 1 ≤ 13 := by have := BB.out; omega
          have E1 : Hid (f + 1 = fo x 4) := e1
          clear e1
          go_wp2
          go_round
          case rel => exact ⟨4, f + 1, by omega, rfl, rfl, by omega, e2, E1.out, HW.out⟩
          case measure => simp [intOf]
      · have BB : Hid (-1 ≤ fo x 5 ∧ fo x 5 < ((5 : Nat) : Int)) := bb
        clear bb
        cases hg : (ord x 4617878467915022336 == some .gt || ord x 4617878467915022336 == some .eq)
        · have HG : Hid (ge x 4 = false) := hg
          go_wp2
          go_round
          case rel => exact ⟨5, f, by omega, rfl, rfl, hf0, hf1, HF.out.trans (fo_f HG.out).symm, HW.out⟩
          case measure => simp [intOf]
        · have HG : Hid (ge x 4 = true) := hg
          have e1 : f + 1 = fo x 5 := by rw [fo_t HG.out, ← HF.out]
          have e2 : f + 1 ≤ 13 := by have := BB.out; omega
          have E1 : Hid (f + 1 = fo x 5) := e1
          clear e1
          go_wp2
          go_round
          case rel => exact ⟨5, f + 1, by omega, rfl, rfl, by omega, e2, E1.out, HW.out⟩
          case measure => simp [intOf]
      · have BB : Hid (-1 ≤ fo x 6 ∧ fo x 6 < ((6 : Nat) : Int)) := bb
        clear bb
        cases hg : (ord x 4620693217682128896 == some .gt || ord x 4620693217682128896 == some .eq)
        · have HG : Hid (ge x 5 = false) := hg
          go_wp2
          go_round
          case rel => exact ⟨6, f, by omega, rfl, rfl, hf0, hf1, HF.out.trans (fo_f HG.out).symm, HW.out⟩
          case measure => simp [intOf]
        · have HG : Hid (ge x 5 = true) := hg
          have e1 : f + 1 = fo x 6 := by rw [fo_t HG.out, ← HF.out]
          have e2 : f + 1 ≤ 13 := by have := BB.out; omega
          have E1 : Hid (f + 1 = fo x 6) := e1
          clear e1
          go_wp2
          go_round
          case rel => exact ⟨6, f + 1, by omega, rfl, rfl, by omega, e2, E1.out, HW.out⟩
          case measure => simp [intOf]
      · have BB : Hid (-1 ≤ fo x 7 ∧ fo x 7 < ((7 : Nat) : Int)) := bb
        clear bb
        cases hg : (ord x 4622269477551708570 == some .gt || ord x 4622269477551708570 == some .eq)
        · have HG : Hid (ge x 6 = false) := hg
          go_wp2
          go_round
          case rel => exact ⟨7, f, by omega, rfl, rfl, hf0, hf1, HF.out.trans (fo_f HG.out).symm, HW.out⟩
          case measure => simp [intOf]
        · have HG : Hid (ge x 6 = true) := hg
          have e1 : f + 1 = fo x 7 := by rw [fo_t HG.out, ← HF.out]
          have e2 : f + 1 ≤ 13 := by have := BB.out; omega
          have E1 : Hid (f + 1 = fo x 7) := e1
          clear e1
          go_wp2
          go_round
          case rel => exact ⟨7, f + 1, by omega, rfl, rfl, by omega, e2, E1.out, HW.out⟩
          case measure => simp [intOf]
      · have BB : Hid (-1 ≤ fo x 8 ∧ fo x 8 < ((8 : Nat) : Int)) := bb
        clear bb
        cases hg : (ord x 4624014622407314637 == some .gt || ord x 4624014622407314637 == some .eq)
        · have HG : Hid (ge x 7 = false) := hg
          go_wp2
          go_round
          case rel => exact ⟨8, f, by omega, rfl, rfl, hf0, hf1, HF.out.trans (fo_f HG.out).symm, HW.out⟩
          case measure => simp [intOf]
        · have HG : Hid (ge x 7 = true) := hg
          have e1 : f + 1 = fo x 8 := by rw [fo_t HG.out, ← HF.out]
          have e2 : f + 1 ≤ 13 := by have := BB.out; omega
          have E1 : Hid (f + 1 = fo x 8) := e1
          clear e1
          go_wp2
          go_round
          case rel => exact ⟨8, f + 1, by omega, rfl, rfl, by omega, e2, E1.out, HW.out⟩
          case measure => simp [intOf]
      · have BB : Hid (-1 ≤ fo x 9 ∧ fo x 9 < ((9 : Nat) : Int)) := bb
        clear bb
        cases hg : (ord x 4625534587281552179 == some .gt || ord x 4625534587281552179 == some .eq)
        · have HG : Hid (ge x 8 = false) := hg
          go_wp2
          go_round
          case rel => exact ⟨9, f, by omega, rfl, rfl, hf0, hf1, HF.out.trans (fo_f HG.out).symm, HW.out⟩
          case measure => simp [intOf]
        · have HG : Hid (ge x 8 = true) := hg
          have e1 : f + 1 = fo x 9 := by rw [fo_t HG.out, ← HF.out]
          have e2 : f + 1 ≤ 13 := by have := BB.out; omega
          have E1 : Hid (f + 1 = fo x 9) := e1
          clear e1
          go_wp2
          go_round
          case rel => exact ⟨9, f + 1, by omega, rfl, rfl, by omega, e2, E1.out, HW.out⟩
          case measure => simp [intOf]
      · have BB : Hid (-1 ≤ fo x 10 ∧ fo x 10 < ((10 : Nat) : Int)) := bb
        clear bb
        cases hg : (ord x 4626547897197710541 == some .gt || ord x 4626547897197710541 == some .eq)
        · have HG : Hid (ge x 9 = false) := hg
          go_wp2
          go_round
          case rel => exact ⟨10, f, by omega, rfl, rfl, hf0, hf1, HF.out.trans (fo_f HG.out).symm, HW.out⟩
          case measure => simp [intOf]
        · have HG : Hid (ge x 9 = true) := hg
          have e1 : f + 1 = fo x 10 := by rw [fo_t HG.out, ← HF.out]
          have e2 : f + 1 ≤ 13 := by have := BB.out; omega
          have E1 : Hid (f + 1 = fo x 10) := e1
          clear e1
          go_wp2
          go_round
          case rel => exact ⟨10, f + 1, by omega, rfl, rfl, by omega, e2, E1.out, HW.out⟩
          case measure => simp [intOf]
      · have BB : Hid (-1 ≤ fo x 11 ∧ fo x 11 < ((11 : Nat) : Int)) := bb
        clear bb
        cases hg : (ord x 4627589354611539968 == some .gt || ord x 4627589354611539968 == some .eq)
        · have HG : Hid (ge x 10 = false) := hg
          go_wp2
          go_round
          case rel => exact ⟨11, f, by omega, rfl, rfl, hf0, hf1, HF.out.trans (fo_f HG.out).symm, HW.out⟩
          case measure => simp [intOf]
        · have HG : Hid (ge x 10 = true) := hg
          have e1 : f + 1 = fo x 11 := by rw [fo_t HG.out, ← HF.out]
          have e2 : f + 1 ≤ 13 := by have := BB.out; omega
          have E1 : Hid (f + 1 = fo x 11) := e1
          clear e1
          go_wp2
          go_round
          case rel => exact ⟨11, f + 1, by omega, rfl, rfl, by omega, e2, E1.out, HW.out⟩
          case measure => simp [intOf]
      · have BB : Hid (-1 ≤ fo x 12 ∧ fo x 12 < ((12 : Nat) : Int)) := bb
        clear bb
        cases hg : (ord x 4628715254518382592 == some .gt || ord x 4628715254518382592 == some .eq)
        · have HG : Hid (ge x 11 = false) := hg
          go_wp2
          go_round
          case rel => exact ⟨12, f, by omega, rfl, rfl, hf0, hf1, HF.out.trans (fo_f HG.out).symm, HW.out⟩
          case measure => simp [intOf]
        · have HG : Hid (ge x 11 = true) := hg
          have e1 : f + 1 = fo x 12 := by rw [fo_t HG.out, ← HF.out]
          have e2 : f + 1 ≤ 13 := by have := BB.out; omega
          have E1 : Hid (f + 1 = fo x 12) := e1
          clear e1
          go_wp2
          go_round
          case rel => exact ⟨12, f + 1, by omega, rfl, rfl, by omega, e2, E1.out, HW.out⟩
          case measure => simp [intOf]
      · have BB : Hid (-1 ≤ fo x 13 ∧ fo x 13 < ((13 : Nat) : Int)) := bb
        clear bb
        cases hg : (ord x 4629798933178718618 == some .gt || ord x 4629798933178718618 == some .eq)
        · have HG : Hid (ge x 12 = false) := hg
          go_wp2
          go_round
          case rel => exact ⟨13, f, by omega, rfl, rfl, hf0, hf1, HF.out.trans (fo_f HG.out).symm, HW.out⟩
          case measure => simp [intOf]
        · have HG : Hid (ge x 12 = true) := hg
          have e1 : f + 1 = fo x 13 := by rw [fo_t HG.out, ← HF.out]
          have e2 : f + 1 ≤ 13 := by have := BB.out; omega
          have E1 : Hid (f + 1 = fo x 13) := e1
          clear e1
          go_wp2
          go_round
          case rel => exact ⟨13, f + 1, by omega, rfl, rfl, by omega, e2, E1.out, HW.out⟩
          case measure => simp [intOf]
    · obtain rfl : k = 13 := by omega
      go_wp2
      go_ret
      exact ⟨by rw [HF.out]; rfl, HW.out⟩

set_option maxHeartbeats 4000000 in
theorem sbeau_any (x : Nat) (w : World) :
    Calls Try.prog 4 #[.float .f64 x] w fun e w' => e = .returned (.int .i64 (fo x 13)) ∧ Below w.heap.size w w' := by
  go_enter Try.func4, Try.ntmps4
  go_wp2
  go_loopw [4, 5] (fun s i wr => ∃ (k : Nat) (f : Int), k ≤ 13 ∧ i = .int .i64 k ∧ s = .int .i64 f ∧ Hid (f = la x k) ∧ wr = (w.alloc (.cells #[.float .f64 0, .float .f64 4599075939470750515, .float .f64 4609884578576439706, .float .f64 4614838538166547251, .float .f64 4617878467915022336, .float .f64 4620693217682128896, .float .f64 4622269477551708570, .float .f64 4624014622407314637, .float .f64 4625534587281552179, .float .f64 4626547897197710541, .float .f64 4627589354611539968, .float .f64 4628715254518382592, .float .f64 4629798933178718618] 22))) (fun _ i _ => 13 - (intOf i).toNat)
  case atStart => exact ⟨0, -1, by omega, rfl, rfl, rfl, rfl⟩
  case round =>
    obtain ⟨k, f, hk, rfl, rfl, HF, rfl⟩ := hrel
    by_cases hlt : k < 13
    · have key : k = 0 ∨ k = 1 ∨ k = 2 ∨ k = 3 ∨ k = 4 ∨ k = 5 ∨ k = 6 ∨ k = 7 ∨ k = 8 ∨ k = 9 ∨ k = 10 ∨ k = 11 ∨ k = 12 := by omega
      rcases key with rfl | rfl | rfl | rfl | rfl | rfl | rfl | rfl | rfl | rfl | rfl | rfl | rfl
      · cases hg : (ord x 0 == some .gt || ord x 0 == some .eq)
        · have HG : Hid (ge x 0 = false) := hg
          go_wp2
          go_round
          case rel => exact ⟨1, f, by omega, rfl, rfl, HF.out.trans (la_f HG.out).symm, trivial⟩
          case measure => simp [intOf]
        · have HG : Hid (ge x 0 = true) := hg
          go_wp2
          go_round
          case rel => exact ⟨1, 0, by omega, rfl, rfl, (la_t HG.out).symm, trivial⟩
          case measure => simp [intOf]
      · cases hg : (ord x 4599075939470750515 == some .gt || ord x 4599075939470750515 == some .eq)
        · have HG : Hid (ge x 1 = false) := hg
          go_wp2
          go_round
          case rel => exact ⟨2, f, by omega, rfl, rfl, HF.out.trans (la_f HG.out).symm, trivial⟩
          case measure => simp [intOf]
        · have HG : Hid (ge x 1 = true) := hg
          go_wp2
          go_round
          case rel => exact ⟨2, 1, by omega, rfl, rfl, (la_t HG.out).symm, trivial⟩
          case measure => simp [intOf]
      · cases hg : (ord x 4609884578576439706 == some .gt || ord x 4609884578576439706 == some .eq)
        · have HG : Hid (ge x 2 = false) := hg
          go_wp2
          go_round
          case rel => exact ⟨3, f, by omega, rfl, rfl, HF.out.trans (la_f HG.out).symm, trivial⟩
          case measure => simp [intOf]
        · have HG : Hid (ge x 2 = true) := hg
          go_wp2
          go_round
          case rel => exact ⟨3, 2, by omega, rfl, rfl, (la_t HG.out).symm, trivial⟩
          case measure => simp [intOf]
      · cases hg : (ord x 4614838538166547251 == some .gt || ord x 4614838538166547251 == some .eq)
        · have HG : Hid (ge x 3 = false) := hg
          go_wp2
          go_round
          case rel => exact ⟨4, f, by omega, rfl, rfl, HF.out.trans (la_f HG.out).symm, trivial⟩
          case measure => simp [intOf]
        · have HG : Hid (ge x 3 = true) := hg
          go_wp2
          go_round
          case rel => exact ⟨4, 3, by omega, rfl, rfl, (la_t HG.out).symm, trivial⟩
          case measure => simp [intOf]
      · cases hg : (ord x 4617878467915022336 == some .gt || ord x 4617878467915022336 == some .eq)
        · have HG : Hid (ge x 4 = false) := hg
          go_wp2
          go_round
          case rel => exact ⟨5, f, by omega, rfl, rfl, HF.out.trans (la_f HG.out).symm, trivial⟩
          case measure => simp [intOf]
        · have HG : Hid (ge x 4 = true) := hg
          go_wp2
          go_round
          case rel => exact ⟨5, 4, by omega, rfl, rfl, (la_t HG.out).symm, trivial⟩
          case measure => simp [intOf]
      · cases hg : (ord x 4620693217682128896 == some .gt || ord x 4620693217682128896 == some .eq)
        · have HG : Hid (ge x 5 = false) := hg
          go_wp2
          go_round
          case rel => exact ⟨6, f, by omega, rfl, rfl, HF.out.trans (la_f HG.out).symm, trivial⟩
          case measure => simp [intOf]
        · have HG : Hid (ge x 5 = true) := hg
          go_wp2
          go_round
          case rel => exact ⟨6, 5, by omega, rfl, rfl, (la_t HG.out).symm, trivial⟩
          case measure => simp [intOf]
      · cases hg : (ord x 4622269477551708570 == some .gt || ord x 4622269477551708570 == some .eq)
        · have HG : Hid (ge x 6 = false) := hg
          go_wp2
          go_round
          case rel => exact ⟨7, f, by omega, rfl, rfl, HF.out.trans (la_f HG.out).symm, trivial⟩
          case measure => simp [intOf]
        · have HG : Hid (ge x 6 = true) := hg
          go_wp2
          go_round
          case rel => exact ⟨7, 6, by omega, rfl, rfl, (la_t HG.out).symm, trivial⟩
          case measure => simp [intOf]
      · cases hg : (ord x 4624014622407314637 == some .gt || ord x 4624014622407314637 == some .eq)
        · have HG : Hid (ge x 7 = false) := hg
          go_wp2
          go_round
          case rel => exact ⟨8, f, by omega, rfl, rfl, HF.out.trans (la_f HG.out).symm, trivial⟩
          case measure => simp [intOf]
        · have HG : Hid (ge x 7 = true) := hg
          go_wp2
          go_round
          case rel => exact ⟨8, 7, by omega, rfl, rfl, (la_t HG.out).symm, trivial⟩
          case measure => simp [intOf]
      · cases hg : (ord x 4625534587281552179 == some .gt || ord x 4625534587281552179 == some .eq)
        · have HG : Hid (ge x 8 = false) := hg
          go_wp2
          go_round
          case rel => exact ⟨9, f, by omega, rfl, rfl, HF.out.trans (la_f HG.out).symm, trivial⟩
          case measure => simp [intOf]
        · have HG : Hid (ge x 8 = true) := hg
          go_wp2
          go_round
          case rel => exact ⟨9, 8, by omega, rfl, rfl, (la_t HG.out).symm, trivial⟩
          case measure => simp [intOf]
      · cases hg : (ord x 4626547897197710541 == some .gt || ord x 4626547897197710541 == some .eq)
        · have HG : Hid (ge x 9 = false) := hg
          go_wp2
          go_round
          case rel => exact ⟨10, f, by omega, rfl, rfl, HF.out.trans (la_f HG.out).symm, trivial⟩
          case measure => simp [intOf]
        · have HG : Hid (ge x 9 = true) := hg
          go_wp2
          go_round
          case rel => exact ⟨10, 9, by omega, rfl, rfl, (la_t HG.out).symm, trivial⟩
          case measure => simp [intOf]
      · cases hg : (ord x 4627589354611539968 == some .gt || ord x 4627589354611539968 == some .eq)
        · have HG : Hid (ge x 10 = false) := hg
          go_wp2
          go_round
          case rel => exact ⟨11, f, by omega, rfl, rfl, HF.out.trans (la_f HG.out).symm, trivial⟩
          case measure => simp [intOf]
        · have HG : Hid (ge x 10 = true) := hg
          go_wp2
          go_round
          case rel => exact ⟨11, 10, by omega, rfl, rfl, (la_t HG.out).symm, trivial⟩
          case measure => simp [intOf]
      · cases hg : (ord x 4628715254518382592 == some .gt || ord x 4628715254518382592 == some .eq)
        · have HG : Hid (ge x 11 = false) := hg
          go_wp2
          go_round
          case rel => exact ⟨12, f, by omega, rfl, rfl, HF.out.trans (la_f HG.out).symm, trivial⟩
          case measure => simp [intOf]
        · have HG : Hid (ge x 11 = true) := hg
          go_wp2
          go_round
          case rel => exact ⟨12, 11, by omega, rfl, rfl, (la_t HG.out).symm, trivial⟩
          case measure => simp [intOf]
      · cases hg : (ord x 4629798933178718618 == some .gt || ord x 4629798933178718618 == some .eq)
        · have HG : Hid (ge x 12 = false) := hg
          go_wp2
          go_round
          case rel => exact ⟨13, f, by omega, rfl, rfl, HF.out.trans (la_f HG.out).symm, trivial⟩
          case measure => simp [intOf]
        · have HG : Hid (ge x 12 = true) := hg
          go_wp2
          go_round
          case rel => exact ⟨13, 12, by omega, rfl, rfl, (la_t HG.out).symm, trivial⟩
          case measure => simp [intOf]
    · obtain rfl : k = 13 := by omega
      go_wp2
      go_ret
      exact ⟨by rw [HF.out, la_fo x 13 (by omega)]; rfl, (Below.refl _ _).alloc (Nat.le_refl _) _⟩

set_option maxHeartbeats 1000000 in
theorem beauLaw (x : Nat) (w : World) (_ : x < 18446744073709551616) : Calls Try.prog 3 #[.float .f64 x] w fun e w' => e = .returned (.bool true) ∧ Below w.heap.size w w' := by
  go_enter Try.func3, Try.ntmps3
  go_wp2_with fail
  refine (sbeau_any _ _).mono ?_
  rintro e w1 ⟨rfl, bel1⟩
  have B1 : Hid (Below w.heap.size w w1) := bel1
  clear bel1
  go_wp2_with fail
  refine (ibeau_any _ _).mono ?_
  rintro e w2 ⟨rfl, bel2⟩
  have B2 : Hid (Below w.heap.size w w2) := B1.out.trans (bel2.mono B1.out.size)
  clear bel2
  go_wp2
  go_ret
  exact ⟨rfl, B2.out⟩
end Go.Proofs.Yteofcckdeglnjaa.Flt
