/- Energy: the model and the program. -/
import Derived.Test.YtloegigoicnjpaaPr
import Derived.WalkLawsBesides
namespace Go.Proofs.Ytloegigoicnjpaa.En
open Go.ChangeShapes Go.WideShapes Go.ChangeAt Go.RowKit
open Go.Proofs.Ytloegigoicnjpaa.Flt Go.Proofs.Ytloegigoicnjpaa.Pr
attribute [local go_sem] Pr.run_store_float

theorem below_drewN {B : Nat} {a w : World} (h : Below B a w) (n : Nat) : Below B a (w.drewN n) := h.trans ⟨rfl, rfl, rfl, Nat.le_refl _, fun _ _ => rfl⟩
def sqs (x y : Nat) : Nat := opF .add (opF .mul (cn x) (cn x)) (opF .mul (cn y) (cn y))
def en (L : Ls) : Nat → Nat
  | 0 => 0
  | k + 1 => opF .add (en L k) (sqs (c0 L k) (c1 L k))
def energy (L : Ls) : Nat := if L.length ≤ 4000 then en L L.length else 0
theorem arAdd : Arith .add := by unfold Arith; simp
theorem arMul : Arith .mul := by unfold Arith; simp
theorem cn_zero : cn 0 = 0 := cn_num (by decide)
theorem sqs_of (x y : Nat) (w1 w2 w3 : World) : cn (opB .add (opB .mul x x w1) (opB .mul y y w2) w3) = sqs x y := by rw [cn_op, cn_op, cn_op]; rfl
theorem cells_at {w : World} {v : Value} {L : Ls} (h : Reads w v L) : ∃ b o, (∀ i, i < L.length → Cs w b o L i) ∧ (0 < L.length → b < w.heap.size ∧ ∃ cap, v = .slice (some ⟨b, o, none⟩) L.length cap) := by
  rcases h with ⟨rfl, _⟩ | ⟨b, o, cap, h1, h2, h3, h4, h5⟩
  · exact ⟨0, 0, fun i hi => by simp at hi, fun hi => by simp at hi⟩
  · exact ⟨b, o, h5, fun _ => ⟨h4, cap, h1⟩⟩

set_option maxHeartbeats 1000000 in
theorem ien_any (L : Ls) (w : World) (v : Value) (h : Reads w v L) :
    Calls Try.prog 15 #[v] w fun e w' => ∃ x, e = .returned (.float .f64 x) ∧ cn x = energy L ∧ Below w.heap.size w w' := by
  have HF := h.fits
  obtain ⟨b, o, hc, hv⟩ := cells_at h
  obtain ⟨a, cap, rfl⟩ := h.form
  unfold energy
  by_cases hl : L.length ≤ 4000
  · rw [if_pos hl]
    have HC : Hid (∀ i, i < L.length → Cs w b o L i) := hc
    have HV : Hid (0 < L.length → b < w.heap.size ∧ a = some ⟨b, o, none⟩) := fun hi => by
      obtain ⟨h1, c, h2⟩ := hv hi
      simp at h2
      exact ⟨h1, h2.1⟩
    obtain ⟨n, hn⟩ : ∃ n, n = L.length := ⟨_, rfl⟩
    have HN : Hid (n = L.length) := hn
    rw [← hn] at hl HF ⊢
    have j0 : ¬ (4000 : Int) < (n : Int) := by omega
    have hA : ∀ x y w, (binOp .add 30 (.float .f64 x) (.float .f64 y)).run Try.prog w = .ok (.float .f64 (opB .add x y w)) (w.drewN (opD .add x y)) := fun x y w => run_op Try.prog .add arAdd 30 x y w
    have hM : ∀ x y w, (binOp .mul 30 (.float .f64 x) (.float .f64 y)).run Try.prog w = .ok (.float .f64 (opB .mul x y w)) (w.drewN (opD .mul x y)) := fun x y w => run_op Try.prog .mul arMul 30 x y w
    clear h hc hv hn
    go_enter Try.func15, Try.ntmps15
    go_wp2_with fail
    go_loopw [3, 11] (fun s i wr => ∃ (k : Nat) (x : Nat), k ≤ n ∧ i = .int .i64 k ∧ s = .float .f64 x ∧ Hid (cn x = en L k) ∧ Hid (Below w.heap.size w wr)) (fun _ i _ => n - (intOf i).toNat)
    case atStart => exact ⟨0, 0, Nat.zero_le _, rfl, rfl, cn_zero, Below.refl _ _⟩
    case round =>
      obtain ⟨k, x, hk, rfl, rfl, CX, BB⟩ := hrel
      by_cases hlt : k < n
      · obtain ⟨hb, hx⟩ := HV.out (by have := HN.out; omega)
        subst hx
        obtain ⟨q0, q1⟩ : Cs wr b o L k := (HC.out k (by have := HN.out; omega)).below BB.out hb
        have p1 : (0 : Int) ≤ (k : Int) := by omega
        have p2 : (k : Int) < (n : Int) := by omega
        have EK : Hid (en L (k + 1) = opF .add (en L k) (sqs (c0 L k) (c1 L k))) := rfl
        have B2 : Hid (∀ m X, Below w.heap.size w ((wr.alloc X).drewN m)) := fun m X => below_drewN (BB.out.alloc BB.out.size _) m
        have E2 : Hid (∀ w1 w2 w3 w4, cn (opB .add x (opB .add (opB .mul (c0 L k) (c0 L k) w1) (opB .mul (c1 L k) (c1 L k) w2) w3) w4) = en L (k + 1)) := fun w1 w2 w3 w4 => by rw [cn_op, sqs_of, CX.out]; rfl
        generalize c0 L k = x0 at *
        generalize c1 L k = x1 at *
        go_wp2_with fail
        go_roundw
        case rel => exact ⟨k + 1, _, by omega, by go_num, rfl, E2.out _ _ _ _, B2.out _ _⟩
        case measure => simp [intOf]; omega
      · have hkn : k = n := by omega
        subst hkn
        go_wp2_with fail
        go_ret
        exact ⟨_, rfl, CX.out, BB.out⟩
  · rw [if_neg hl]
    clear h hc hv
    generalize L.length = n at *
    have j0 : (4000 : Int) < (n : Int) := by omega
    go_enter Try.func15, Try.ntmps15
    go_wp2_with fail
    go_ret
    exact ⟨_, rfl, cn_zero, Below.refl _ _⟩

set_option maxHeartbeats 1000000 in
theorem sen_any (L : Ls) (w : World) (v : Value) (h : Reads w v L) :
    Calls Try.prog 14 #[v] w fun e w' => ∃ x, e = .returned (.float .f64 x) ∧ cn x = energy L ∧ Below w.heap.size w w' := by
  have HF := h.fits
  obtain ⟨b, o, hc, hv⟩ := cells_at h
  obtain ⟨a, cap, rfl⟩ := h.form
  unfold energy
  by_cases hl : L.length ≤ 4000
  · rw [if_pos hl]
    have HC : Hid (∀ i, i < L.length → Cs w b o L i) := hc
    have HV : Hid (0 < L.length → b < w.heap.size ∧ a = some ⟨b, o, none⟩) := fun hi => by
      obtain ⟨h1, c, h2⟩ := hv hi
      simp at h2
      exact ⟨h1, h2.1⟩
    obtain ⟨n, hn⟩ : ∃ n, n = L.length := ⟨_, rfl⟩
    have HN : Hid (n = L.length) := hn
    rw [← hn] at hl HF ⊢
    have j0 : (n : Int) ≤ 4000 := by omega
    have hA : ∀ x y w, (binOp .add 30 (.float .f64 x) (.float .f64 y)).run Try.prog w = .ok (.float .f64 (opB .add x y w)) (w.drewN (opD .add x y)) := fun x y w => run_op Try.prog .add arAdd 30 x y w
    have hM : ∀ x y w, (binOp .mul 30 (.float .f64 x) (.float .f64 y)).run Try.prog w = .ok (.float .f64 (opB .mul x y w)) (w.drewN (opD .mul x y)) := fun x y w => run_op Try.prog .mul arMul 30 x y w
    clear h hc hv hn
    go_enter Try.func14, Try.ntmps14
    go_wp2_with fail
    go_loopw [3, 4] (fun s i wr => ∃ (k : Nat) (x : Nat), k ≤ n ∧ i = .int .i64 k ∧ s = .float .f64 x ∧ Hid (cn x = en L k) ∧ Hid (Below w.heap.size w wr)) (fun _ i _ => n - (intOf i).toNat)
    case atStart => exact ⟨0, 0, Nat.zero_le _, rfl, rfl, cn_zero, Below.refl _ _⟩
    case round =>
      obtain ⟨k, x, hk, rfl, rfl, CX, BB⟩ := hrel
      by_cases hlt : k < n
      · obtain ⟨hb, hx⟩ := HV.out (by have := HN.out; omega)
        subst hx
        obtain ⟨q0, q1⟩ : Cs wr b o L k := (HC.out k (by have := HN.out; omega)).below BB.out hb
        have B2 : Hid (∀ m, Below w.heap.size w (wr.drewN m)) := fun m => below_drewN BB.out m
        have p1 : (0 : Int) ≤ (k : Int) := by omega
        have p2 : (k : Int) < (n : Int) := by omega
        have E2 : Hid (∀ w1 w2 w3 w4, cn (opB .add x (opB .add (opB .mul (c0 L k) (c0 L k) w1) (opB .mul (c1 L k) (c1 L k) w2) w3) w4) = en L (k + 1)) := fun w1 w2 w3 w4 => by rw [cn_op, sqs_of, CX.out]; rfl
        generalize c0 L k = x0 at *
        generalize c1 L k = x1 at *
        go_wp2_with fail
        go_region
        all_goals
          go_wp2_with fail
          go_roundw
          case rel => exact ⟨k + 1, _, by omega, by go_num, rfl, E2.out _ _ _ _, B2.out _⟩
          case measure => simp [intOf]; omega
      · have hkn : k = n := by omega
        subst hkn
        go_wp2_with fail
        go_ret
        exact ⟨_, rfl, CX.out, BB.out⟩
  · rw [if_neg hl]
    clear h hc hv
    generalize L.length = n at *
    have j0 : ¬ (n : Int) ≤ 4000 := by omega
    have j1 : (0 : Int) < (n : Int) := by omega
    go_enter Try.func14, Try.ntmps14
    go_wp2_with fail
    go_loop [3, 4] (fun s i => s = .float .f64 0 ∧ i = .int .i64 0) (fun _ _ => 0)
    case atStart => exact ⟨rfl, rfl⟩
    case round =>
      obtain ⟨rfl, rfl⟩ := hrel
      go_wp2_with fail
      go_ret
      exact ⟨_, rfl, cn_zero, Below.refl _ _⟩
end Go.Proofs.Ytloegigoicnjpaa.En
