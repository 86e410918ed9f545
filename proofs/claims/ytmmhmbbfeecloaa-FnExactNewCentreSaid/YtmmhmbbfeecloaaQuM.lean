/- Queues that hold nothing: marked, held. -/
import Derived.Test.YtmmhmbbfeecloaaQu
namespace Go.Proofs.Ytmmhmbbfeecloaa.Qu
open Go.ChangeShapes Go.WideShapes Go.ChangeAt Go.RowKit
def mq (k0 : Int) (n : Nat) : Qs := (List.range n).map fun (i : Nat) => (k0 + (i : Int) * 3, k0 + (i : Int) * 3 + 1, k0 + (i : Int) * 3 + 2)
theorem mq_len (k0 : Int) (n : Nat) : (mq k0 n).length = n := by simp [mq]
theorem mq_at (k0 : Int) (n i : Nat) (h : i < n) : q0 (mq k0 n) i = k0 + (i : Int) * 3 ∧ q1 (mq k0 n) i = k0 + (i : Int) * 3 + 1 ∧ q2 (mq k0 n) i = k0 + (i : Int) * 3 + 2 := by
  simp [q0, q1, q2, mq, List.getD_eq_getElem?_getD, h]
def Gm (xs : List Value) (M : Qs) (n j : Nat) : Prop := ∀ i, i < n → xs[i * 4 + 1]? = some nil ∧ (i < j → xs[i * 4]? = some (.int .i64 (q0 M i)) ∧ xs[i * 4 + 2]? = some (.int .i64 (q1 M i)) ∧ xs[i * 4 + 3]? = some (.int .i64 (q2 M i)))
theorem Gm.next {xs : List Value} {M : Qs} {n j : Nat} (h : Gm xs M n j) (hl : j * 4 + 3 < xs.length) : Gm (((xs.set (j * 4) (.int .i64 (q0 M j))).set (j * 4 + 2) (.int .i64 (q1 M j))).set (j * 4 + 3) (.int .i64 (q2 M j))) M n (j + 1) := by
  intro i hi
  obtain ⟨h1, h2⟩ := h i hi
  refine ⟨?_, fun hj => ?_⟩
  · rw [List.getElem?_set_ne (by omega), List.getElem?_set_ne (by omega), List.getElem?_set_ne (by omega)]; exact h1
  · by_cases e : i = j
    · subst e
      refine ⟨?_, ?_, ?_⟩
      · rw [List.getElem?_set_ne (by omega), List.getElem?_set_ne (by omega), List.getElem?_set_self (by omega)]
      · rw [List.getElem?_set_ne (by omega), List.getElem?_set_self (by simp; omega)]
      · rw [List.getElem?_set_self (by simp; omega)]
    · obtain ⟨g0, g2, g3⟩ := h2 (by omega)
      refine ⟨?_, ?_, ?_⟩
      · rw [List.getElem?_set_ne (by omega), List.getElem?_set_ne (by omega), List.getElem?_set_ne (by omega)]; exact g0
      · rw [List.getElem?_set_ne (by omega), List.getElem?_set_ne (by omega), List.getElem?_set_ne (by omega)]; exact g2
      · rw [List.getElem?_set_ne (by omega), List.getElem?_set_ne (by omega), List.getElem?_set_ne (by omega)]; exact g3
theorem gm_all {xs : List Value} {M : Qs} {n : Nat} (h : Gm xs M n n) (hl : xs.length = n * 4) (hm : M.length = n) : xs = qc M := by
  apply List.ext_getElem?
  intro t
  by_cases ht : t < n * 4
  · obtain ⟨h1, h2⟩ := h (t / 4) (by omega)
    obtain ⟨g0, g2, g3⟩ := h2 (by omega)
    obtain ⟨e0, e1, e2, e3⟩ := qc_at M (t / 4) (by omega)
    have : t % 4 = 0 ∨ t % 4 = 1 ∨ t % 4 = 2 ∨ t % 4 = 3 := by omega
    rcases this with c | c | c | c
    · rw [show t / 4 * 4 = t by omega] at g0 e0; rw [g0, e0]
    · rw [show t / 4 * 4 + 1 = t by omega] at h1 e1; rw [h1, e1]
    · rw [show t / 4 * 4 + 2 = t by omega] at g2 e2; rw [g2, e2]
    · rw [show t / 4 * 4 + 3 = t by omega] at g3 e3; rw [g3, e3]
  · rw [List.getElem?_eq_none (by omega), List.getElem?_eq_none (by rw [qc_len]; omega)]
set_option maxRecDepth 20000 in
set_option maxHeartbeats 2000000 in
theorem mark_any (w : World) (base : Nat) (v : Value) (L : Qs) (k0 : Int) (hn : L.length ≤ 1048576) (hk0 : 0 ≤ k0 ∧ k0 ≤ 4000000) (h : Row w base v L) :
    Calls Try.prog 25 #[v, .int .i64 k0] w fun e w' => e = .returned (.int .i64 (k0 + (L.length : Int) * 3)) ∧ Row w' base v (mq k0 L.length) ∧ w.grownBy w' v.ownBlock := by
  have h' : w.ownsRow base 45 4 v L.length (qc L) := h
  have G0 : Gm (qc L) (mq k0 L.length) L.length 0 := fun i hi => ⟨(qc_at L i hi).2.1, fun hj => absurd hj (by omega)⟩
  have HM : Hid (∀ i, i < L.length → q0 (mq k0 L.length) i = k0 + (i : Int) * 3 ∧ q1 (mq k0 L.length) i = k0 + (i : Int) * 3 + 1 ∧ q2 (mq k0 L.length) i = k0 + (i : Int) * 3 + 2) := fun i hi => mq_at _ _ i hi
  have HL : Hid ((mq k0 L.length).length = L.length) := mq_len _ _
  have CI : Hid (∀ w k, Calls Try.prog 38 #[.slice none 0 0, .int .i64 k] w fun e w' => e = .returned (.int .i64 k) ∧ w' = w) := Rt.markI_nil
  generalize mq k0 L.length = M at *
  generalize qc L = xs0 at *
  generalize L.length = n at *
  clear h
  rcases Rt.row_cases h' with ⟨rfl, rfl⟩ | ⟨g, c, rfl, g0, g1, x1, x2⟩
  · have RM : Hid (Row w base (.slice none 0 0) M) := (by
      have e : M = [] := List.eq_nil_of_length_eq_zero HL.out
      rw [e]; exact row_none _ _)
    go_enter Try.func25, Try.ntmps25
    go_wp2
    go_loop [1, 5] (fun k i => k = .int .i64 k0 ∧ i = .int .i64 0) (fun _ _ => 0)
    case atStart => exact ⟨rfl, rfl⟩
    case round =>
      obtain ⟨rfl, rfl⟩ := hrel
      go_wp2
      go_ret
      exact ⟨by simp, RM.out, World.grownBy.refl _ _⟩
  · have H0 : Hid (∃ xs, w.ownsRow base 45 4 (.slice (some ⟨g, 0, none⟩) n c) n xs ∧ Gm xs M n 0) := ⟨_, h', G0⟩
    unfold maxLen at x2
    clear h' G0
    go_enter Try.func25, Try.ntmps25
    go_wp2
    go_loopw [1, 5] (fun q i wr => ∃ k : Nat, k ≤ n ∧ i = .int .i64 k ∧ q = .int .i64 (k0 + (k : Int) * 3) ∧ Hid (∃ xs, wr.ownsRow base 45 4 (.slice (some ⟨g, 0, none⟩) n c) n xs ∧ Gm xs M n k) ∧ Hid (w.grownBy wr (some g))) (fun _ i _ => n - (intOf i).toNat)
    case atStart => exact ⟨0, Nat.zero_le _, rfl, by simp, H0, World.grownBy.refl _ _⟩
    case round =>
      obtain ⟨k, hk, rfl, rfl, R, GR⟩ := hrel
      by_cases hlt : k < n
      · obtain ⟨xs, R1, R2⟩ := R.out
        have lx : xs.length = n * 4 := R1.1
        have i0 : (0 : Int) ≤ (k : Int) := by omega
        have i1 : (k : Int) < (n : Int) := by omega
        have nx := R2.next (by omega)
        obtain ⟨m0, m1, m2⟩ := HM.out k hlt
        rw [m0, m1, m2] at nx
        have nn := (R2 k hlt).1
        have NX : Hid (Gm (((xs.set (k * 4) (.int .i64 (k0 + (k : Int) * 3))).set (k * 4 + 2) (.int .i64 (k0 + (k : Int) * 3 + 1))).set (k * 4 + 3) (.int .i64 (k0 + (k : Int) * 3 + 2))) M n (k + 1)) := nx
        clear nx m0 m1 m2
        obtain ⟨y, hy⟩ : ∃ y, k0 + (k : Int) * 3 = y := ⟨_, rfl⟩
        have HY : Hid (k0 + (k : Int) * 3 = y) := hy
        have j1 : IntKind.i64.wrap (y + 1) = y + 1 := IntWalk.i64_in _ (by omega)
        have j2 : IntKind.i64.wrap (y + 1 + 1) = y + 1 + 1 := IntWalk.i64_in _ (by omega)
        have j3 : IntKind.i64.wrap (y + 1 + 1 + 1) = y + 1 + 1 + 1 := IntWalk.i64_in _ (by omega)
        have e2 : y + 2 = y + 1 + 1 := by omega
        rw [hy, e2] at NX
        rw [hy]
        have q1' : wr.cell? ⟨g, k * 4 + 1, none⟩ = some (.slice none 0 0) := by rw [R1.cellAt (k * 4 + 1) (by omega)]; exact nn
        obtain ⟨z0, q0'⟩ : ∃ z, wr.cell? ⟨g, k * 4, none⟩ = some z := ⟨_, by rw [R1.cellAt (k * 4) (by omega)]; exact List.getElem?_eq_getElem (by omega)⟩
        obtain ⟨z2, q2'⟩ : ∃ z, wr.cell? ⟨g, k * 4 + 2, none⟩ = some z := ⟨_, by rw [R1.cellAt (k * 4 + 2) (by omega)]; exact List.getElem?_eq_getElem (by omega)⟩
        obtain ⟨z3, q3'⟩ : ∃ z, wr.cell? ⟨g, k * 4 + 3, none⟩ = some z := ⟨_, by rw [R1.cellAt (k * 4 + 3) (by omega)]; exact List.getElem?_eq_getElem (by omega)⟩
        have f0 : wr.frozen? ⟨g, k * 4, none⟩ = false := R1.frozenAt _
        have f2 : wr.frozen? ⟨g, k * 4 + 2, none⟩ = false := R1.frozenAt _
        have f3 : wr.frozen? ⟨g, k * 4 + 3, none⟩ = false := R1.frozenAt _
        have RE : Hid (∃ xs, (((wr.setCell ⟨g, k * 4, none⟩ (.int .i64 y)).setCell ⟨g, k * 4 + 2, none⟩ (.int .i64 (y + 1))).setCell ⟨g, k * 4 + 3, none⟩ (.int .i64 (y + 1 + 1))).ownsRow base 45 4 (.slice (some ⟨g, 0, none⟩) n c) n xs ∧ Gm xs M n (k + 1)) := ⟨_, (((R1.stored (k * 4) _).1.stored (k * 4 + 2) _).1.stored (k * 4 + 3) _).1, NX.out⟩
        have GX1 : Hid (w.grownBy (((wr.setCell ⟨g, k * 4, none⟩ (.int .i64 y)).setCell ⟨g, k * 4 + 2, none⟩ (.int .i64 (y + 1))).setCell ⟨g, k * 4 + 3, none⟩ (.int .i64 (y + 1 + 1))) (some g)) := Rt.grown_setCell (Rt.grown_setCell (Rt.grown_setCell GR.out _ _) _ _) _ _
        clear R R1 R2 nn NX hy HM e2
        go_wp2_with (go_at_call 38; refine (CI.out _ _).mono ?_; rintro e w1 ⟨rfl, hw1⟩; subst hw1)
        go_roundw
        case rel => exact ⟨k + 1, by omega, by go_num, by congr 1; have := HY.out; omega, RE, GX1⟩
        case measure => simp [intOf]; omega
      · have e : k = n := by omega
        subst e
        obtain ⟨xs, R1, R2⟩ := R.out
        have RM : Hid (Row wr base (.slice (some ⟨g, 0, none⟩) k c) M) := (by
          show World.ownsRow _ _ _ _ _ _ _
          rw [HL.out, ← gm_all R2 R1.1 HL.out]; exact R1)
        have j1 : ¬ (k : Int) < (k : Int) := by omega
        clear R R1 R2
        go_wp2_with fail
        go_ret
        exact ⟨rfl, RM.out, GR.out⟩
set_option maxRecDepth 20000 in
set_option maxHeartbeats 2000000 in
theorem held_any (w : World) (v : Value) (n : Nat) (k0 : Int) (hn : n ≤ 1048576) (hk0 : 0 ≤ k0 ∧ k0 ≤ 4000000) (h : Reads w v (mq k0 n)) :
    Calls Try.prog 28 #[v, .int .i64 k0] w fun e w' => e = .returned (.int .i64 (k0 + (n : Int) * 3)) ∧ w' = w := by
  have CI : Hid (∀ w k, Calls Try.prog 39 #[.slice none 0 0, .int .i64 k] w fun e w' => e = .returned (.int .i64 k) ∧ w' = w) := Rt.heldI_nil
  obtain ⟨a, cap, rfl⟩ := h.form
  rw [mq_len]
  have HC : Hid (∀ i, i < n → ∃ b o, a = some ⟨b, o, none⟩ ∧ w.cell? ⟨b, o + i * 4, none⟩ = some (.int .i64 (k0 + (i : Int) * 3)) ∧ w.cell? ⟨b, o + i * 4 + 1, none⟩ = some (.slice none 0 0) ∧ w.cell? ⟨b, o + i * 4 + 2, none⟩ = some (.int .i64 (k0 + (i : Int) * 3 + 1)) ∧ w.cell? ⟨b, o + i * 4 + 3, none⟩ = some (.int .i64 (k0 + (i : Int) * 3 + 2))) := fun i hi => (by
    rcases h with ⟨e, _⟩ | ⟨b, o, c', e, _, _, _, y⟩
    · have := mq_len k0 n; rw [e] at this; simp at this; omega
    · simp at e
      have := y i (by rw [mq_len]; exact hi)
      unfold Cs at this
      obtain ⟨m0, m1, m2⟩ := mq_at k0 n i hi
      rw [m0, m1, m2] at this
      exact ⟨b, o, e.1, this⟩)
  clear h
  have hii : ∀ b : Int, (b != b) = false := fun b => by simp
  go_enter Try.func28, Try.ntmps28
  go_wp2
  go_loop [1, 5] (fun q i => ∃ k : Nat, k ≤ n ∧ i = .int .i64 k ∧ q = .int .i64 (k0 + (k : Int) * 3)) (fun _ i => n - (intOf i).toNat)
  case atStart => exact ⟨0, Nat.zero_le _, rfl, by simp⟩
  case round =>
    obtain ⟨k, hk, rfl, rfl⟩ := hrel
    by_cases hlt : k < n
    · obtain ⟨b, o, rfl, p0, p1, p2, p3⟩ := HC.out k hlt
      have i0 : (0 : Int) ≤ (k : Int) := by omega
      have i1 : (k : Int) < (n : Int) := by omega
      obtain ⟨y, hy⟩ : ∃ y, k0 + (k : Int) * 3 = y := ⟨_, rfl⟩
      have HY : Hid (k0 + (k : Int) * 3 = y) := hy
      have y0 : 0 ≤ y := by omega
      have y1 : 0 ≤ y + 1 := by omega
      have j1 : IntKind.i64.wrap (y + 1) = y + 1 := IntWalk.i64_in _ (by omega)
      have j2 : IntKind.i64.wrap (y + 1 + 1) = y + 1 + 1 := IntWalk.i64_in _ (by omega)
      have j3 : IntKind.i64.wrap (y + 1 + 1 + 1) = y + 1 + 1 + 1 := IntWalk.i64_in _ (by omega)
      have e2 : y + 2 = y + 1 + 1 := by omega
      rw [hy] at p0 p2 p3 ⊢
      rw [e2] at p3
      clear hy e2 HC
      go_wp2_with (go_at_call 39; refine (CI.out _ _).mono ?_; rintro e w1 ⟨rfl, hw1⟩; subst hw1)
      go_round
      case rel => exact ⟨k + 1, by omega, by go_num, by congr 1; have := HY.out; omega⟩
      case measure => simp [intOf]; omega
    · have e : k = n := by omega
      subst e
      have j1 : ¬ (k : Int) < (k : Int) := by omega
      go_wp2_with fail
      go_ret
      exact ⟨rfl, rfl⟩
end Go.Proofs.Ytmmhmbbfeecloaa.Qu
