/- Lists of jobs, and of numbers, that are the same. -/
import Derived.Test.YtfhpomfdkpfooaaDz
namespace Go.Proofs.Ytfhpomfdkpfooaa.Ty
open Go.ChangeShapes Go.WideShapes Go.ChangeAt Go.RowKit
open Go.Proofs.Ytfhpomfdkpfooaa.Lists Go.Proofs.Ytfhpomfdkpfooaa.Tm Go.Proofs.Ytfhpomfdkpfooaa.Rk Go.Proofs.Ytfhpomfdkpfooaa.Ru Go.Proofs.Ytfhpomfdkpfooaa.Al Go.Proofs.Ytfhpomfdkpfooaa.Rd Go.Proofs.Ytfhpomfdkpfooaa.Cp

theorem held34 : Try.prog.stoodInHeld 34 = false := by kernel_rfl
theorem under34 : Try.prog.underlying 34 = some (.struct (Try.prog.fieldsOf 34)) := by kernel_rfl
theorem guard34 : Try.prog.eqGuardType Try.prog.depth 34 = false := by kernel_rfl
theorem neq34 (a b : Int) (w : World) : (binOp .neq 34 (.agg #[.int .i64 a, .int .i64 b]) (.agg #[.int .i64 a, .int .i64 b])).run Try.prog w = .ok (.bool false) w := by
  rw [run_neq_struct, run_equalIn_struct w 9999 34 _ _ under34 held34]
  simp only [Program.fieldsOf, Try.underlying34]
  simp [go_sem, Op.eqFields, part]

set_option maxHeartbeats 1000000 in
theorem samej_any (w : World) (v1 v2 : Value) (J : Jb.Ls) (h1 : Jb.Reads w v1 J) (h2 : Jb.Reads w v2 J) :
    Calls Try.prog 10 #[v1, v2] w fun e w' => e = .returned (.bool true) ∧ Below w.heap.size w w' := by
  by_cases hL : J = []
  · subst hL
    obtain ⟨a, cap, rfl⟩ := h1.form
    obtain ⟨a2, cap2, rfl⟩ := h2.form
    clear h1 h2
    go_enter Try.func10, Try.ntmps10
    go_wp2
    go_loop [5] (fun i => i = .int .i64 0) (fun _ => 0)
    case atStart => rfl
    case round =>
      subst hrel
      go_wp2
      go_ret
      exact ⟨rfl, Below.refl _ _⟩
  · have hf := h1.fits
    rcases h1 with ⟨e, _⟩ | ⟨b1, o1, d1, rfl, x1, x2, x3, x4⟩
    · exact absurd e hL
    rcases h2 with ⟨e, _⟩ | ⟨b2, o2, d2, rfl, y1, y2, y3, y4⟩
    · exact absurd e hL
    have K1 : Hid (∀ i, i < J.length → Jb.Cs w b1 o1 J i) := x4
    have K2 : Hid (∀ i, i < J.length → Jb.Cs w b2 o2 J i) := y4
    obtain ⟨n, hn⟩ : ∃ n, n = J.length := ⟨_, rfl⟩
    rw [← hn] at x1 y1 hf ⊢
    have HN : Hid (n = J.length) := hn
    unfold maxLen at x2 y2
    clear x4 y4 hn hL
    go_enter Try.func10, Try.ntmps10
    go_wp2
    go_loopw [5] (fun i wr => ∃ k m : Nat, k ≤ n ∧ i = .int .i64 k ∧ wr = w.drewN m) (fun i _ => n - (intOf i).toNat)
    case atStart => exact ⟨0, 0, Nat.zero_le _, rfl, rfl⟩
    case round =>
      obtain ⟨k, m, hk, rfl, hwr⟩ := hrel
      by_cases hlt : k < n
      · have i0 : (0 : Int) ≤ (k : Int) := by omega
        have i1 : (k : Int) < (n : Int) := by omega
        obtain ⟨q0, q1⟩ := K1.out k (by rw [← HN.out]; exact hlt)
        obtain ⟨r0, r1⟩ := K2.out k (by rw [← HN.out]; exact hlt)
        generalize Jb.c0 J k = u0 at *
        generalize Jb.c1 J k = u1 at *
        subst hwr
        have hne := neq34 u0 u1
        have hgd := guard34
        go_wp2_with fail
        go_quiet (fail)
        go_wp2_with fail
        go_roundw
        case rel => exact ⟨k + 1, _, by omega, by go_num, rfl⟩
        case measure => simp [intOf]; omega
      · subst hwr
        go_wp2
        go_ret
        exact ⟨rfl, Rd.below_drewN (Below.refl _ _) _⟩

set_option maxHeartbeats 1000000 in
theorem samei_any (L : List Int) (v1 v2 : Value) (w : World) (h1 : Lists.Reads w v1 L) (h2 : Lists.Reads w v2 L) :
    Calls Try.prog 14 #[v1, v2] w fun e w' => e = .returned (.bool true) ∧ Below w.heap.size w w' := by
  by_cases hL : L = []
  · subst hL
    obtain ⟨a, cap, rfl⟩ := h1.form
    obtain ⟨a2, cap2, rfl⟩ := h2.form
    clear h1 h2
    go_enter Try.func14, Try.ntmps14
    go_wp2
    go_loop [5] (fun i => i = .int .i64 0) (fun _ => 0)
    case atStart => rfl
    case round =>
      subst hrel
      go_wp2
      go_ret
      exact ⟨rfl, Below.refl _ _⟩
  · rcases h1 with ⟨e, _⟩ | ⟨b1, o1, d1, rfl, x1, x2, x3, x4⟩
    · exact absurd e hL
    rcases h2 with ⟨e, _⟩ | ⟨b2, o2, d2, rfl, y1, y2, y3, y4⟩
    · exact absurd e hL
    have K1 : Hid (∀ i, i < L.length → w.cell? ⟨b1, o1 + i, none⟩ = some (.int .i64 (L.getD i 0))) := x4
    have K2 : Hid (∀ i, i < L.length → w.cell? ⟨b2, o2 + i, none⟩ = some (.int .i64 (L.getD i 0))) := y4
    obtain ⟨n, hn⟩ : ∃ n, n = L.length := ⟨_, rfl⟩
    rw [← hn] at x1 y1 ⊢
    have HN : Hid (n = L.length) := hn
    unfold maxLen at x2 y2
    clear x4 y4 hn hL
    go_enter Try.func14, Try.ntmps14
    go_wp2
    go_loopw [5] (fun i wr => ∃ k m : Nat, k ≤ n ∧ i = .int .i64 k ∧ wr = w.drewN m) (fun i _ => n - (intOf i).toNat)
    case atStart => exact ⟨0, 0, Nat.zero_le _, rfl, rfl⟩
    case round =>
      obtain ⟨k, m, hk, rfl, hwr⟩ := hrel
      by_cases hlt : k < n
      · have q1 := K1.out k (by rw [← HN.out]; exact hlt)
        have q2 := K2.out k (by rw [← HN.out]; exact hlt)
        have i0 : (0 : Int) ≤ (k : Int) := by omega
        have i1 : (k : Int) < (n : Int) := by omega
        generalize L.getD k 0 = z at *
        have hne : (z != z) = false := by simp
        subst hwr
        go_wp2_with fail
        go_quiet (fail)
        go_wp2_with fail
        go_roundw
        case rel => exact ⟨k + 1, _, by omega, by go_num, rfl⟩
        case measure => simp [intOf]; omega
      · subst hwr
        go_wp2
        go_ret
        exact ⟨rfl, Rd.below_drewN (Below.refl _ _) _⟩
end Go.Proofs.Ytfhpomfdkpfooaa.Ty
