/- Lists of pairs compared up to which missing number. -/
import Derived.Test.YtplichonohoacaaPr
import Derived.Deep.RegionHeld3
namespace Go.Proofs.Ytplichonohoacaa.Pr
open Go.ChangeShapes Go.WideShapes Go.ChangeAt Go.RowKit
open Go.Proofs.Ytplichonohoacaa.Flt
attribute [local go_sem] run_store_float
set_option maxHeartbeats 1000000 in
theorem eq1_cn (x0 x1 y0 y1 : Nat) (w : World) (h0 : cn x0 = cn y0) (h1 : cn x1 = cn y1) : Calls Try.prog 29 #[.agg #[.float .f64 x0, .float .f64 x1], .agg #[.float .f64 y0, .float .f64 y1]] w fun e w' => e = .returned (.bool true) ∧ Below w.heap.size w w' := by
  have H0 : Hid (cn x0 = cn y0) := h0
  have H1 : Hid (cn x1 = cn y1) := h1
  clear h0 h1
  go_enter Try.func29, Try.ntmps29
  go_wp2_with fail
  refine (sf_cn _ _ _ H0.out).mono ?_
  rintro e w1 ⟨rfl, rfl⟩
  go_wp2_with fail
  refine (sf_cn _ _ _ H1.out).mono ?_
  rintro e w1 ⟨rfl, rfl⟩
  go_wp2_with fail
  go_ret
  exact ⟨rfl, ((Below.refl _ _).alloc (Nat.le_refl _) _).alloc (by simp) _⟩

set_option maxHeartbeats 1000000 in
theorem eq_cn (w : World) (v1 v2 : Value) (L M : Ls) (hl : L.length = M.length) (hc : ∀ k, cn (c0 L k) = cn (c0 M k) ∧ cn (c1 L k) = cn (c1 M k)) (h1 : Reads w v1 L) (h2 : Reads w v2 M) :
    Calls Try.prog 14 #[v1, v2] w fun e w' => e = .returned (.bool true) ∧ Below w.heap.size w w' := by
  by_cases hL : L = []
  · subst hL
    have hM : M = [] := List.eq_nil_of_length_eq_zero hl.symm
    subst hM
    obtain ⟨a, cap, rfl⟩ := h1.form
    obtain ⟨a2, cap2, rfl⟩ := h2.form
    exact eq_zero w _ _ _ _
  · rcases h1 with ⟨e, _⟩ | ⟨b1, o1, d1, rfl, x1, x2, x3, x4⟩
    · exact absurd e hL
    rcases h2 with ⟨e, _⟩ | ⟨b2, o2, d2, rfl, y1, y2, y3, y4⟩
    · subst e; exact absurd (List.eq_nil_of_length_eq_zero hl) hL
    have K1 : Hid (b1 < w.heap.size ∧ ∀ i, i < L.length → Cs w b1 o1 L i) := ⟨x3, x4⟩
    have K2 : Hid (b2 < w.heap.size ∧ ∀ i, i < M.length → Cs w b2 o2 M i) := ⟨y3, y4⟩
    have KC : Hid (∀ k, cn (c0 L k) = cn (c0 M k) ∧ cn (c1 L k) = cn (c1 M k)) := hc
    obtain ⟨n, hn⟩ : ∃ n, n = L.length := ⟨_, rfl⟩
    rw [← hl, ← hn] at y1 ⊢
    rw [← hn] at x1
    have HN : Hid (n = L.length) := hn
    have HM : Hid (n = M.length) := hn.trans hl
    unfold maxLen at x2 y2
    clear x4 y4 hn hL hl hc
    go_enter Try.func14, Try.ntmps14
    go_wp2
    go_loopw [5] (fun i wr => ∃ k : Nat, k ≤ n ∧ i = .int .i64 k ∧ Hid (Below w.heap.size w wr)) (fun i _ => n - (intOf i).toNat)
    case atStart => exact ⟨0, Nat.zero_le _, rfl, Below.refl _ _⟩
    case round =>
      obtain ⟨k, hk, rfl, BR⟩ := hrel
      by_cases hlt : k < n
      · have i0 : (0 : Int) ≤ (k : Int) := by omega
        have i1 : (k : Int) < (n : Int) := by omega
        obtain ⟨q0, q1⟩ : Cs wr b1 o1 L k := (K1.out.2 k (by rw [← HN.out]; exact hlt)).below BR.out K1.out.1
        obtain ⟨r0, r1⟩ : Cs wr b2 o2 M k := (K2.out.2 k (by rw [← HM.out]; exact hlt)).below BR.out K2.out.1
        have HZ : Hid (cn (c0 L k) = cn (c0 M k) ∧ cn (c1 L k) = cn (c1 M k)) := KC.out k
        generalize c0 L k = u0 at *
        generalize c1 L k = u1 at *
        generalize c0 M k = m0 at *
        generalize c1 M k = m1 at *
        go_wp2_with fail
        go_region_held3 (fun w' => w'.cell? ⟨b1, o1 + k * 2, none⟩ = some (.float .f64 u0) ∧ w'.cell? ⟨b1, o1 + k * 2 + 1, none⟩ = some (.float .f64 u1) ∧ w'.cell? ⟨b2, o2 + k * 2, none⟩ = some (.float .f64 m0) ∧ w'.cell? ⟨b2, o2 + k * 2 + 1, none⟩ = some (.float .f64 m1)) (go_keep)
          (first
          | (go_at_call 29; refine (eq1_cn _ _ _ _ _ HZ.out.1 HZ.out.2).mono ?_; rintro e w1 ⟨rfl, hb1⟩; have B1 := BR.out.drew.trans (hb1.mono BR.out.size); have k1 := K1.out.1; have k2 := K2.out.1; have s0 := (hb1.cell (p := ⟨b1, o1 + k * 2, none⟩) (Nat.lt_of_lt_of_le k1 BR.out.size)).trans q0; have s1 := (hb1.cell (p := ⟨b1, o1 + k * 2 + 1, none⟩) (Nat.lt_of_lt_of_le k1 BR.out.size)).trans q1; have t0 := (hb1.cell (p := ⟨b2, o2 + k * 2, none⟩) (Nat.lt_of_lt_of_le k2 BR.out.size)).trans r0; have t1 := (hb1.cell (p := ⟨b2, o2 + k * 2 + 1, none⟩) (Nat.lt_of_lt_of_le k2 BR.out.size)).trans r1))
        go_wp2_with fail
        go_roundw
        case rel => exact ⟨k + 1, by omega, by go_num, B1⟩
        case measure => simp [intOf]; omega
      · go_wp2
        go_ret
        exact ⟨rfl, BR.out⟩

end Go.Proofs.Ytplichonohoacaa.Pr
