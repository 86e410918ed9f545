/- Cut: the program; the law, with both answers in it. -/
import Derived.Test.YtgnnmepjdmcecaaCu
namespace Go.Proofs.Ytgnnmepjdmcecaa.Cu
open Go.ChangeShapes Go.WideShapes Go.ChangeAt Go.RowKit
open Go.Proofs.Ytgnnmepjdmcecaa.Pr
attribute [local go_sem] Pr.run_store_float

theorem zeros_at (n i : Nat) (h : i < n * 2) : (madeCells (Value.agg #[.float .f64 0, .float .f64 0]).cells (n * 2)).toList[i]? = some (.float .f64 0) := by
  have e : i % 2 = 0 ∨ i % 2 = 1 := by omega
  rcases e with e | e <;> simp [madeCells, Value.cells, h, e]
/-- what is not reached yet is nought -/
def Zs (xs : List Value) (j n : Nat) : Prop := ∀ i, j ≤ i → i < n → xs[i * 2]? = some (.float .f64 0) ∧ xs[i * 2 + 1]? = some (.float .f64 0)

set_option maxHeartbeats 1000000 in
theorem icut_any (L : Ls) (keep : Int) (w : World) (v : Value) (h : Reads w v L) :
    Calls Try.prog 9 #[v, .int .i64 keep] w fun e w' => ∃ v', e = .returned v' ∧ Row w' w.heap.size v' (cutA L keep) ∧ Below w.heap.size w w' := by
  have HF := h.fits
  have C1 : Hid (∀ w, Calls Try.prog 17 #[.int .i64 (L.length : Int), .int .i64 36] w fun e w' => e = .returned (.bool (lg L.length)) ∧ w' = w) := fun w => div_any _ HF w
  unfold cutA
  cases hlg : lg L.length
  · rw [hlg] at C1
    obtain ⟨a, cap, rfl⟩ := h.form
    have R0 : Hid (Row w w.heap.size (.slice none 0 0) []) := ⟨[], World.ownsRow_nil _ _ _ _, fun i hi => absurd hi (by simp)⟩
    clear h hlg
    simp only [Bool.false_eq_true, if_false]
    generalize L.length = n at *
    go_enter Try.func9, Try.ntmps9
    go_wp2_with fail
    refine (C1.out _).mono ?_
    rintro e w1 ⟨rfl, hw⟩
    have hw' := hw.symm
    subst hw'
    go_wp2_with fail
    go_ret
    exact ⟨_, rfl, R0.out, Below.refl _ _⟩
  · rw [hlg] at C1
    have hle := lg_le hlg
    rw [if_pos rfl]
    obtain ⟨b, o, hc, hv⟩ := cells_at h
    obtain ⟨bl, cap, rfl⟩ := hv (by omega)
    have HC : Hid (∀ i, i < L.length → Cs w b o L i) := hc
    obtain ⟨i0, hi, hz0, hz1, hz2⟩ := info_parts Pr.Try.infoE
    obtain ⟨n, hn⟩ : ∃ n, n = L.length := ⟨_, rfl⟩
    have HN : Hid (n = L.length) := hn
    rw [← hn] at hle C1 HF ⊢
    have HBL : Hid (b < w.heap.size) := bl
    obtain ⟨C, hC⟩ : ∃ C, C = cutL L n keep n := ⟨_, rfl⟩
    have HCL : Hid (C.length = n) := (by show _ = _; rw [hC]; exact cutL_len L n keep n)
    have HCA : Hid (∀ k, k < n → c0 C k = (ce L n keep k).1 ∧ c1 C k = (ce L n keep k).2) := fun k hk => by
      have := cutL_at L n keep n k hk
      unfold c0 c1
      rw [hC, this]
      exact ⟨rfl, rfl⟩
    rw [← hC]
    clear h hc hv hn hlg bl hC
    go_enter Try.func9, Try.ntmps9
    go_wp2_with fail
    refine (C1.out _).mono ?_
    rintro e w1 ⟨rfl, hw⟩
    have hw' := hw.symm
    subst hw'
    go_wp2_with (at_make; refine wpList_make_full _ rfl _ _ 24 rfl w.heap.size 29 i0 (.agg #[.float .f64 0, .float .f64 0]) 2 Try.underlying24 hi hz0 hz1 .i64 .i64 (n : Int) (n : Int) n rfl rfl rfl rfl (by rw [hz2]; omega) (by unfold maxLen; omega) (Nat.le_refl _) ?_; intro w4 hown hgrow)
    have R0 : Hid (∃ xs, w4.ownsRow w.heap.size 29 2 (.slice (some ⟨w.heap.size, 0, none⟩) n n) n xs ∧ Pr.Good xs C 0 ∧ Zs xs 0 n) := ⟨_, hown, fun i hi => absurd hi (by omega), fun i _ h2 => ⟨zeros_at n _ (by omega), zeros_at n _ (by omega)⟩⟩
    have B0 : Hid (Below w.heap.size w w4) := (Below.refl _ _).grown hgrow (Nat.le_refl _) (fun k hk => by cases hk)
    clear hown hgrow
    go_loopw [16] (fun i wr => ∃ k : Nat, k ≤ n ∧ i = .int .i64 k ∧ Hid (∃ xs, wr.ownsRow w.heap.size 29 2 (.slice (some ⟨w.heap.size, 0, none⟩) n n) n xs ∧ Pr.Good xs C k ∧ Zs xs k n) ∧ Hid (Below w.heap.size w wr)) (fun i _ => n - (intOf i).toNat)
    case atStart => exact ⟨0, Nat.zero_le _, rfl, R0, B0⟩
    case round =>
      obtain ⟨k, hk, rfl, R, BB⟩ := hrel
      by_cases hlt : k < n
      · obtain ⟨q0, q1⟩ : Cs wr b o L k := (HC.out k (by have := HN.out; omega)).below BB.out HBL.out
        obtain ⟨xs, RX, GX, ZX⟩ := R.out
        have lx : xs.length = n * 2 := RX.1
        have p1 : (0 : Int) ≤ (k : Int) := by omega
        have p2 : (k : Int) < (n : Int) := by omega
        have wn : IntKind.i64.wrap ((n : Int) - k) = (n : Int) - k := IntWalk.i64_in _ (by omega)
        obtain ⟨z0, t0⟩ : ∃ z, wr.cell? ⟨w.heap.size, k * 2, none⟩ = some z := ⟨xs[k * 2]'(by omega), by rw [RX.cellAt (k * 2) (by omega)]; exact List.getElem?_eq_getElem _⟩
        obtain ⟨z1, t1⟩ : ∃ z, wr.cell? ⟨w.heap.size, k * 2 + 1, none⟩ = some z := ⟨xs[k * 2 + 1]'(by omega), by rw [RX.cellAt (k * 2 + 1) (by omega)]; exact List.getElem?_eq_getElem _⟩
        have f0 : wr.frozen? ⟨w.heap.size, k * 2, none⟩ = false := RX.frozenAt _
        have f1 : wr.frozen? ⟨w.heap.size, k * 2 + 1, none⟩ = false := RX.frozenAt _
        have YES : Hid (mn n k ≤ keep → ∃ xs', ((wr.setCell ⟨w.heap.size, k * 2, none⟩ (.float .f64 (c0 L k))).setCell ⟨w.heap.size, k * 2 + 1, none⟩ (.float .f64 (c1 L k))).ownsRow w.heap.size 29 2 (.slice (some ⟨w.heap.size, 0, none⟩) n n) n xs' ∧ Pr.Good xs' C (k + 1) ∧ Zs xs' (k + 1) n) := fun hm => by
          have e := HCA.out k hlt
          unfold ce at e
          rw [if_pos hm] at e
          refine ⟨_, ((RX.stored (k * 2) _).1.stored (k * 2 + 1) _).1, ?_, fun i h1 h2 => ?_⟩
          · have := GX.next (j := k) (by omega)
            rw [e.1, e.2] at this
            exact this
          · obtain ⟨a, b⟩ := ZX i (by omega) h2
            exact ⟨by rw [List.getElem?_set_ne (by omega), List.getElem?_set_ne (by omega)]; exact a, by rw [List.getElem?_set_ne (by omega), List.getElem?_set_ne (by omega)]; exact b⟩
        have BY : Hid (Below w.heap.size w ((wr.setCell ⟨w.heap.size, k * 2, none⟩ (.float .f64 (c0 L k))).setCell ⟨w.heap.size, k * 2 + 1, none⟩ (.float .f64 (c1 L k)))) := ((BB.out.setCell (Nat.le_refl _) _).setCell (Nat.le_refl _) _)
        have NO : Hid (¬ mn n k ≤ keep → ∃ xs', wr.ownsRow w.heap.size 29 2 (.slice (some ⟨w.heap.size, 0, none⟩) n n) n xs' ∧ Pr.Good xs' C (k + 1) ∧ Zs xs' (k + 1) n) := fun hm => by
          have e := HCA.out k hlt
          unfold ce at e
          rw [if_neg hm] at e
          refine ⟨xs, RX, fun i hi => ?_, fun i h1 h2 => ZX i (by omega) h2⟩
          by_cases e' : i = k
          · subst e'
            rw [e.1, e.2]
            exact ZX i (Nat.le_refl _) hlt
          · exact GX i (by omega)
        have ML : Hid (mn n k = if (k : Int) ≤ (n : Int) - k then (k : Int) else (n : Int) - k) := rfl
        clear RX GX ZX R lx
        generalize hx0 : c0 L k = x0 at *
        generalize hx1 : c1 L k = x1 at *
        generalize mn n k = mm at *
        clear hx0 hx1
        by_cases hmin : (k : Int) ≤ (n : Int) - k
        · have hm : mm = (k : Int) := by rw [ML.out]; split <;> omega
          rw [hm] at YES NO
          clear ML hm
          by_cases hkeep : (k : Int) ≤ keep
          · have RN := YES.out hkeep
            have RN' : Hid (∃ xs', ((wr.setCell ⟨w.heap.size, k * 2, none⟩ (.float .f64 x0)).setCell ⟨w.heap.size, k * 2 + 1, none⟩ (.float .f64 x1)).ownsRow w.heap.size 29 2 (.slice (some ⟨w.heap.size, 0, none⟩) n n) n xs' ∧ Pr.Good xs' C (k + 1) ∧ Zs xs' (k + 1) n) := RN
            clear RN YES NO
            go_wp2_with fail
            go_roundw
            case rel => exact ⟨k + 1, by omega, by go_num, RN', BY⟩
            case measure => simp [intOf]; omega
          · have RN := NO.out hkeep
            have RN' : Hid (∃ xs', wr.ownsRow w.heap.size 29 2 (.slice (some ⟨w.heap.size, 0, none⟩) n n) n xs' ∧ Pr.Good xs' C (k + 1) ∧ Zs xs' (k + 1) n) := RN
            clear RN YES NO
            go_wp2_with fail
            go_roundw
            case rel => exact ⟨k + 1, by omega, by go_num, RN', BB⟩
            case measure => simp [intOf]; omega
        · have hm : mm = (n : Int) - k := by rw [ML.out]; split <;> omega
          rw [hm] at YES NO
          clear ML hm
          by_cases hkeep : (n : Int) - k ≤ keep
          · have RN := YES.out hkeep
            have RN' : Hid (∃ xs', ((wr.setCell ⟨w.heap.size, k * 2, none⟩ (.float .f64 x0)).setCell ⟨w.heap.size, k * 2 + 1, none⟩ (.float .f64 x1)).ownsRow w.heap.size 29 2 (.slice (some ⟨w.heap.size, 0, none⟩) n n) n xs' ∧ Pr.Good xs' C (k + 1) ∧ Zs xs' (k + 1) n) := RN
            clear RN YES NO
            go_wp2_with fail
            go_roundw
            case rel => exact ⟨k + 1, by omega, by go_num, RN', BY⟩
            case measure => simp [intOf]; omega
          · have RN := NO.out hkeep
            have RN' : Hid (∃ xs', wr.ownsRow w.heap.size 29 2 (.slice (some ⟨w.heap.size, 0, none⟩) n n) n xs' ∧ Pr.Good xs' C (k + 1) ∧ Zs xs' (k + 1) n) := RN
            clear RN YES NO
            go_wp2_with fail
            go_roundw
            case rel => exact ⟨k + 1, by omega, by go_num, RN', BB⟩
            case measure => simp [intOf]; omega
      · have hkn : k = n := by omega
        subst hkn
        have RE : Hid (Row wr w.heap.size (.slice (some ⟨w.heap.size, 0, none⟩) k k) C) := (by
          obtain ⟨xs, RX, GX, _⟩ := R.out
          refine ⟨xs, ?_, ?_⟩
          · rw [HCL.out]; exact RX
          · rw [HCL.out]; exact GX)
        clear R
        go_wp2_with fail
        go_ret
        exact ⟨_, rfl, RE.out, BB.out⟩
end Go.Proofs.Ytgnnmepjdmcecaa.Cu
