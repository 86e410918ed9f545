/- The greatest quotient: the model. -/
import Derived.Test.YtpcgnahjibfphaaLpB
namespace Go.Proofs.Ytpcgnahjibfphaa.Flt
open Go.ChangeShapes Go.WideShapes Go.ChangeAt Go.RowKit
attribute [local go_sem] run_store_float

abbrev inf (n : Int) (x : Nat) : Ending := .returned (.tuple #[.int .i64 n, .float .f64 x])
set_option maxHeartbeats 1000000 in
theorem slap_no (w : World) (v : Value) (L : Lv) (h : Reads w v L) (hk : lok L = false) :
    Calls Try.prog 25 #[v] w fun e w' => e = inf (-1) 0 ∧ Below w.heap.size w w' := by
  have H0 : Hid (Reads w v L) := h
  obtain ⟨a, cap, rfl⟩ := h.form
  clear h
  go_enter Try.func25, Try.ntmps25
  go_wp2_with fail
  refine (sok_any _ _ L H0.out).mono ?_
  rintro e w1 ⟨rfl, b1⟩
  rw [hk]
  have B1 : Hid (Below w.heap.size w w1) := b1
  clear b1
  go_wp2_with fail
  go_ret2
  exact ⟨rfl, B1.out⟩

/-- What the loop has found ahead of its k-th round. -/
def bst (L : Lv) (k : Nat) : Nat × Nat := match k with
  | 0 => (0, 0)
  | m + 1 => best L m
theorem bst_one (L : Lv) : bst L 1 = (0, lapse L 0) := rfl
theorem bst_succ (L : Lv) (m : Nat) : bst L (m + 1 + 1) = if ord (lapse L (m + 1)) (bst L (m + 1)).2 == some .gt then (m + 1, lapse L (m + 1)) else bst L (m + 1) := rfl
theorem bst_next (L : Lv) (k : Nat) : bst L (k + 1) = if (k : Int) == 0 || ord (lapse L k) (bst L k).2 == some .gt then (k, lapse L k) else bst L k := by
  cases k with
  | zero => rfl
  | succ m =>
    have e : (((m + 1 : Nat) : Int) == 0) = false := by simp; omega
    rw [e, Bool.false_or]
    exact bst_succ L m
theorem bst_le' (L : Lv) (k : Nat) : (bst L k).1 ≤ k := by
  cases k with
  | zero => exact Nat.le_refl _
  | succ m => exact Nat.le_succ_of_le (best_le L m)
theorem bst_le (L : Lv) (m : Nat) : (bst L (m + 1)).1 ≤ m := best_le L m

set_option maxHeartbeats 1000000 in
theorem slap_yes (w : World) (v : Value) (L : Lv) (h : Reads w v L) (hk : lok L = true) :
    Calls Try.prog 25 #[v] w fun e w' => e = inf (best L (L.length - 2)).1 (best L (L.length - 2)).2 ∧ Below w.heap.size w w' := by
  obtain ⟨h2, h4, hok⟩ := lok_size hk
  have OK : Hid (∀ j, j < L.length → okAt L j = true) := hok
  have H0 : Hid (Reads w v L) := h
  rcases h with ⟨rfl, _⟩ | ⟨b, o, c, rfl, x1, x2, x3, x4⟩
  · simp at h2
  have K : Hid (b < w.heap.size ∧ ∀ i, i < L.length → w.cell? ⟨b, o + i * 2, none⟩ = some (.int .i64 (pOf L i)) ∧ w.cell? ⟨b, o + i * 2 + 1, none⟩ = some (.float .f64 (tOf L i))) := ⟨x3, x4⟩
  obtain ⟨n, hn⟩ : ∃ n, n = L.length := ⟨_, rfl⟩
  rw [← hn] at x1 h2 h4 H0 ⊢
  have HN : Hid (n = L.length) := hn
  unfold maxLen at x2
  clear x4 hn hok
  go_enter Try.func25, Try.ntmps25
  go_wp2_with fail
  refine (sok_any _ _ L H0.out).mono ?_
  rintro e w1 ⟨rfl, b1⟩
  rw [hk]
  have B1 : Hid (Below w.heap.size w w1) := b1
  clear b1
  go_wp2_with fail
  go_loopw [4, 5, 6] (fun a m i wr => ∃ k : Nat, k + 1 ≤ n ∧ i = .int .i64 k ∧ a = .int .i64 (bst L k).1 ∧ m = .float .f64 (bst L k).2 ∧ Hid (Below w.heap.size w wr)) (fun _ _ i _ => n - (intOf i).toNat)
  case atStart => exact ⟨0, by omega, rfl, rfl, rfl, B1⟩
  case round =>
    obtain ⟨k, hkn, rfl, rfl, rfl, BR⟩ := hrel
    by_cases hlt : k + 1 < n
    · skip
      have hlt2 : k + 1 < L.length := by rw [← HN.out]; omega
      have hS : ∀ w, (binOp .sub 29 (.float .f64 (tOf L k)) (.float .f64 (tOf L (k + 1)))).run Try.prog w = .ok (.float .f64 (fall L k)) w := fun w => run_float_arith w .sub 29 .f64 _ _ _ (fall_run OK.out hlt2).1
      have hQ : ∀ w, (binOp .quo 29 (.float .f64 (fall L k)) (.float .f64 (floatOfInt .f64 (pOf L k - pOf L (k + 1))))).run Try.prog w = .ok (.float .f64 (lapse L k)) w := fun w => run_float_arith w .quo 29 .f64 _ _ _ (lapse_run OK.out hlt2)
      obtain ⟨f1, f2, f3⟩ := ok_fall OK.out hlt2
      have q1 : wr.cell? ⟨b, o + k * 2, none⟩ = some (.int .i64 (pOf L k)) := (BR.out.cell (p := ⟨b, o + k * 2, none⟩) K.out.1).trans (K.out.2 k (by omega)).1
      have q2 : wr.cell? ⟨b, o + k * 2 + 1, none⟩ = some (.float .f64 (tOf L k)) := (BR.out.cell (p := ⟨b, o + k * 2 + 1, none⟩) K.out.1).trans (K.out.2 k (by omega)).2
      have q3 : wr.cell? ⟨b, o + (k + 1) * 2, none⟩ = some (.int .i64 (pOf L (k + 1))) := (BR.out.cell (p := ⟨b, o + (k + 1) * 2, none⟩) K.out.1).trans (K.out.2 (k + 1) hlt2).1
      have q4 : wr.cell? ⟨b, o + (k + 1) * 2 + 1, none⟩ = some (.float .f64 (tOf L (k + 1))) := (BR.out.cell (p := ⟨b, o + (k + 1) * 2 + 1, none⟩) K.out.1).trans (K.out.2 (k + 1) hlt2).2
      generalize fall L k = fl at *
      generalize tOf L k = t0 at *
      generalize tOf L (k + 1) = t1 at *
      generalize pOf L k = p0 at *
      generalize pOf L (k + 1) = p1 at *
      have HB : Hid (bst L (k + 1) = if (k : Int) == 0 || ord (lapse L k) (bst L k).2 == some .gt then (k, lapse L k) else bst L k) := bst_next L k
      have HL : Hid ((bst L k).1 ≤ k) := bst_le' L k
      generalize lapse L k = la at *
      obtain ⟨bs, hbs⟩ : ∃ bs, bst L k = bs := ⟨_, rfl⟩
      obtain ⟨ba, bm⟩ := bs
      rw [hbs] at HB HL ⊢
      have HL' : ba ≤ k := HL.out
      dsimp only at HB ⊢
      have j1 : (k : Int) + 1 < (n : Int) := by omega
      have j2 : (k : Int) < (n : Int) := by omega
      have j3 : (0 : Int) ≤ (k : Int) := by omega
      have j4 : (0 : Int) ≤ (k : Int) + 1 := by omega
      have j5 : IntKind.i64.wrap ((k : Int) + 1) = (k : Int) + 1 := IntWalk.i64_in _ (by omega)
      have j7 : IntKind.i64.wrap (p0 - p1) = p0 - p1 := IntWalk.i64_in _ (by omega)
      have j6 : IntKind.i64.wrap (k : Int) = (k : Int) := IntWalk.i64_in _ (by omega)
      clear hlt2 hbs
      cases c0 : ((k : Int) == 0)
      · cases c1 : (ord la bm == some .gt)
        · have HB2 : Hid (bst L (k + 1) = (ba, bm)) := (by show _ = _; rw [HB.out, c0, c1]; rfl)
          go_wp2_with fail
          go_region_held3 (fun w' => w'.cell? ⟨b, o + k * 2, none⟩ = some (.int .i64 p0) ∧ w'.cell? ⟨b, o + k * 2 + 1, none⟩ = some (.float .f64 t0) ∧ w'.cell? ⟨b, o + (k + 1) * 2, none⟩ = some (.int .i64 p1) ∧ w'.cell? ⟨b, o + (k + 1) * 2 + 1, none⟩ = some (.float .f64 t1)) (go_keep) (fail)
          go_wp2_with fail
          go_region_held3 (fun w' => w'.cell? ⟨b, o + k * 2, none⟩ = some (.int .i64 p0) ∧ w'.cell? ⟨b, o + k * 2 + 1, none⟩ = some (.float .f64 t0) ∧ w'.cell? ⟨b, o + (k + 1) * 2, none⟩ = some (.int .i64 p1) ∧ w'.cell? ⟨b, o + (k + 1) * 2 + 1, none⟩ = some (.float .f64 t1)) (go_keep) (fail)
          go_wp2_with fail
          go_roundw
          case rel => exact ⟨k + 1, by omega, by go_num, by rw [HB2.out], by rw [HB2.out], BR.out.drew.drew⟩
          case measure => simp [intOf]; omega
        · have HB2 : Hid (bst L (k + 1) = (k, la)) := (by show _ = _; rw [HB.out, c0, c1]; rfl)
          go_wp2_with fail
          go_region_held3 (fun w' => w'.cell? ⟨b, o + k * 2, none⟩ = some (.int .i64 p0) ∧ w'.cell? ⟨b, o + k * 2 + 1, none⟩ = some (.float .f64 t0) ∧ w'.cell? ⟨b, o + (k + 1) * 2, none⟩ = some (.int .i64 p1) ∧ w'.cell? ⟨b, o + (k + 1) * 2 + 1, none⟩ = some (.float .f64 t1)) (go_keep) (fail)
          go_wp2_with fail
          go_region_held3 (fun w' => w'.cell? ⟨b, o + k * 2, none⟩ = some (.int .i64 p0) ∧ w'.cell? ⟨b, o + k * 2 + 1, none⟩ = some (.float .f64 t0) ∧ w'.cell? ⟨b, o + (k + 1) * 2, none⟩ = some (.int .i64 p1) ∧ w'.cell? ⟨b, o + (k + 1) * 2 + 1, none⟩ = some (.float .f64 t1)) (go_keep) (fail)
          go_wp2_with fail
          go_roundw
          case rel => exact ⟨k + 1, by omega, by go_num, by rw [HB2.out], by rw [HB2.out], BR.out.drew.drew⟩
          case measure => simp [intOf]; omega
      · have HB2 : Hid (bst L (k + 1) = (k, la)) := (by show _ = _; rw [HB.out, c0]; rfl)
        go_wp2_with fail
        go_region_held3 (fun w' => w'.cell? ⟨b, o + k * 2, none⟩ = some (.int .i64 p0) ∧ w'.cell? ⟨b, o + k * 2 + 1, none⟩ = some (.float .f64 t0) ∧ w'.cell? ⟨b, o + (k + 1) * 2, none⟩ = some (.int .i64 p1) ∧ w'.cell? ⟨b, o + (k + 1) * 2 + 1, none⟩ = some (.float .f64 t1)) (go_keep) (fail)
        go_wp2_with fail
        go_region_held3 (fun w' => w'.cell? ⟨b, o + k * 2, none⟩ = some (.int .i64 p0) ∧ w'.cell? ⟨b, o + k * 2 + 1, none⟩ = some (.float .f64 t0) ∧ w'.cell? ⟨b, o + (k + 1) * 2, none⟩ = some (.int .i64 p1) ∧ w'.cell? ⟨b, o + (k + 1) * 2 + 1, none⟩ = some (.float .f64 t1)) (go_keep) (fail)
        go_wp2_with fail
        go_roundw
        case rel => exact ⟨k + 1, by omega, by go_num, by rw [HB2.out], by rw [HB2.out], BR.out.drew.drew⟩
        case measure => simp [intOf]; omega
    · have j1 : ¬ (k : Int) + 1 < (n : Int) := by omega
      have j5 : IntKind.i64.wrap ((k : Int) + 1) = (k : Int) + 1 := IntWalk.i64_in _ (by omega)
      have HB : Hid (bst L k = best L (n - 2)) := (by show _ = _; obtain ⟨m, rfl⟩ : ∃ m, k = m + 1 := ⟨k - 1, (by omega)⟩; have e1 : n - 2 = m := (by omega); rw [e1]; rfl)
      rw [HB.out]
      go_wp2_with fail
      go_ret2
      exact ⟨rfl, BR.out⟩
end Go.Proofs.Ytpcgnahjibfphaa.Flt
