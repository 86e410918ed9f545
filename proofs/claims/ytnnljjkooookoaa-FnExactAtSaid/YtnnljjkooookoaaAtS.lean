/- Whether values fit a grid; where a place lies: the program and its model. -/
import Derived.Test.YtnnljjkooookoaaAtC
namespace Go.Proofs.Ytnnljjkooookoaa.Gd
open Go.ChangeShapes Go.WideShapes Go.ChangeAt Go.RowKit
open Go.Proofs.Ytnnljjkooookoaa.Flt

set_option maxHeartbeats 1000000 in
theorem sright_any (r c s ws st : Int) (n : Nat) (w : World) : Calls Try.prog 10 #[gv r c s ws st, .int .i64 (n : Int)] w fun e w' => e = .returned (.bool (right r c s ws st n)) ∧ Below w.heap.size w w' := by
  obtain ⟨w0, hw0⟩ : ∃ w0, w0 = w.alloc (Obj.cells #[.int .i64 r, .int .i64 c, .int .i64 s, .int .i64 ws, .int .i64 st] 27) := ⟨_, rfl⟩
  have HW : Hid (w0 = w.alloc (Obj.cells #[.int .i64 r, .int .i64 c, .int .i64 s, .int .i64 ws, .int .i64 st] 27)) := hw0
  have B0 : Hid (Below w.heap.size w w0) := (by show Below _ _ _; rw [hw0]; exact (Below.refl _ _).alloc (Nat.le_refl _) _)
  have GO : Hid (Calls Try.prog 22 #[gv r c s ws st] w0 fun e w' => e = .returned (.bool (gok r c s ws st)) ∧ Below w0.heap.size w0 w') := sgrid_any r c s ws st w0
  have s0 : w0.heap.size = w.heap.size + 1 := by rw [hw0]; simp
  have b0 : w0.cell? ⟨w.heap.size, 0, none⟩ = some (.int .i64 r) := by rw [hw0]; simp [go_sem]
  have b1 : w0.cell? ⟨w.heap.size, 1, none⟩ = some (.int .i64 c) := by rw [hw0]; simp [go_sem]
  have PQ : Hid (gok r c s ws st = true → wrap64 (r * c) = r * c) := fun h => by
    obtain ⟨h1, h2, _⟩ := gok_parts h
    have := prod_le2 h1 h2
    exact IntWalk.wrap64_in _ (by omega)
  clear hw0
  unfold right
  cases hg : gok r c s ws st
  · rw [hg] at GO
    clear PQ hg
    go_enter Try.func10, Try.ntmps10
    go_wp2_with fail
    rw [← HW.out]
    refine GO.out.mono ?_
    rintro e w1 ⟨rfl, b2⟩
    have B1 : Hid (Below w.heap.size w w1) := B0.out.trans (b2.mono B0.out.size)
    clear b2 HW
    go_wp2_with fail
    go_ret
    exact ⟨rfl, B1.out⟩
  · rw [hg] at GO
    have j1 := PQ.out hg
    clear PQ hg
    obtain ⟨p, hp⟩ : ∃ p, p = r * c := ⟨_, rfl⟩
    rw [← hp] at j1 ⊢
    have j2 : wrap64 (r * c) = p := by rw [hp]; rw [← hp]; exact j1
    clear hp j1
    by_cases hn : (n : Int) = p
    · subst hn
      go_enter Try.func10, Try.ntmps10
      go_wp2_with fail
      rw [← HW.out]
      refine GO.out.mono ?_
      rintro e w1 ⟨rfl, b2⟩
      have d0 := (b2.cell (p := ⟨w.heap.size, 0, none⟩) (by show w.heap.size < _; omega)).trans b0
      have d1 := (b2.cell (p := ⟨w.heap.size, 1, none⟩) (by show w.heap.size < _; omega)).trans b1
      have B1 : Hid (Below w.heap.size w w1) := B0.out.trans (b2.mono B0.out.size)
      clear b2 HW
      go_wp2_with fail
      go_ret
      exact ⟨by simp, B1.out⟩
    · have q : ((n : Int) == p) = false := by simpa using hn
      have HQ : Hid (decide ((n : Int) = p) = false) := decide_eq_false hn
      clear hn
      go_enter Try.func10, Try.ntmps10
      go_wp2_with fail
      rw [← HW.out]
      refine GO.out.mono ?_
      rintro e w1 ⟨rfl, b2⟩
      have d0 := (b2.cell (p := ⟨w.heap.size, 0, none⟩) (by show w.heap.size < _; omega)).trans b0
      have d1 := (b2.cell (p := ⟨w.heap.size, 1, none⟩) (by show w.heap.size < _; omega)).trans b1
      have B1 : Hid (Below w.heap.size w w1) := B0.out.trans (b2.mono B0.out.size)
      clear b2 HW
      go_wp2_with fail
      go_ret
      exact ⟨by rw [HQ.out]; rfl, B1.out⟩

set_option maxHeartbeats 1000000 in
theorem cell_any (fr st n x : Int) (w : World) (hf : -20000 ≤ fr ∧ fr ≤ 20000) (hs : 1 ≤ st ∧ st ≤ 3000) (hn : 2 ≤ n ∧ n ≤ 64) (hx : fr ≤ x) : Calls Try.prog 13 #[.int .i64 fr, .int .i64 st, .int .i64 n, .int .i64 x] w fun e w' => e = .returned (.int .i64 (cellOf (x - fr) st n)) ∧ w' = w := by
  have CI : Hid (∀ i : Int, i ≤ n - 2 → i * st ≤ x - fr → (i = n - 2 ∨ x - fr < (i + 1) * st) → i = cellOf (x - fr) st n) := fun i h0 h1 h2 => cell_is hs.1 h0 h1 h2
  obtain ⟨R, hR⟩ : ∃ R, R = cellOf (x - fr) st n := ⟨_, rfl⟩
  rw [← hR] at CI ⊢
  clear hR
  go_enter Try.func13, Try.ntmps13
  go_wp2_with fail
  go_loop [9] (fun i => ∃ k : Nat, (k : Int) ≤ n - 2 ∧ i = .int .i64 k ∧ Hid ((k : Int) * st ≤ x - fr)) (fun i => (64 : Nat) - (intOf i).toNat)
  case atStart => exact ⟨0, by omega, rfl, (by show _ ≤ _; simp; omega)⟩
  case round =>
    obtain ⟨k, hk, rfl, IV⟩ := hrel
    have hq : 0 ≤ ((k : Int) + 1) * st ∧ ((k : Int) + 1) * st ≤ 192000 := by
      obtain ⟨m, hm⟩ : ∃ m : Nat, st = (m : Int) := ⟨st.toNat, by omega⟩
      have := Nat.mul_le_mul (show k + 1 ≤ 64 by omega) (show m ≤ 3000 by omega)
      rw [hm, show (k : Int) + 1 = ((k + 1 : Nat) : Int) by omega, ← Int.natCast_mul]
      omega
    obtain ⟨q, hqq⟩ : ∃ q, q = ((k : Int) + 1) * st := ⟨_, rfl⟩
    have j1 : wrap64 (((k : Int) + 1) * st) = q := by rw [hqq]; exact IntWalk.wrap64_in _ (by omega)
    rw [← hqq] at hq
    have HQ : Hid (q = ((k : Int) + 1) * st) := hqq
    clear hqq
    by_cases h1 : (k : Int) < n - 2
    · by_cases h2 : fr + q ≤ x
      · go_wp2_with fail
        go_round
        case rel => exact ⟨k + 1, by omega, by go_num, (by show _ ≤ _; have := HQ.out; rw [show ((k + 1 : Nat) : Int) = (k : Int) + 1 by omega, ← this]; omega)⟩
        case measure => simp [intOf]; omega
      · have h2' : ¬ fr + q ≤ x := h2
        have ER : Hid ((k : Int) = R) := CI.out k hk IV.out (Or.inr (by rw [← HQ.out]; omega))
        go_wp2_with fail
        go_ret
        exact ⟨by rw [ER.out]; rfl, rfl⟩
    · have ER : Hid ((k : Int) = R) := CI.out k hk IV.out (Or.inl (by omega))
      go_wp2_with fail
      go_ret
      exact ⟨by rw [ER.out]; rfl, rfl⟩
end Go.Proofs.Ytnnljjkooookoaa.Gd
