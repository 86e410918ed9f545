/- The powers of the longest row's turn: the program. -/
import Derived.Test.YtchlpkgmflbaeaaSpP
namespace Go.Proofs.Ytchlpkgmflbaeaa.Sp
open Go.ChangeShapes Go.WideShapes Go.ChangeAt Go.RowKit
open Go.Proofs.Ytchlpkgmflbaeaa.Lists Go.Proofs.Ytchlpkgmflbaeaa.Al Go.Proofs.Ytchlpkgmflbaeaa.Su Go.Proofs.Ytchlpkgmflbaeaa.Mx

def pf (t : Int) (k : Nat) : List Int := (List.range 64).map fun j => if j < k then pr t j else 0
theorem pf_len (t : Int) (k : Nat) : (pf t k).length = 64 := by simp [pf]
theorem pf_set (t : Int) (k : Nat) : (pf t k).set k (pr t k) = pf t (k + 1) := by
  apply List.ext_getElem
  · simp [pf]
  · intro i h1 h2
    simp only [pf, List.getElem_set, List.getElem_map, List.getElem_range]
    by_cases e : k = i
    · subst e
      simp
    · rw [if_neg e]
      by_cases q : i < k
      · rw [if_pos q, if_pos (by omega)]
      · rw [if_neg q, if_neg (by omega)]
theorem pf_zero (t : Int) : ints (pf t 0) = List.replicate 64 (.int .i64 0) := by
  unfold ints pf
  apply List.ext_getElem
  · simp only [List.length_map, List.length_range, List.length_replicate]
  · intro i h1 h2
    simp only [List.getElem_map, List.getElem_replicate, Nat.not_lt_zero, if_false]
theorem pf_get (t : Int) (j : Nat) (h : j < 64) : (pf t 64).getD j 0 = pr t j := by
  simp [pf, List.getD_eq_getElem?_getD, h]

set_option maxRecDepth 100000 in
set_option maxHeartbeats 1000000 in
theorem powers_any (w : World) : Calls Try.prog 15 #[] w fun e w' => e = .returned (.agg (ints (pf turn 64)).toArray) ∧ Below w.heap.size w w' := by
  go_enter Try.func15, Try.ntmps15
  go_wp2_with fail
  generalize hW : w.alloc _ = W
  have HW : Hid (w.alloc (.cells (List.replicate 64 (Value.int .i64 0)).toArray 32) = W) := hW
  clear hW
  go_loop [1, 5] (fun s i => ∃ k : Nat, k ≤ 1024 ∧ i = .int .i64 k ∧ s = .int .i64 (pr 3 k)) (fun _ i => 1024 - (intOf i).toNat)
  case atStart => exact ⟨0, by omega, rfl, rfl⟩
  case round =>
    obtain ⟨k, hk, rfl, rfl⟩ := hrel
    by_cases hlt : k < 1024
    · have i2 : (k : Int) < 1024 := by omega
      have E : Hid (pr 3 (k + 1) = pr 3 k * 3 % 65537) := rfl
      have b := pr_bd 3 k
      generalize pr 3 k = s at *
      go_wp2_with fail
      go_round
      case rel => exact ⟨k + 1, by omega, by go_num, by rw [E.out]⟩
      case measure => simp [intOf]; omega
    · have hkn : k = 1024 := by omega
      subst hkn
      have e : pr 3 1024 = turn := rfl
      rw [e]
      have bt : 0 ≤ turn ∧ turn ≤ 65536 := pr_bd 3 1024
      obtain ⟨t, ht⟩ : ∃ t, t = turn := ⟨_, rfl⟩
      rw [← ht] at bt ⊢
      have HT : Hid (t = turn) := ht
      clear ht e
      go_wp2_with fail
      generalize hV : W.alloc _ = V
      have HV : Hid (W.alloc (.cells (List.replicate 64 (Value.int .i64 0)).toArray 32) = V) := hV
      clear hV
      have zW : W.heap.size = w.heap.size + 1 := (by rw [← HW.out]; exact World.size_alloc _ _)
      have HZ : Hid (W.heap.size = w.heap.size + 1) := zW
      have R0 : Hid (V.heap[W.heap.size]? = some (.cells (ints (pf t 0)).toArray 32 (0, 0))) := (by
        show _ = _
        rw [← HV.out, pf_zero]
        exact heap_alloc_new W _)
      have B0 : Hid (Below W.heap.size W V) := (by rw [← HV.out]; exact (Below.refl _ _).alloc (Nat.le_refl _) _)
      have H0 : Hid (W.heap[w.heap.size]? = some (.cells (List.replicate 64 (Value.int .i64 0)).toArray 32 (0, 0))) := (by
        show _ = _
        rw [← HW.out]
        exact heap_alloc_new w _)
      have BW : Hid (Below w.heap.size w W) := (by rw [← HW.out]; exact (Below.refl _ _).alloc (Nat.le_refl _) _)
      clear HV HW zW
      go_loopw [3, 11] (fun s i wr => ∃ k : Nat, k ≤ 64 ∧ i = .int .i64 k ∧ s = .int .i64 (pr t k) ∧ Hid (wr.heap[W.heap.size]? = some (.cells (ints (pf t k)).toArray 32 (0, 0))) ∧ Hid (Below W.heap.size W wr)) (fun _ i _ => 64 - (intOf i).toNat)
      case atStart => exact ⟨0, by omega, rfl, rfl, R0, B0⟩
      case round =>
        obtain ⟨k, hk, rfl, rfl, R, BB⟩ := hrel
        by_cases hlt : k < 64
        · have i2 : (k : Int) < 64 := by omega
          have j1 : (0 : Int) ≤ (k : Int) := by omega
          have E : Hid (pr t (k + 1) = pr t k * t % 65537) := rfl
          have b := pr_bd t k
          have q1 : wr.cell? ⟨W.heap.size, k, none⟩ = some (.int .i64 ((pf t k).getD k 0)) := (by
            rw [cell_of_row wr _ k _ _ _ R.out]
            simp [ints, List.getElem?_map, List.getElem?_eq_getElem (show k < (pf t k).length by rw [pf_len]; exact hlt), List.getD_eq_getElem?_getD])
          have q2 : wr.frozen? ⟨W.heap.size, k, none⟩ = false := frozen_of_row wr _ k _ _ R.out
          have RN : Hid ((wr.setCell ⟨W.heap.size, k, none⟩ (.int .i64 (pr t k))).heap[W.heap.size]? = some (.cells (ints (pf t (k + 1))).toArray 32 (0, 0))) := (by
            show _ = _
            rw [heap_setCell_same wr _ k _ _ (.int .i64 (pr t k)) R.out, ← pf_set t k, ← Lists.ints_set]
            simp)
          have BN : Hid (Below W.heap.size W (wr.setCell ⟨W.heap.size, k, none⟩ (.int .i64 (pr t k)))) := BB.out.setCell (p := ⟨W.heap.size, k, none⟩) (Nat.le_refl _) _
          have pm : 0 ≤ pr t k * t ∧ pr t k * t ≤ 4294967296 := Mx.prod_bound (a := pr t k) (b := t) b bt
          obtain ⟨m1, m2⟩ := pm
          generalize (pf t k).getD k 0 = y at *
          generalize pr t k = s at *
          clear R0 B0
          go_wp2_with fail
          go_roundw
          case rel => exact ⟨k + 1, by omega, by go_num, by rw [E.out], RN, BN⟩
          case measure => simp [intOf]; omega
        · have hkn : k = 64 := by omega
          subst hkn
          clear R0 B0
          have O : Hid (wr.heap[w.heap.size]? = some (.cells (List.replicate 64 (Value.int .i64 0)).toArray 32 (0, 0))) := (by
            have z := HZ.out
            show _ = _
            rw [BB.out.block w.heap.size (by omega)]
            exact H0.out)
          have BE : Hid (Below w.heap.size w (wr.setRow w.heap.size (ints (pf t 64)).toArray)) := (by
            have z := HZ.out
            have b1 := BW.out.trans (BB.out.mono (by omega))
            exact ⟨b1.os, b1.tape, b1.output, by rw [size_setRow]; exact b1.size, fun i hi => (by rw [setRow_other]; exact b1.block i hi; omega)⟩)
          have S1 : Hid ((Try.prog.info? 32).map (·.size) = some (ints (pf t 64)).toArray.size) := (by show _ = _; rw [show (ints (pf t 64)).toArray.size = 64 by simp [ints, pf]]; kernel_rfl)
          have S2 : Hid ((List.replicate 64 (Value.int .i64 0)).toArray.size = (ints (pf t 64)).toArray.size) := (by show _ = _; simp [ints, pf])
          have S3 : Hid ((ints (pf t 64)).toArray.all (·.oneCell') = true) := (by show _ = _; simp [ints]; intros; rfl)
          obtain ⟨cs, hcs⟩ : ∃ cs, cs = (ints (pf t 64)).toArray := ⟨_, rfl⟩
          rw [← hcs] at R BE S1 S2 S3
          have HCS : Hid (cs = (ints (pf turn 64)).toArray) := (by rw [← HT.out]; exact hcs)
          clear hcs
          go_wp2_with (first
            | refine wpList_load_row rfl 32 _ rfl W.heap.size rfl 32 cs (0, 0) _ R.out Try.underlying32 rfl S1.out ?_
            | refine wpList_store_row rfl 32 _ _ rfl w.heap.size cs rfl rfl 32 _ O.out S1.out S2.out S3.out ?_)
          exact bodyPost_ret (v := .agg cs) (results_cell_row Try.results15 _ _ w.heap.size 32 cs (0, 0) _ rfl (setRow_heap wr w.heap.size _ cs 32 (0, 0) O.out) Try.underlying32 rfl S1.out) rfl ⟨by rw [HCS.out], BE.out⟩
end Go.Proofs.Ytchlpkgmflbaeaa.Sp
