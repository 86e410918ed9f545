/- Rings: whether one is right: the model. -/
import Derived.Test.YtfanoegokiodoaaRo
namespace Go.Proofs.Ytfanoegokiodoaa.Rg
open Go.ChangeShapes Go.WideShapes Go.ChangeAt Go.RowKit
open Go.Proofs.Ytfanoegokiodoaa.Lists Go.Proofs.Ytfanoegokiodoaa.Al

set_option maxHeartbeats 1000000 in
theorem sring_any (L M : List Int) (v u : Value) (w : World) (hL : Lists.Reads w v L) (hM : Lists.Reads w u M) (hf : L.length < 9223372036854775808) :
    Calls Try.prog 6 #[sv v u] w fun e w' => e = .returned (.bool (okR L M)) ∧ Below w.heap.size w w' := by
  obtain ⟨W, hW⟩ : ∃ W, W = w.alloc (Obj.cells #[v, u] 27) := ⟨_, rfl⟩
  have B0 : Below w.heap.size w W := (by rw [hW]; exact (Below.refl _ _).alloc (Nat.le_refl _) _)
  obtain ⟨b, o, hcell, hvv⟩ := reads_at (hL.on B0)
  obtain ⟨b', o', hcell', hvv'⟩ := reads_at (hM.on B0)
  obtain ⟨a, cap, rfl⟩ := hL.form
  obtain ⟨a', cap', rfl⟩ := hM.form
  have HC : Hid (∀ i, i < L.length → W.cell? ⟨b, o + i, none⟩ = some (.int .i64 (L.getD i 0))) := hcell
  have HC' : Hid (∀ i, i < M.length → W.cell? ⟨b', o' + i, none⟩ = some (.int .i64 (M.getD i 0))) := hcell'
  have HA : Hid (0 < L.length → a = some ⟨b, o, none⟩) := fun hi => by
    obtain ⟨h1, c, h2⟩ := hvv hi
    simp at h2
    exact h2.1
  have HA' : Hid (0 < M.length → a' = some ⟨b', o', none⟩) := fun hi => by
    obtain ⟨h1, c, h2⟩ := hvv' hi
    simp at h2
    exact h2.1
  have HW : Hid (W = w.alloc (Obj.cells #[.slice a L.length cap, .slice a' M.length cap'] 27)) := hW
  have d0 : W.cell? ⟨w.heap.size, 0, none⟩ = some (.slice a L.length cap) := by rw [hW]; simp [go_sem]
  have d1 : W.cell? ⟨w.heap.size, 1, none⟩ = some (.slice a' M.length cap') := by rw [hW]; simp [go_sem]
  have BW : Hid (Below w.heap.size w W) := B0
  clear hL hM hcell hvv hcell' hvv' hW B0
  by_cases h1 : (L.length : Int) < 1
  · have F : Hid (okR L M = false) := okR_no fun r => by have := r.1; omega
    rw [F.out]
    generalize L.length = n at *
    generalize M.length = n' at *
    go_enter Try.func6, Try.ntmps6
    go_wp2_with fail
    rw [← HW.out]
    go_wp2_with fail
    go_ret
    exact ⟨rfl, BW.out⟩
  by_cases h2 : (200 : Int) < (L.length : Int)
  · have F : Hid (okR L M = false) := okR_no fun r => by have := r.2.1; omega
    rw [F.out]
    generalize L.length = n at *
    generalize M.length = n' at *
    go_enter Try.func6, Try.ntmps6
    go_wp2_with fail
    rw [← HW.out]
    go_wp2_with fail
    go_ret
    exact ⟨rfl, BW.out⟩
  by_cases h3 : M.length = L.length
  · rw [h3] at HC' HA' HW d1 ⊢
    obtain ⟨bo, hbo⟩ : ∃ bo, okR L M = bo := ⟨_, rfl⟩
    rw [hbo]
    have HO : Hid (okR L M = bo) := hbo
    obtain ⟨n, hn⟩ : ∃ n, n = L.length := ⟨_, rfl⟩
    have HR : Hid (upTo L M n ∧ tot L n ≤ 1000000000 ↔ right L M) := (by
      show _ ↔ _
      rw [hn]
      constructor
      · rintro ⟨x, y⟩
        exact ⟨by omega, by omega, h3, x, y⟩
      · intro r
        exact ⟨r.2.2.2.1, r.2.2.2.2⟩)
    rw [← hn] at HC HC' HA HA' HW d0 d1 h1 h2 ⊢
    clear hn hbo h3 hf
    have n1 : 1 ≤ n := by omega
    have E := HA.out (by omega)
    have E' := HA'.out (by omega)
    subst E E'
    clear HA HA'
    have e3 : ((n : Int) != (n : Int)) = false := by simp
    go_enter Try.func6, Try.ntmps6
    go_wp2_with fail
    rw [← HW.out]
    go_wp2_with fail
    go_loopw [4, 5] (fun s i wr => ∃ k : Nat, k ≤ n ∧ i = .int .i64 k ∧ s = .int .i64 (tot L k) ∧ (∃ m, wr = W.drewN m) ∧ Hid (upTo L M k)) (fun _ i _ => n - (intOf i).toNat)
    case atStart => exact ⟨0, by omega, rfl, rfl, ⟨0, rfl⟩, fun j hj => by omega⟩
    case round =>
      obtain ⟨k, hk, rfl, rfl, ⟨m, rfl⟩, OK⟩ := hrel
      by_cases hlt : k < n
      · have q : W.cell? ⟨b, o + k, none⟩ = some (.int .i64 (L.getD k 0)) := HC.out k hlt
        have q' : W.cell? ⟨b', o' + k, none⟩ = some (.int .i64 (M.getD k 0)) := HC'.out k hlt
        have i1 : (0 : Int) ≤ (k : Int) := by omega
        have i2 : (k : Int) < (n : Int) := by omega
        have C1 : Hid (∀ w, Calls Try.prog 13 #[.int .i64 (L.getD k 0), .int .i64 0, .int .i64 1000000000] w fun e w' => e = .returned (.bool (inn (L.getD k 0) 0 1000000000)) ∧ w' = w) := fun w => s_in _ _ _ w
        have C2 : Hid (∀ w, Calls Try.prog 13 #[.int .i64 (M.getD k 0), .int .i64 0, .int .i64 (L.getD k 0)] w fun e w' => e = .returned (.bool (inn (M.getD k 0) 0 (L.getD k 0))) ∧ w' = w) := fun w => s_in _ _ _ w
        obtain ⟨V, hV⟩ : ∃ V, V = W.drewN m := ⟨_, rfl⟩
        have HV : Hid (V = W.drewN m) := hV
        have p0 : V.cell? ⟨w.heap.size, 0, none⟩ = some (.slice (some ⟨b, o, none⟩) n cap) := by rw [hV]; exact d0
        have p1 : V.cell? ⟨w.heap.size, 1, none⟩ = some (.slice (some ⟨b', o', none⟩) n cap') := by rw [hV]; exact d1
        have p2 : V.cell? ⟨b, o + k, none⟩ = some (.int .i64 (L.getD k 0)) := by rw [hV]; exact q
        have p3 : V.cell? ⟨b', o' + k, none⟩ = some (.int .i64 (M.getD k 0)) := by rw [hV]; exact q'
        have BV : Hid (Below w.heap.size w V) := (by show Below _ _ _; rw [hV]; exact below_drewN BW.out m)
        have TB := tot_bd k (fun j hj => (OK.out j hj).1) k (Nat.le_refl _)
        have ET : Hid (tot L (k + 1) = tot L k + L.getD k 0) := rfl
        rw [← hV]
        clear hV q q'
        cases g1 : inn (L.getD k 0) 0 1000000000
        · have F : Hid (bo = false) := (by
            show _ = _
            rw [← HO.out]
            refine okR_no fun r => ?_
            have := (HR.out.mpr r).1 k hlt
            rw [(inn_iff _ _ _).mpr this.1] at g1
            cases g1)
          rw [g1] at C1
          clear g1 C2
          generalize L.getD k 0 = z at *
          generalize M.getD k 0 = z' at *
          go_upto_region 8 with fail
          go_quiet ((go_at_call 13; exact Calls.quiet_of_same (C1.out _)))
          go_wp2_with fail
          go_ret
          exact ⟨by rw [F.out]; rfl, below_drewN BV.out _⟩
        · cases g2 : inn (M.getD k 0) 0 (L.getD k 0)
          · have F : Hid (bo = false) := (by
              show _ = _
              rw [← HO.out]
              refine okR_no fun r => ?_
              have := (HR.out.mpr r).1 k hlt
              rw [(inn_iff _ _ _).mpr this.2] at g2
              cases g2)
            rw [g1] at C1
            rw [g2] at C2
            clear g1 g2
            generalize L.getD k 0 = z at *
            generalize M.getD k 0 = z' at *
            go_upto_region 8 with fail
            go_quiet (first | (go_at_call_of 13 (Value.int IntKind.i64 z'); exact Calls.quiet_of_same (C2.out _)) | (go_at_call_of 13 (Value.int IntKind.i64 z); exact Calls.quiet_of_same (C1.out _)))
            go_wp2_with fail
            go_ret
            exact ⟨by rw [F.out]; rfl, below_drewN BV.out _⟩
          · have y1 := (inn_iff _ _ _).mp g1
            have y2 := (inn_iff _ _ _).mp g2
            have OK2 : Hid (upTo L M (k + 1)) := fun j hj => by
              by_cases e : j = k
              · rw [e]; exact ⟨y1, y2⟩
              · exact OK.out j (by omega)
            rw [g1] at C1
            rw [g2] at C2
            clear g1 g2
            generalize tot L k = s at *
            generalize L.getD k 0 = z at *
            generalize M.getD k 0 = z' at *
            go_upto_region 8 with fail
            go_quiet (first | (go_at_call_of 13 (Value.int IntKind.i64 z'); exact Calls.quiet_of_same (C2.out _)) | (go_at_call_of 13 (Value.int IntKind.i64 z); exact Calls.quiet_of_same (C1.out _)))
            go_wp2_with fail
            go_roundw
            case rel => exact ⟨k + 1, by omega, by go_num, by rw [ET.out], ⟨m + nq, by rw [HV.out]; simp⟩, OK2⟩
            case measure => simp [intOf]; omega
      · have hkn : k = n := by omega
        subst hkn
        have TB := tot_bd k (fun j hj => (OK.out j hj).1) k (Nat.le_refl _)
        have F : Hid (bo = decide (tot L k ≤ 1000000000)) := (by
          show _ = _
          rw [← HO.out]
          by_cases hz : tot L k ≤ 1000000000
          · rw [decide_eq_true hz]
            exact okR_yes (HR.out.mp ⟨OK.out, hz⟩)
          · rw [decide_eq_false hz]
            exact okR_no fun r => hz (HR.out.mpr r).2)
        generalize tot L k = s at *
        go_wp2_with fail
        go_ret
        exact ⟨by rw [F.out]; rfl, below_drewN BW.out _⟩
  · have F : Hid (okR L M = false) := okR_no fun r => h3 r.2.2.1
    rw [F.out]
    have e3 : ((M.length : Int) != (L.length : Int)) = true := by simp; omega
    clear h3
    generalize L.length = n at *
    generalize M.length = n' at *
    go_enter Try.func6, Try.ntmps6
    go_wp2_with fail
    rw [← HW.out]
    go_wp2_with fail
    go_ret
    exact ⟨rfl, BW.out⟩
end Go.Proofs.Ytfanoegokiodoaa.Rg
