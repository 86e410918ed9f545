/- Rings: whether one is right: the program. -/
import Derived.Test.YtfanoegokiodoaaRo
namespace Go.Proofs.Ytfanoegokiodoaa.Rg
open Go.ChangeShapes Go.WideShapes Go.ChangeAt Go.RowKit
open Go.Proofs.Ytfanoegokiodoaa.Lists Go.Proofs.Ytfanoegokiodoaa.Al

theorem all_iff (L : List Int) (lo hi : Int) : (L.all fun d => inn d lo hi) = true ↔ ∀ j, j < L.length → lo ≤ L.getD j 0 ∧ L.getD j 0 ≤ hi := by
  rw [List.all_eq_true]
  constructor
  · intro h j hj
    have := h (L.getD j 0) (by simp [List.getD_eq_getElem?_getD, hj])
    rw [inn_iff] at this
    exact this
  · intro h d hd
    obtain ⟨j, hj, rfl⟩ := List.getElem_of_mem hd
    have := h j hj
    rw [inn_iff]
    simpa [List.getD_eq_getElem?_getD, hj] using this

set_option maxHeartbeats 1000000 in
theorem iring_any (L M : List Int) (v u : Value) (w : World) (hL : Lists.Reads w v L) (hM : Lists.Reads w u M) (hf : L.length < 9223372036854775808) (hg : M.length < 9223372036854775808) :
    Calls Try.prog 8 #[sv v u] w fun e w' => e = .returned (.bool (okR L M)) ∧ Below w.heap.size w w' := by
  obtain ⟨W, hW⟩ : ∃ W, W = w.alloc (Obj.cells #[v, u] 27) := ⟨_, rfl⟩
  have B0 : Below w.heap.size w W := (by rw [hW]; exact (Below.refl _ _).alloc (Nat.le_refl _) _)
  have C1 : Hid (Calls Try.prog 15 #[.int .i64 (L.length : Int), .int .i64 1, .int .i64 200] W fun e w' => e = .returned (.bool (inn L.length 1 200)) ∧ w' = W) := i_in _ _ _ W
  have C2 : Hid (Calls Try.prog 16 #[u, .int .i64 (L.length : Int), .int .i64 0, .int .i64 1000000000] W fun e w' => e = .returned (.bool (nums M L.length 0 1000000000)) ∧ w' = W) := inums_any M L.length 0 1000000000 u W (hM.on B0) hg
  have C3 : Hid (Calls Try.prog 17 #[v, .int .i64 0, .int .i64 1000000000] W fun e w' => e = .returned (.bool (L.all fun d => inn d 0 1000000000)) ∧ w' = W) := iall_any L 0 1000000000 v W (hL.on B0) hf
  have C4 : Hid (inn L.length 1 200 = true → (L.all fun d => inn d 0 1000000000) = true → Calls Try.prog 18 #[v] W fun e w' => e = .returned (.int .i64 (tot L L.length)) ∧ w' = W) := fun h1 h2 => total_any L v W (hL.on B0) (by rw [inn_iff] at h1; omega) ((all_iff _ _ _).mp h2)
  obtain ⟨b, o, hcell, hvv⟩ := reads_at (hL.on B0)
  obtain ⟨b', o', hcell', hvv'⟩ := reads_at (hM.on B0)
  obtain ⟨a, cap, rfl⟩ := hL.form
  obtain ⟨a', cap', rfl⟩ := hM.form
  have HC : Hid (∀ i, i < L.length → W.cell? ⟨b, o + i, none⟩ = some (.int .i64 (L.getD i 0))) := hcell
  have HC' : Hid (∀ i, i < M.length → W.cell? ⟨b', o' + i, none⟩ = some (.int .i64 (M.getD i 0))) := hcell'
  have HA : Hid (0 < L.length → a = some ⟨b, o, none⟩) := fun hi => by
    obtain ⟨h1, c, h2⟩ := hvv hi
    simp at h2
    exact h2.1
  have HA' : Hid (0 < M.length → a' = some ⟨b', o', none⟩) := fun hi => by
    obtain ⟨h1, c, h2⟩ := hvv' hi
    simp at h2
    exact h2.1
  have HW : Hid (W = w.alloc (Obj.cells #[.slice a L.length cap, .slice a' M.length cap'] 27)) := hW
  have d0 : W.cell? ⟨w.heap.size, 0, none⟩ = some (.slice a L.length cap) := by rw [hW]; simp [go_sem]
  have d1 : W.cell? ⟨w.heap.size, 1, none⟩ = some (.slice a' M.length cap') := by rw [hW]; simp [go_sem]
  have BW : Hid (Below w.heap.size w W) := B0
  clear hL hM hcell hvv hcell' hvv' hW B0 hf hg
  cases h1 : inn L.length 1 200
  · have F : Hid (okR L M = false) := okR_no fun r => by
      have : inn L.length 1 200 = true := (inn_iff _ _ _).mpr ⟨by have := r.1; omega, by have := r.2.1; omega⟩
      rw [h1] at this
      cases this
    rw [F.out]
    rw [h1] at C1
    clear h1 C4
    generalize L.length = n at *
    go_enter Try.func8, Try.ntmps8
    go_wp2_with fail
    rw [← HW.out]
    refine C1.out.mono ?_
    rintro e w1 ⟨rfl, hw⟩
    subst hw
    go_wp2_with fail
    go_ret
    exact ⟨rfl, BW.out⟩
  cases h2 : nums M L.length 0 1000000000
  · have F : Hid (okR L M = false) := okR_no fun r => by
      have : nums M L.length 0 1000000000 = true := by
        unfold nums
        rw [Bool.and_eq_true, decide_eq_true_eq, all_iff]
        refine ⟨by have := r.2.2.1; omega, fun j hj => ?_⟩
        have := r.2.2.2.1 j (by have := r.2.2.1; omega)
        omega
      rw [h2] at this
      cases this
    rw [F.out]
    rw [h1] at C1
    rw [h2] at C2
    clear h1 h2 C4
    generalize L.length = n at *
    go_enter Try.func8, Try.ntmps8
    go_wp2_with fail
    rw [← HW.out]
    refine C1.out.mono ?_
    rintro e w1 ⟨rfl, hw⟩
    subst hw
    go_wp2_with fail
    refine C2.out.mono ?_
    rintro e w1 ⟨rfl, hw⟩
    subst hw
    go_wp2_with fail
    go_ret
    exact ⟨rfl, BW.out⟩
  cases h3 : (L.all fun d => inn d 0 1000000000)
  · have F : Hid (okR L M = false) := okR_no fun r => by
      have : (L.all fun d => inn d 0 1000000000) = true := (all_iff _ _ _).mpr fun j hj => (r.2.2.2.1 j hj).1
      rw [h3] at this
      cases this
    rw [F.out]
    rw [h1] at C1
    rw [h2] at C2
    rw [h3] at C3
    clear h1 h2 h3 C4
    generalize L.length = n at *
    go_enter Try.func8, Try.ntmps8
    go_wp2_with fail
    rw [← HW.out]
    refine C1.out.mono ?_
    rintro e w1 ⟨rfl, hw⟩
    subst hw
    go_wp2_with fail
    refine C2.out.mono ?_
    rintro e w1 ⟨rfl, hw⟩
    subst hw
    go_wp2_with fail
    refine C3.out.mono ?_
    rintro e w1 ⟨rfl, hw⟩
    subst hw
    go_wp2_with fail
    go_ret
    exact ⟨rfl, BW.out⟩
  have C5 : Hid (Calls Try.prog 18 #[.slice a L.length cap] W fun e w' => e = .returned (.int .i64 (tot L L.length)) ∧ w' = W) := C4.out h1 h3
  clear C4
  rw [h1] at C1
  rw [h2] at C2
  rw [h3] at C3
  rw [inn_iff] at h1
  have N2 := nums_parts h2
  have ML : M.length = L.length := by omega
  have A3 := (all_iff _ _ _).mp h3
  clear h2 h3
  by_cases h4 : 1000000000 < tot L L.length
  · have F : Hid (okR L M = false) := okR_no fun r => by
      have := r.2.2.2.2
      omega
    rw [F.out]
    rw [ML] at d1 C2 HW ⊢
    generalize tot L L.length = tt at *
    clear N2 A3 ML h1
    generalize L.length = n at *
    go_enter Try.func8, Try.ntmps8
    go_wp2_with fail
    rw [← HW.out]
    refine C1.out.mono ?_
    rintro e w1 ⟨rfl, hw⟩
    subst hw
    go_wp2_with fail
    refine C2.out.mono ?_
    rintro e w1 ⟨rfl, hw⟩
    subst hw
    go_wp2_with fail
    refine C3.out.mono ?_
    rintro e w1 ⟨rfl, hw⟩
    subst hw
    go_wp2_with fail
    refine C5.out.mono ?_
    rintro e w1 ⟨rfl, hw⟩
    subst hw
    go_wp2_with fail
    go_ret
    exact ⟨rfl, BW.out⟩
  obtain ⟨bo, hbo⟩ : ∃ bo, okR L M = bo := ⟨_, rfl⟩
  rw [hbo]
  have HO : Hid (okR L M = bo) := hbo
  have HR : Hid ((∀ j, j < L.length → M.getD j 0 ≤ L.getD j 0) ↔ right L M) := (by
    show _ ↔ _
    constructor
    · intro h
      refine ⟨by omega, by omega, ML, fun j hj => ⟨A3 j hj, ?_⟩, by omega⟩
      have := N2.2 j (by omega)
      have := h j hj
      omega
    · intro r j hj
      exact (r.2.2.2.1 j hj).2.2)
  have T4 : ¬ 1000000000 < tot L L.length := h4
  rw [ML] at d1 C2 HW HC' HA' ⊢
  generalize tot L L.length = tt at *
  clear N2 A3 ML hbo h4
  obtain ⟨n, hn⟩ : ∃ n, n = L.length := ⟨_, rfl⟩
  rw [← hn] at C1 C2 C3 C5 HC HC' HA HA' HW d0 d1 HR h1 ⊢
  clear hn
  have n1 : 1 ≤ n := by omega
  have E := HA.out (by omega)
  have E' := HA'.out (by omega)
  subst E E'
  clear HA HA'
  go_enter Try.func8, Try.ntmps8
  go_wp2_with fail
  rw [← HW.out]
  refine C1.out.mono ?_
  rintro e w1 ⟨rfl, hw⟩
  subst hw
  go_wp2_with fail
  refine C2.out.mono ?_
  rintro e w1 ⟨rfl, hw⟩
  subst hw
  go_wp2_with fail
  refine C3.out.mono ?_
  rintro e w1 ⟨rfl, hw⟩
  subst hw
  go_wp2_with fail
  refine C5.out.mono ?_
  rintro e w1 ⟨rfl, hw⟩
  subst hw
  go_wp2_with fail
  go_loop [34] (fun i => ∃ k : Nat, k ≤ n ∧ i = .int .i64 k ∧ Hid (∀ j, j < k → M.getD j 0 ≤ L.getD j 0)) (fun i => n - (intOf i).toNat)
  case atStart => exact ⟨0, by omega, rfl, fun j hj => by omega⟩
  case round =>
    obtain ⟨k, hk, rfl, OK⟩ := hrel
    by_cases hlt : k < n
    · have q : w1.cell? ⟨b, o + k, none⟩ = some (.int .i64 (L.getD k 0)) := HC.out k hlt
      have q' : w1.cell? ⟨b', o' + k, none⟩ = some (.int .i64 (M.getD k 0)) := HC'.out k hlt
      have i1 : (0 : Int) ≤ (k : Int) := by omega
      have i2 : (k : Int) < (n : Int) := by omega
      by_cases hz : L.getD k 0 < M.getD k 0
      · have F : Hid (bo = false) := (by
          show _ = _
          rw [← HO.out]
          refine okR_no fun r => ?_
          have := HR.out.mpr r k hlt
          omega)
        generalize L.getD k 0 = z at *
        generalize M.getD k 0 = z' at *
        go_wp2_with fail
        go_ret
        exact ⟨by rw [F.out]; rfl, BW.out⟩
      · have OK2 : Hid (∀ j, j < k + 1 → M.getD j 0 ≤ L.getD j 0) := fun j hj => by
          by_cases e : j = k
          · rw [e]; omega
          · exact OK.out j (by omega)
        generalize L.getD k 0 = z at *
        generalize M.getD k 0 = z' at *
        go_wp2_with fail
        go_round
        case rel => exact ⟨k + 1, by omega, by go_num, OK2⟩
        case measure => simp [intOf]; omega
    · have hkn : k = n := by omega
      subst hkn
      have F : Hid (bo = true) := (by
        show _ = _
        rw [← HO.out]
        exact okR_yes (HR.out.mp OK.out))
      go_wp2_with fail
      go_ret
      exact ⟨by rw [F.out]; rfl, BW.out⟩
end Go.Proofs.Ytfanoegokiodoaa.Rg
