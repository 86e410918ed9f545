/- Whether a loop is right; where a side ends: the program. -/
import Derived.Test.YtaemldfeicjdnaaEgE
namespace Go.Proofs.Ytaemldfeicjdnaa.Lp
open Go.ChangeShapes Go.WideShapes Go.ChangeAt Go.RowKit
open Go.Proofs.Ytaemldfeicjdnaa.Lists

theorem i_in (n a b : Int) (w : World) : Calls Try.prog 26 #[.int .i64 n, .int .i64 a, .int .i64 b] w fun e w' => e = .returned (.bool (inn n a b)) ∧ w' = w := win_any n a b w

set_option maxHeartbeats 1000000 in
theorem ilok_no (x y : Int) (a : Option Addr) (n cap : Nat) (w : World) (hn : n < 9223372036854775808) (h : heads x y n = false) :
    Calls Try.prog 31 #[sv x y (.slice a n cap)] w fun e w' => e = .returned (.bool false) ∧ Below w.heap.size w w' := by
  have B0 : Hid (Below w.heap.size w (w.alloc (Obj.cells #[.int .i64 x, .int .i64 y, .slice a n cap] 41))) := (Below.refl _ _).alloc (Nat.le_refl _) _
  have C1 : Hid (∀ w, Calls Try.prog 26 #[.int .i64 x, .int .i64 (-1000000), .int .i64 1000000] w fun e w' => e = .returned (.bool (inn x (-1000000) 1000000)) ∧ w' = w) := fun w => i_in _ _ _ w
  have C2 : Hid (∀ w, Calls Try.prog 26 #[.int .i64 y, .int .i64 (-1000000), .int .i64 1000000] w fun e w' => e = .returned (.bool (inn y (-1000000) 1000000)) ∧ w' = w) := fun w => i_in _ _ _ w
  unfold heads at h
  by_cases h1 : n ≤ 2000
  · have i1 : ¬ (2000 : Int) < (n : Int) := by omega
    rw [decide_eq_true h1] at h
    generalize inn x (-1000000) 1000000 = b1 at *
    generalize inn y (-1000000) 1000000 = b2 at *
    cases b1
    · clear h
      go_enter Try.func31, Try.ntmps31
      go_wp2_with fail
      refine (C1.out _).mono ?_
      rintro e w1 ⟨rfl, hw⟩
      subst hw
      go_wp2_with fail
      go_ret
      exact ⟨rfl, B0.out⟩
    · cases b2
      · clear h
        go_enter Try.func31, Try.ntmps31
        go_wp2_with fail
        refine (C1.out _).mono ?_
        rintro e w1 ⟨rfl, hw⟩
        subst hw
        go_wp2_with fail
        refine (C2.out _).mono ?_
        rintro e w2 ⟨rfl, hw⟩
        subst hw
        go_wp2_with fail
        go_ret
        exact ⟨rfl, B0.out⟩
      · simp at h
  · have i1 : (2000 : Int) < (n : Int) := by omega
    clear h
    go_enter Try.func31, Try.ntmps31
    go_wp2_with fail
    go_ret
    exact ⟨rfl, B0.out⟩

set_option maxHeartbeats 1000000 in
theorem ilok_yes (x y : Int) (L : List Int) (v : Value) (w : World) (hL : Lists.Reads w v L) (h : heads x y L.length = true) :
    Calls Try.prog 31 #[sv x y v] w fun e w' => e = .returned (.bool (L.all (fun d => inn d 0 3))) ∧ Below w.heap.size w w' := by
  have hh := h
  unfold heads at hh
  simp only [Bool.and_eq_true, decide_eq_true_eq] at hh
  obtain ⟨h1, h2, h3⟩ := hh
  have C1 : Hid (∀ w, Calls Try.prog 26 #[.int .i64 x, .int .i64 (-1000000), .int .i64 1000000] w fun e w' => e = .returned (.bool true) ∧ w' = w) := fun w => by have := i_in x (-1000000) 1000000 w; rwa [h2] at this
  have C2 : Hid (∀ w, Calls Try.prog 26 #[.int .i64 y, .int .i64 (-1000000), .int .i64 1000000] w fun e w' => e = .returned (.bool true) ∧ w' = w) := fun w => by have := i_in y (-1000000) 1000000 w; rwa [h3] at this
  have hcell : ∃ b o, (∀ i, i < L.length → w.cell? ⟨b, o + i, none⟩ = some (.int .i64 (L.getD i 0))) ∧ (0 < L.length → b < w.heap.size ∧ ∃ cap, v = .slice (some ⟨b, o, none⟩) L.length cap) := by
    rcases hL with ⟨rfl, _⟩ | ⟨b, o, cap, h1, h2, h3, h4, h5⟩
    · exact ⟨0, 0, fun i hi => by simp at hi, fun hi => by simp at hi⟩
    · exact ⟨b, o, h5, fun _ => ⟨h4, cap, h1⟩⟩
  obtain ⟨b, o, hc, hv⟩ := hcell
  obtain ⟨a, cap, rfl⟩ := hL.form
  have HC : Hid (∀ i, i < L.length → w.cell? ⟨b, o + i, none⟩ = some (.int .i64 (L.getD i 0))) := hc
  have HV : Hid (0 < L.length → b < w.heap.size ∧ a = some ⟨b, o, none⟩) := fun hi => by
    obtain ⟨h1, c, h2⟩ := hv hi
    simp at h2
    exact ⟨h1, h2.1⟩
  obtain ⟨w0, hw0⟩ : ∃ w0, w0 = w.alloc (Obj.cells #[.int .i64 x, .int .i64 y, .slice a L.length cap] 41) := ⟨_, rfl⟩
  have HW0 : Hid (w0 = w.alloc (Obj.cells #[.int .i64 x, .int .i64 y, .slice a L.length cap] 41)) := hw0
  have B0 : Hid (Below w.heap.size w w0) := (by show Below _ _ _; rw [hw0]; exact (Below.refl _ _).alloc (Nat.le_refl _) _)
  have c1 : w0.cell? ⟨w.heap.size, 1, none⟩ = some (.int .i64 y) := by rw [hw0]; simp [go_sem]
  have c2 : w0.cell? ⟨w.heap.size, 2, none⟩ = some (.slice a L.length cap) := by rw [hw0]; simp [go_sem]
  obtain ⟨R, hR⟩ : ∃ R, R = L.all (fun d => inn d 0 3) := ⟨_, rfl⟩
  have HR : Hid (R = L.all (fun d => inn d 0 3)) := hR
  rw [← hR]
  obtain ⟨n, hn⟩ : ∃ n, n = L.length := ⟨_, rfl⟩
  rw [← hn] at h1 c2 HW0 ⊢
  have HN : Hid (n = L.length) := hn
  have i1 : ¬ (2000 : Int) < (n : Int) := by omega
  clear h h2 h3 hL hc hv hw0 hR hn
  go_enter Try.func31, Try.ntmps31
  go_wp2_with fail
  rw [← HW0.out]
  refine (C1.out _).mono ?_
  rintro e w1 ⟨rfl, hw⟩
  have hw' := hw.symm
  subst hw'
  clear HW0
  go_wp2_with fail
  refine (C2.out _).mono ?_
  rintro e w2 ⟨rfl, hw⟩
  have hw' := hw.symm
  subst hw'
  go_wp2_with fail
  go_loop [24] (fun i => ∃ k : Nat, k ≤ n ∧ i = .int .i64 k ∧ Hid (∀ j, j < k → inn (L.getD j 0) 0 3 = true)) (fun i => n - (intOf i).toNat)
  case atStart => exact ⟨0, Nat.zero_le _, rfl, fun j hj => absurd hj (by omega)⟩
  case round =>
    obtain ⟨k, hk, rfl, OK⟩ := hrel
    by_cases hlt : k < n
    · have hkl : k < L.length := by have := HN.out; omega
      obtain ⟨hb, hx⟩ := HV.out (by omega)
      subst hx
      have q : w0.cell? ⟨b, o + k, none⟩ = some (.int .i64 (L.getD k 0)) := (B0.out.cell (p := ⟨b, o + k, none⟩) hb).trans (HC.out k hkl)
      have i2 : (0 : Int) ≤ (k : Int) := by omega
      have i3 : (k : Int) < (n : Int) := by omega
      have C3 : Hid (∀ w, Calls Try.prog 26 #[.int .i64 (L.getD k 0), .int .i64 0, .int .i64 3] w fun e w' => e = .returned (.bool (inn (L.getD k 0) 0 3)) ∧ w' = w) := fun w => i_in _ _ _ w
      cases hz : inn (L.getD k 0) 0 3
      · have HF : Hid (R = false) := (by
          show _ = _
          rw [HR.out, List.all_eq_false]
          exact ⟨L.getD k 0, by simp [List.getD_eq_getElem?_getD, hkl], by rw [hz]; simp⟩)
        rw [hz] at C3
        clear hz
        generalize L.getD k 0 = z at *
        go_wp2_with fail
        refine (C3.out _).mono ?_
        rintro e w3 ⟨rfl, hw⟩
        have hw' := hw.symm
        subst hw'
        go_wp2_with fail
        go_ret
        exact ⟨by rw [HF.out]; rfl, B0.out⟩
      · have OK2 : Hid (∀ j, j < k + 1 → inn (L.getD j 0) 0 3 = true) := fun j hj => by
          by_cases e : j = k
          · rw [e]; exact hz
          · exact OK.out j (by omega)
        rw [hz] at C3
        clear hz
        generalize L.getD k 0 = z at *
        go_wp2_with fail
        refine (C3.out _).mono ?_
        rintro e w3 ⟨rfl, hw⟩
        have hw' := hw.symm
        subst hw'
        go_wp2_with fail
        go_round
        case rel => exact ⟨k + 1, by omega, by go_num, OK2⟩
        case measure => simp [intOf]; omega
    · have HT : Hid (R = true) := (by
        show _ = _
        rw [HR.out, List.all_eq_true]
        intro d hd
        obtain ⟨j, hj, rfl⟩ := List.getElem_of_mem hd
        have := OK.out j (by have := HN.out; omega)
        simpa [List.getD_eq_getElem?_getD, hj] using this)
      go_wp2_with fail
      go_ret
      exact ⟨by rw [HT.out]; rfl, B0.out⟩
theorem ilok_any (x y : Int) (L : List Int) (v : Value) (w : World) (hL : Lists.Reads w v L) (hf : L.length < 9223372036854775808) :
    Calls Try.prog 31 #[sv x y v] w fun e w' => e = .returned (.bool (okL x y L)) ∧ Below w.heap.size w w' := by
  unfold okL
  cases h : heads x y L.length
  · obtain ⟨a, cap, rfl⟩ := hL.form
    exact ilok_no x y a L.length cap w hf h
  · exact ilok_yes x y L v w hL h
set_option maxHeartbeats 1000000 in
theorem end_any (x y d : Int) (w : World) (h0 : 0 ≤ d) (h3 : d ≤ 3) (hx : -2000000 ≤ x ∧ x ≤ 2000000) (hy : -2000000 ≤ y ∧ y ≤ 2000000) :
    Calls Try.prog 33 #[.agg #[.int .i64 x, .int .i64 y, .int .i64 d]] w fun e w' => e = .returned (.agg #[.int .i64 (x + dx d), .int .i64 (y + dy d)]) ∧ Below w.heap.size w w' := by
  have hd : d = 0 ∨ d = 1 ∨ d = 2 ∨ d = 3 := by omega
  have a1 : wrap64 (x + 1) = x + 1 := IntWalk.wrap64_in _ (by omega)
  have a2 : wrap64 (x - 1) = x - 1 := IntWalk.wrap64_in _ (by omega)
  have b1 : wrap64 (y + 1) = y + 1 := IntWalk.wrap64_in _ (by omega)
  have b2 : wrap64 (y - 1) = y - 1 := IntWalk.wrap64_in _ (by omega)
  clear hx hy h0 h3
  have B0 : ∀ u v, Below w.heap.size w ((w.alloc u).alloc v) := fun u v => ((Below.refl _ _).alloc (Nat.le_refl _) _).alloc (by simp) _
  rcases hd with rfl | rfl | rfl | rfl
  · go_enter Try.func33, Try.ntmps33
    go_wp2_with fail
    exact bodyPost_ret (v := .agg #[.int .i64 (x + 1), .int .i64 y]) (by simp [results, Try.results33, go_sem]) rfl ⟨by simp [dx, dy], B0 _ _⟩
  · go_enter Try.func33, Try.ntmps33
    go_wp2_with fail
    exact bodyPost_ret (v := .agg #[.int .i64 x, .int .i64 (y + 1)]) (by simp [results, Try.results33, go_sem]) rfl ⟨by simp [dx, dy], B0 _ _⟩
  · go_enter Try.func33, Try.ntmps33
    go_wp2_with fail
    exact bodyPost_ret (v := .agg #[.int .i64 (x - 1), .int .i64 y]) (by simp [results, Try.results33, go_sem]) rfl ⟨by simp [dx, dy, Int.sub_eq_add_neg], B0 _ _⟩
  · go_enter Try.func33, Try.ntmps33
    go_wp2_with fail
    exact bodyPost_ret (v := .agg #[.int .i64 x, .int .i64 (y - 1)]) (by simp [results, Try.results33, go_sem]) rfl ⟨by simp [dx, dy, Int.sub_eq_add_neg], B0 _ _⟩
end Go.Proofs.Ytaemldfeicjdnaa.Lp
