/- Probabilities that were told: whether a list is right, the sum of squares: the program and the model. -/
import Derived.Test.YtilkccilahglcaaPb
import Derived.Test.YtilkccilahglcaaSuA
import Derived.Deep.DeepCutAuto
namespace Go.Proofs.Ytilkccilahglcaa.Br
open Go.ChangeShapes Go.WideShapes Go.ChangeAt Go.RowKit
open Go.Proofs.Ytilkccilahglcaa.Al Go.Proofs.Ytilkccilahglcaa.Su
abbrev Ls := Pb.Ls

theorem reads_at {w : World} {v : Value} {L : Ls} (hL : Pb.Reads w v L) : ∃ b o, (∀ i, i < L.length → Pb.Cs w b o L i) ∧ (0 < L.length → b < w.heap.size ∧ ∃ cap, v = .slice (some ⟨b, o, none⟩) L.length cap) := by
  rcases hL with ⟨rfl, _⟩ | ⟨b, o, cap, h1, h2, h3, h4, h5⟩
  · exact ⟨0, 0, fun i hi => by simp at hi, fun hi => by simp at hi⟩
  · exact ⟨b, o, h5, fun _ => ⟨h4, cap, h1⟩⟩
def okT (L : Ls) : Bool := decide (L.length ≤ 1000) && (List.range L.length).all (fun j => inn (Pb.c0 L j) 0 100)
theorem okT_iff (L : Ls) : okT L = true ↔ L.length ≤ 1000 ∧ ∀ j, j < L.length → 0 ≤ Pb.c0 L j ∧ Pb.c0 L j ≤ 100 := by
  unfold okT
  simp only [Bool.and_eq_true, decide_eq_true_eq, List.all_eq_true, List.mem_range, inn_iff]
theorem okT_yes {L : Ls} (h : L.length ≤ 1000 ∧ ∀ j, j < L.length → 0 ≤ Pb.c0 L j ∧ Pb.c0 L j ≤ 100) : okT L = true := (okT_iff L).mpr h
theorem okT_no {L : Ls} (h : ¬ (L.length ≤ 1000 ∧ ∀ j, j < L.length → 0 ≤ Pb.c0 L j ∧ Pb.c0 L j ≤ 100)) : okT L = false := by
  cases e : okT L
  · rfl
  · exact absurd ((okT_iff L).mp e) h

set_option maxHeartbeats 1000000 in
theorem sok_any (L : Ls) (v : Value) (w : World) (hL : Pb.Reads w v L) :
    Calls Try.prog 14 #[v] w fun e w' => e = .returned (.bool (okT L)) ∧ w' = w := by
  have hf := hL.fits
  obtain ⟨b, o, hcell, hvv⟩ := reads_at hL
  obtain ⟨a, cap, rfl⟩ := hL.form
  have HC : Hid (∀ i, i < L.length → Pb.Cs w b o L i) := hcell
  have HA : Hid (0 < L.length → a = some ⟨b, o, none⟩) := fun hi => by
    obtain ⟨h1, c, h2⟩ := hvv hi
    simp at h2
    exact h2.1
  obtain ⟨bo, hbo⟩ : ∃ bo, okT L = bo := ⟨_, rfl⟩
  rw [hbo]
  have HO : Hid (okT L = bo) := hbo
  by_cases h1 : (1000 : Int) < (L.length : Int)
  · have F : Hid (bo = false) := (by show _ = _; rw [← hbo]; exact okT_no fun h => by omega)
    rw [F.out]
    clear hL hcell hvv hbo
    generalize L.length = n at *
    go_enter Try.func14, Try.ntmps14
    go_wp2_with fail
    go_ret
    exact ⟨rfl, rfl⟩
  · obtain ⟨n, hn⟩ : ∃ n, n = L.length := ⟨_, rfl⟩
    have HR : Hid ((∀ j, j < n → 0 ≤ Pb.c0 L j ∧ Pb.c0 L j ≤ 100) ↔ okT L = true) := (by
      show _ ↔ _
      rw [okT_iff, hn]
      exact ⟨fun h => ⟨by omega, h⟩, fun h => h.2⟩)
    rw [← hn] at hf HC HA h1 ⊢
    clear hL hcell hvv hbo hn
    go_enter Try.func14, Try.ntmps14
    go_wp2_with fail
    go_loop [3] (fun i => ∃ k : Nat, k ≤ n ∧ i = .int .i64 k ∧ Hid (∀ j, j < k → 0 ≤ Pb.c0 L j ∧ Pb.c0 L j ≤ 100)) (fun i => n - (intOf i).toNat)
    case atStart => exact ⟨0, by omega, rfl, fun j hj => by omega⟩
    case round =>
      obtain ⟨k, hk, rfl, OK⟩ := hrel
      by_cases hlt : k < n
      · have hx := HA.out (by omega)
        subst hx
        obtain ⟨q0, q1⟩ := HC.out k hlt
        have i1 : (0 : Int) ≤ (k : Int) := by omega
        have i2 : (k : Int) < (n : Int) := by omega
        have C3 : Hid (∀ w, Calls Try.prog 21 #[.int .i64 (Pb.c0 L k), .int .i64 0, .int .i64 100] w fun e w' => e = .returned (.bool (inn (Pb.c0 L k) 0 100)) ∧ w' = w) := fun w => s_in _ _ _ w
        cases hz : inn (Pb.c0 L k) 0 100
        · have F : Hid (bo = false) := (by
            show _ = _
            rw [← HO.out]
            cases e : okT L
            · rfl
            · have := HR.out.mpr e k hlt
              rw [(inn_iff _ _ _).mpr this] at hz
              cases hz)
          rw [hz] at C3
          clear hz
          generalize Pb.c0 L k = z at *
          generalize Pb.c1 L k = z' at *
          go_wp2_with fail
          refine (C3.out _).mono ?_
          rintro e w3 ⟨rfl, hw⟩
          have hw' := hw.symm
          subst hw'
          go_wp2_with fail
          go_ret
          exact ⟨by rw [F.out]; rfl, rfl⟩
        · have OK2 : Hid (∀ j, j < k + 1 → 0 ≤ Pb.c0 L j ∧ Pb.c0 L j ≤ 100) := fun j hj => by
            by_cases e : j = k
            · rw [e]; exact (inn_iff _ _ _).mp hz
            · exact OK.out j (by omega)
          rw [hz] at C3
          clear hz
          generalize Pb.c0 L k = z at *
          generalize Pb.c1 L k = z' at *
          go_wp2_with fail
          refine (C3.out _).mono ?_
          rintro e w3 ⟨rfl, hw⟩
          have hw' := hw.symm
          subst hw'
          go_wp2_with fail
          go_round
          case rel => exact ⟨k + 1, by omega, by go_num, OK2⟩
          case measure => simp [intOf]; omega
      · have hkn : k = n := by omega
        subst hkn
        have F : Hid (bo = true) := (by show _ = _; rw [← HO.out]; exact HR.out.mp OK.out)
        go_wp2_with fail
        go_ret
        exact ⟨by rw [F.out]; rfl, rfl⟩

set_option maxHeartbeats 1000000 in
theorem iok_any (L : Ls) (v : Value) (w : World) (hL : Pb.Reads w v L) :
    Calls Try.prog 13 #[v] w fun e w' => e = .returned (.bool (okT L)) ∧ Below w.heap.size w w' := by
  have hf := hL.fits
  obtain ⟨b, o, hcell, hvv⟩ := reads_at hL
  obtain ⟨a, cap, rfl⟩ := hL.form
  have HB : Hid (0 < L.length → b < w.heap.size) := fun hi => (hvv hi).1
  have HC : Hid (∀ i, i < L.length → ∀ w', Below w.heap.size w w' → Pb.Cs w' b o L i) := fun i hi w' hb => (hcell i hi).below hb (HB.out (by omega))
  have HA : Hid (0 < L.length → a = some ⟨b, o, none⟩) := fun hi => by
    obtain ⟨h1, c, h2⟩ := hvv hi
    simp at h2
    exact h2.1
  obtain ⟨bo, hbo⟩ : ∃ bo, okT L = bo := ⟨_, rfl⟩
  rw [hbo]
  have HO : Hid (okT L = bo) := hbo
  by_cases h1 : (1000 : Int) < (L.length : Int)
  · have F : Hid (bo = false) := (by show _ = _; rw [← hbo]; exact okT_no fun h => by omega)
    rw [F.out]
    clear hL hcell hvv hbo
    generalize L.length = n at *
    go_enter Try.func13, Try.ntmps13
    go_wp2_with fail
    go_ret
    exact ⟨rfl, Below.refl _ _⟩
  · obtain ⟨n, hn⟩ : ∃ n, n = L.length := ⟨_, rfl⟩
    have HR : Hid ((∀ j, j < n → 0 ≤ Pb.c0 L j ∧ Pb.c0 L j ≤ 100) ↔ okT L = true) := (by
      show _ ↔ _
      rw [okT_iff, hn]
      exact ⟨fun h => ⟨by omega, h⟩, fun h => h.2⟩)
    rw [← hn] at hf HC HA HB h1 ⊢
    clear hL hcell hvv hbo hn
    go_enter Try.func13, Try.ntmps13
    go_wp2_with fail
    go_loopw [10] (fun i wr => ∃ k : Nat, k ≤ n ∧ i = .int .i64 k ∧ Hid (Below w.heap.size w wr) ∧ Hid (∀ j, j < k → 0 ≤ Pb.c0 L j ∧ Pb.c0 L j ≤ 100)) (fun i _ => n - (intOf i).toNat)
    case atStart => exact ⟨0, by omega, rfl, Below.refl _ _, fun j hj => by omega⟩
    case round =>
      obtain ⟨k, hk, rfl, BR, OK⟩ := hrel
      by_cases hlt : k < n
      · have hx := HA.out (by omega)
        subst hx
        obtain ⟨q0, q1⟩ := HC.out k hlt wr BR.out
        have i1 : (0 : Int) ≤ (k : Int) := by omega
        have i2 : (k : Int) < (n : Int) := by omega
        have C3 : Hid (∀ w, Calls Try.prog 20 #[.int .i64 (Pb.c0 L k), .int .i64 0, .int .i64 100] w fun e w' => e = .returned (.bool (inn (Pb.c0 L k) 0 100)) ∧ w' = w) := fun w => i_in _ _ _ w
        have BN : Hid (Below w.heap.size w (wr.alloc (Obj.cells #[.int .i64 (Pb.c0 L k), .bool (Pb.c1 L k)] 34))) := BR.out.alloc BR.out.size _
        cases hz : inn (Pb.c0 L k) 0 100
        · have F : Hid (bo = false) := (by
            show _ = _
            rw [← HO.out]
            cases e : okT L
            · rfl
            · have := HR.out.mpr e k hlt
              rw [(inn_iff _ _ _).mpr this] at hz
              cases hz)
          rw [hz] at C3
          clear hz
          generalize Pb.c0 L k = z at *
          generalize Pb.c1 L k = z' at *
          go_wp2_with fail
          refine (C3.out _).mono ?_
          rintro e w3 ⟨rfl, hw⟩
          subst hw
          go_wp2_with fail
          go_ret
          exact ⟨by rw [F.out]; rfl, BN.out⟩
        · have OK2 : Hid (∀ j, j < k + 1 → 0 ≤ Pb.c0 L j ∧ Pb.c0 L j ≤ 100) := fun j hj => by
            by_cases e : j = k
            · rw [e]; exact (inn_iff _ _ _).mp hz
            · exact OK.out j (by omega)
          rw [hz] at C3
          clear hz
          generalize Pb.c0 L k = z at *
          generalize Pb.c1 L k = z' at *
          go_wp2_with fail
          refine (C3.out _).mono ?_
          rintro e w3 ⟨rfl, hw⟩
          subst hw
          go_wp2_with fail
          go_roundw
          case rel => exact ⟨k + 1, by omega, by go_num, BN, OK2⟩
          case measure => simp [intOf]; omega
      · have hkn : k = n := by omega
        subst hkn
        have F : Hid (bo = true) := (by show _ = _; rw [← HO.out]; exact HR.out.mp OK.out)
        go_wp2_with fail
        go_ret
        exact ⟨by rw [F.out]; rfl, BR.out⟩
end Go.Proofs.Ytilkccilahglcaa.Br
