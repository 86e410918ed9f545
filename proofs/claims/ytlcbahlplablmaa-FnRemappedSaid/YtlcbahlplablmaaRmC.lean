/- What lies below a place: the model, walked. -/
import Derived.Test.YtlcbahlplablmaaRmB
namespace Go.Proofs.Ytlcbahlplablmaa.Rm
open Go.ChangeShapes Go.WideShapes Go.ChangeAt Go.RowKit
open Go.Proofs.Ytlcbahlplablmaa.Lists

set_option maxHeartbeats 1000000 in
theorem sbelow_any (E A : List Int) (x : Int) (hx : -1000000 ≤ x ∧ x ≤ 1000000) (ve va : Value) (w : World) (hE : Lists.Reads w ve E) (hA : Lists.Reads w va A) (hf : Fit E A) :
    Calls Try.prog 16 #[ve, va, .int .i64 x] w fun e w' => e = .returned (.int .i64 (bel E A x A.length)) ∧ ∃ m, w' = w.drewN m := by
  obtain ⟨b, o, hc, hv⟩ := reads_at hE
  obtain ⟨b', o', hc', hv'⟩ := reads_at hA
  obtain ⟨a, cap, rfl⟩ := hE.form
  obtain ⟨a', cap', rfl⟩ := hA.form
  have HC : Hid (∀ i, i < E.length → w.cell? ⟨b, o + i, none⟩ = some (.int .i64 (E.getD i 0))) := hc
  have HC' : Hid (∀ i, i < A.length → w.cell? ⟨b', o' + i, none⟩ = some (.int .i64 (A.getD i 0))) := hc'
  have HV : Hid (0 < E.length → a = some ⟨b, o, none⟩) := fun hi => by
    obtain ⟨h1, c, h2⟩ := hv hi
    simp at h2
    exact h2.1
  have HV' : Hid (0 < A.length → a' = some ⟨b', o', none⟩) := fun hi => by
    obtain ⟨h1, c, h2⟩ := hv' hi
    simp at h2
    exact h2.1
  have HF : Hid (Fit E A) := hf
  have l1 := hf.1
  have l2 := hf.2.1
  obtain ⟨n, hn⟩ : ∃ n, n = A.length := ⟨_, rfl⟩
  have e1 : E.length = n + 1 := by omega
  rw [e1] at l1 ⊢
  rw [← hn] at l2 ⊢
  have HN : Hid (n = A.length) := hn
  clear hE hA hc hc' hv hv' hf hn
  go_enter Try.func16, Try.ntmps16
  go_wp2_with fail
  go_loopw [7, 8] (fun s i wr => ∃ k m : Nat, k ≤ n ∧ i = .int .i64 k ∧ s = .int .i64 (bel E A x k) ∧ Hid (wr = w.drewN m)) (fun _ i _ => n - (intOf i).toNat)
  case atStart => exact ⟨0, 0, Nat.zero_le _, rfl, rfl, rfl⟩
  case round =>
    obtain ⟨k, m, hk, rfl, rfl, HW⟩ := hrel
    obtain ⟨g1, g2⟩ := bel_le HF.out x k (by have := HN.out; omega)
    by_cases hlt : k < n
    · have hkl : k < A.length := by have := HN.out; omega
      have hx1 := HV.out (by omega)
      subst hx1
      have hx2 := HV'.out (by omega)
      subst hx2
      have q0 : wr.cell? ⟨b, o + k, none⟩ = some (.int .i64 (E.getD k 0)) := by rw [HW.out]; exact HC.out k (by omega)
      have q1 : wr.cell? ⟨b, o + (k + 1), none⟩ = some (.int .i64 (E.getD (k + 1) 0)) := by rw [HW.out]; exact HC.out (k + 1) (by omega)
      have q2 : wr.cell? ⟨b', o' + k, none⟩ = some (.int .i64 (A.getD k 0)) := by rw [HW.out]; exact HC'.out k hkl
      obtain ⟨m1, m2⟩ := HF.out.2.2.1 k (by omega)
      obtain ⟨m3, m4⟩ := HF.out.2.2.1 (k + 1) (by omega)
      have m5 := HF.out.2.2.2.1 k (by omega)
      obtain ⟨m6, m7⟩ := HF.out.2.2.2.2 k hkl
      have PA : Hid (bel E A x (k + 1) = bel E A x k + if E.getD (k + 1) 0 ≤ x then A.getD k 0 else if E.getD k 0 < x then (A.getD k 0 * (x - E.getD k 0)).tdiv (E.getD (k + 1) 0 - E.getD k 0) else 0) := rfl
      have i2 : (0 : Int) ≤ (k : Int) := by omega
      have i3 : (k : Int) < (n : Int) := by omega
      have i4 : (k : Int) + 1 < ((n + 1 : Nat) : Int) := by omega
      have i5 : (k : Int) < ((n + 1 : Nat) : Int) := by omega
      have i6 : IntKind.i64.wrap ((k : Int) + 1) = (k : Int) + 1 := IntWalk.i64_in _ (by omega)
      have i7 : (0 : Int) ≤ (k : Int) + 1 := by omega
      generalize E.getD k 0 = u at *
      generalize E.getD (k + 1) 0 = v at *
      generalize A.getD k 0 = z at *
      generalize bel E A x k = s at *
      have j1 : IntKind.i64.wrap (s + z) = s + z := IntWalk.i64_in _ (by omega)
      obtain ⟨N, hN⟩ : ∃ N : Nat, N = n + 1 := ⟨_, rfl⟩
      rw [← hN] at i4 i5 ⊢
      by_cases c1 : v ≤ x
      · have PE : Hid (bel E A x (k + 1) = s + z) := (by show _ = _; rw [PA.out, if_pos c1])
        clear PA hN
        go_wp2_with fail
        go_roundw
        case rel => exact ⟨k + 1, m, by omega, by go_num, by rw [PE.out], HW⟩
        case measure => simp [intOf]; omega
      · by_cases c2 : u < x
        · have PE : Hid (bel E A x (k + 1) = s + (z * (x - u)).tdiv (v - u)) := (by show _ = _; rw [PA.out, if_neg c1, if_pos c2])
          obtain ⟨t1, t2, t3, t4⟩ := quo_le (a := z) (u := x - u) (v := v - u) ⟨m6, m7⟩ (by omega) (by omega) (by omega)
          have j2 : IntKind.i64.wrap (x - u) = x - u := IntWalk.i64_in _ (by omega)
          have j3 : IntKind.i64.wrap (v - u) = v - u := IntWalk.i64_in _ (by omega)
          obtain ⟨y, hy⟩ : ∃ y, y = z * (x - u) := ⟨_, rfl⟩
          have j4 : wrap64 (z * (x - u)) = y := by rw [hy]; exact IntWalk.wrap64_in _ (by omega)
          rw [← hy] at t1 t2 t3 t4 PE
          obtain ⟨d, hd⟩ : ∃ d, d = v - u := ⟨_, rfl⟩
          rw [← hd] at j3 t3 t4 PE
          have d0 : ¬ d = 0 := by omega
          have j5 : IntKind.i64.wrap (y.tdiv d) = y.tdiv d := IntWalk.i64_in _ (by omega)
          have j6 : IntKind.i64.wrap (s + y.tdiv d) = s + y.tdiv d := IntWalk.i64_in _ (by omega)
          have EV : Hid (wrap64 (s + y / (v - u)) = bel E A x (k + 1)) := (by
            show _ = _
            rw [PE.out, hd, ← Int.tdiv_eq_ediv_of_nonneg t1, ← hd]
            exact IntWalk.wrap64_in _ (by omega))
          clear PA hN hy
          go_wp2_with fail
          go_region
          all_goals go_wp2_with fail
          all_goals go_roundw
          all_goals first
            | exact ⟨k + 1, m + 1, by omega, by go_num, by rw [EV.out], (by show _ = _; rw [HW.out]; rfl)⟩
            | (simp [intOf]; omega)
        · have PE : Hid (bel E A x (k + 1) = s) := (by show _ = _; rw [PA.out, if_neg c1, if_neg c2]; omega)
          clear PA hN
          go_wp2_with fail
          go_roundw
          case rel => exact ⟨k + 1, m, by omega, by go_num, by rw [PE.out], HW⟩
          case measure => simp [intOf]; omega
    · have hkn : k = n := by omega
      subst hkn
      go_wp2_with fail
      go_ret
      exact ⟨rfl, m, HW.out⟩
end Go.Proofs.Ytlcbahlplablmaa.Rm
