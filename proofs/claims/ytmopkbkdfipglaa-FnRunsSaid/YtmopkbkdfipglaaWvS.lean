/- The model's wavelets: what it asks first; a step as lists, plain. -/
import Derived.Test.YtmopkbkdfipglaaWvD
namespace Go.Proofs.Ytmopkbkdfipglaa.Lists
open Go.ChangeShapes Go.WideShapes Go.ChangeAt Go.RowKit

theorem drop_range (Y : List Int) (f : Nat) : Y.drop f = (List.range (Y.length - f)).map fun i => Y.getD (f + i) 0 := by
  apply List.ext_getElem (by simp)
  intro i h1 h2
  have : f + i < Y.length := by simp at h1; omega
  simp [List.getElem?_eq_getElem this]
set_option maxHeartbeats 1000000 in
theorem ssml_any (w : World) (v : Value) (L : List Int) (h : Reads w v L) (hmax : L.length < 9223372036854775808) :
    Calls Try.prog 22 #[v, .int .u64 40] w fun e w' => e = .returned (.bool (sml 1099511627776 L)) ∧ w' = w := by
  obtain ⟨a, cap, rfl⟩ := h.form
  by_cases hb : 4096 < L.length
  · have e : sml 1099511627776 L = false := by unfold sml; simp; omega
    rw [e]
    have i1 : (4096 : Int) < (L.length : Int) := by omega
    go_enter Try.func22, Try.ntmps22
    go_wp2
    go_ret
    exact ⟨rfl, rfl⟩
  have c1 : ¬ ((4096 : Int) < (L.length : Int)) := by omega
  have SA : Hid (sml 1099511627776 L = true → ∀ i, i < L.length → -1099511627776 ≤ L.getD i 0 ∧ L.getD i 0 ≤ 1099511627776) := fun hq i hi => (sml_iff.1 hq).2 i hi
  have HC : Hid (∀ i, i < L.length → ∃ b o, a = some ⟨b, o, none⟩ ∧ L.length ≤ cap ∧ cap ≤ maxLen ∧ w.cell? ⟨b, o + i, none⟩ = some (.int .i64 (L.getD i 0))) := fun i hi => by
    rcases h with ⟨rfl, _⟩ | ⟨b, o, cap', h1, h2, h3, h4, h5⟩
    · simp at hi
    · injection h1 with q1 q2 q3
      subst q3
      exact ⟨b, o, q1, h2, h3, h5 i hi⟩
  obtain ⟨n, hn⟩ : ∃ n, n = L.length := ⟨_, rfl⟩
  have HN : Hid (n = L.length) := hn
  rw [← hn] at c1 hmax ⊢
  obtain ⟨r, hr⟩ : ∃ r, r = sml 1099511627776 L := ⟨_, rfl⟩
  have HRR : Hid (r = sml 1099511627776 L) := hr
  rw [← hr]
  clear h hb hn hr
  go_enter Try.func22, Try.ntmps22
  go_wp2_with fail
  go_loop [5] (fun c => ∃ j : Nat, j ≤ n ∧ c = .int .i64 j ∧ Hid (∀ i, i < j → -1099511627776 ≤ L.getD i 0 ∧ L.getD i 0 ≤ 1099511627776)) (fun c => n - (intOf c).toNat)
  case atStart => exact ⟨0, Nat.zero_le _, rfl, fun i hi => by omega⟩
  case round =>
    obtain ⟨j, hj, rfl, HJ⟩ := hrel
    by_cases hlt : j < n
    · obtain ⟨b, o, rfl, x1, x2, q0⟩ := HC.out j (by rw [← HN.out]; exact hlt)
      rw [← HN.out] at x1
      unfold maxLen at x2
      have i0 : (0 : Int) ≤ (j : Int) := by omega
      have i1 : (j : Int) < (n : Int) := by omega
      obtain ⟨z, hz⟩ : ∃ z, z = L.getD j 0 := ⟨_, rfl⟩
      have HZ : Hid (z = L.getD j 0) := hz
      rw [← hz] at q0
      clear hz
      by_cases hq : -1099511627776 ≤ z ∧ z ≤ 1099511627776
      · have d1 : ¬ (z < -1099511627776) := by omega
        have d2 : ¬ ((1099511627776 : Int) < z) := by omega
        have d1' : decide (z < -1099511627776) = false := by simp; omega
        have d2' : decide ((1099511627776 : Int) < z) = false := by simp; omega
        have HQ : Hid (-1099511627776 ≤ z ∧ z ≤ 1099511627776) := hq
        clear hq
        go_wp2_with fail
        go_round
        case rel => exact ⟨j + 1, by omega, by go_num, fun i hi => by
          by_cases e : i = j
          · subst e; rw [← HZ.out]; exact HQ.out
          · exact HJ.out i (by omega)⟩
        case measure => simp [intOf]; omega
      · have R1 : Hid (r = false) := (by
          show r = false
          rw [HRR.out]
          cases hs : sml 1099511627776 L
          · rfl
          · have := SA.out hs j (by rw [← HN.out]; exact hlt); rw [← HZ.out] at this; exact absurd this hq)
        by_cases hq1 : z < -1099511627776
        · clear hq
          go_wp2_with fail
          go_ret
          exact ⟨congrArg (fun x => Ending.returned (Value.bool x)) R1.out.symm, rfl⟩
        · have d1' : decide (z < -1099511627776) = false := by simp; omega
          have d2 : (1099511627776 : Int) < z := by omega
          clear hq
          go_wp2_with fail
          go_ret
          exact ⟨congrArg (fun x => Ending.returned (Value.bool x)) R1.out.symm, rfl⟩
    · have hjn : j = n := by omega
      subst hjn
      have R1 : Hid (r = true) := (by
        show r = true
        rw [HRR.out]
        exact sml_iff.2 ⟨by rw [← HN.out]; omega, fun i hi => HJ.out i (by rw [HN.out]; exact hi)⟩)
      go_wp2_with fail
      go_ret
      exact ⟨congrArg (fun x => Ending.returned (Value.bool x)) R1.out.symm, rfl⟩
end Go.Proofs.Ytmopkbkdfipglaa.Lists
