/- Degree days: the model, the program. -/
import Derived.Test.YtlebcdjobgibgaaSe
import Derived.Below
import Derived.Deep.RegionHeld3
namespace Go.Proofs.Ytlebcdjobgibgaa.Dg
open Go.ChangeShapes Go.WideShapes Go.ChangeAt Go.RowKit
open Go.Proofs.Ytlebcdjobgibgaa.Lists Go.Proofs.Ytlebcdjobgibgaa.Al Go.Proofs.Ytlebcdjobgibgaa.Su Go.Proofs.Ytlebcdjobgibgaa.Se

def up (z base : Int) : Int := if z ≤ base then 0 else z - base
def dg (L : List Int) (base : Int) (k : Nat) : Int := sm k fun i => up (L.getD i 0) base
def ans (L : List Int) (base : Int) : Int := if okS L && inn base (-100000) 100000 then dg L base L.length else 0
theorem up_bd {z base : Int} (h : -100000 ≤ z ∧ z ≤ 100000) (h' : -100000 ≤ base ∧ base ≤ 100000) : -200000 ≤ up z base ∧ up z base ≤ 200000 := by unfold up; split <;> omega

set_option maxHeartbeats 1000000 in
theorem sdeg_any (L : List Int) (x : Int) (v : Value) (w : World) (hL : Lists.Reads w v L) (hf : L.length < 9223372036854775808) :
    Calls Try.prog 8 #[v, .int .i64 x] w fun e w' => e = .returned (.int .i64 (ans L x)) ∧ ∃ m, w' = w.drewN m := by
  have C : Hid (Calls Try.prog 22 #[v] w fun e w' => e = .returned (.bool (okS L)) ∧ ∃ m, w' = w.drewN m) := sok_any L v w hL hf
  have C2 : Hid (∀ m, Calls Try.prog 23 #[.int .i64 x, .int .i64 (-100000), .int .i64 100000] (w.drewN m) fun e w' => e = .returned (.bool (inn x (-100000) 100000)) ∧ w' = w.drewN m) := fun m => s_in _ _ _ _
  unfold ans
  by_cases hok : okS L = true
  · by_cases hin : inn x (-100000) 100000 = true
    · obtain ⟨l1, l2, hz⟩ := okS_parts hok
      have hx := (inn_iff _ _ _).1 hin
      rw [hok] at C ⊢
      rw [hin] at C2 ⊢
      have HT : Hid (∀ k, k ≤ L.length → -(200000 * (k : Int)) ≤ dg L x k ∧ dg L x k ≤ 200000 * (k : Int)) := fun k hk => sm_bound (fun i hi => up_bd (hz i hi) hx) k hk
      have HZ : Hid (∀ j, j < L.length → -100000 ≤ L.getD j 0 ∧ L.getD j 0 ≤ 100000) := hz
      obtain ⟨b, o, hcell, hvv⟩ := reads_at hL
      obtain ⟨a, cap, rfl⟩ := hL.form
      have HC : Hid (∀ i, i < L.length → w.cell? ⟨b, o + i, none⟩ = some (.int .i64 (L.getD i 0))) := hcell
      have HB : Hid (0 < L.length → b < w.heap.size ∧ a = some ⟨b, o, none⟩) := fun hi => by
        obtain ⟨h1, c, h2⟩ := hvv hi
        simp at h2
        exact ⟨h1, h2.1⟩
      obtain ⟨n, hn⟩ : ∃ n, n = L.length := ⟨_, rfl⟩
      rw [← hn] at hf l1 l2 C ⊢
      have HN : Hid (n = L.length) := hn
      clear hL hcell hvv hn
      clear hz hok hin
      go_enter Try.func8, Try.ntmps8
      go_wp2_with fail
      refine C.out.mono ?_
      rintro e w1 ⟨rfl, m0, rfl⟩
      go_wp2_with fail
      refine (C2.out m0).mono ?_
      rintro e w2 ⟨rfl, hw⟩
      subst hw
      go_wp2_with fail
      go_loopw [5, 6] (fun s i wr => ∃ k : Nat, k ≤ n ∧ i = .int .i64 k ∧ s = .int .i64 (dg L x k) ∧ (∃ m, wr = w.drewN m)) (fun _ i _ => n - (intOf i).toNat)
      case atStart => exact ⟨0, by omega, rfl, rfl, ⟨_, rfl⟩⟩
      case round =>
        obtain ⟨k, hk, rfl, rfl, ⟨m, rfl⟩⟩ := hrel
        by_cases hlt : k < n
        · have hkl : k < L.length := by rw [← HN.out]; exact hlt
          obtain ⟨hb, hx⟩ := HB.out (by omega)
          subst hx
          have q : (w.drewN m).cell? ⟨b, o + k, none⟩ = some (.int .i64 (L.getD k 0)) := HC.out k hkl
          have i1 : (0 : Int) ≤ (k : Int) := by omega
          have i2 : (k : Int) < (n : Int) := by omega
          have E : Hid (dg L x (k + 1) = dg L x k + up (L.getD k 0) x) := rfl
          have t1 := HT.out k (by omega)
          have z1 := HZ.out k hkl
          generalize dg L x k = s at *
          generalize L.getD k 0 = z at *
          by_cases hz : z ≤ x
          · have e0 : Hid (up z x = 0) := (by show _ = _; simp [up, hz])
            go_wp2_with fail
            all_goals go_roundw
            all_goals first
              | exact ⟨k + 1, by omega, by go_num, by rw [E.out, e0.out]; go_num, ⟨_, rfl⟩⟩
              | (simp [intOf]; omega)
          · have e0 : Hid (up z x = z - x) := (by show _ = _; simp [up, hz])
            go_wp2_with fail
            all_goals go_roundw
            all_goals first
              | exact ⟨k + 1, by omega, by go_num, by rw [E.out, e0.out]; go_num, ⟨_, rfl⟩⟩
              | (simp [intOf]; omega)
        · have hkn : k = n := by omega
          subst hkn
          go_wp2_with fail
          go_ret
          exact ⟨by simp, _, rfl⟩
    · rw [Bool.not_eq_true] at hin
      rw [hok] at C ⊢
      rw [hin] at C2 ⊢
      obtain ⟨a, cap, rfl⟩ := hL.form
      clear hL hok hin
      generalize L.length = n at *
      go_enter Try.func8, Try.ntmps8
      go_wp2_with fail
      refine C.out.mono ?_
      rintro e w1 ⟨rfl, m0, rfl⟩
      go_wp2_with fail
      refine (C2.out m0).mono ?_
      rintro e w2 ⟨rfl, hw⟩
      subst hw
      go_wp2_with fail
      go_ret
      exact ⟨rfl, _, rfl⟩
  · rw [Bool.not_eq_true] at hok
    rw [hok] at C ⊢
    obtain ⟨a, cap, rfl⟩ := hL.form
    clear hL hok
    generalize L.length = n at *
    go_enter Try.func8, Try.ntmps8
    go_wp2_with fail
    refine C.out.mono ?_
    rintro e w1 ⟨rfl, m0, rfl⟩
    go_wp2_with fail
    go_ret
    exact ⟨rfl, _, rfl⟩

set_option maxHeartbeats 1000000 in
theorem cl27 (b0 b1 bv ov n cv k : Nat) (x z : Int) (w : World) (hk : k < n)
    (q0 : w.cell? ⟨b0, 0, none⟩ = some (.slice (some ⟨bv, ov, none⟩) n cv)) (q1 : w.cell? ⟨b1, 0, none⟩ = some (.int .i64 x))
    (qx : w.cell? ⟨bv, ov + k, none⟩ = some (.int .i64 z)) (hz : -100000 ≤ z ∧ z ≤ 100000) (hx : -100000 ≤ x ∧ x ≤ 100000) :
    Calls Try.prog 27 #[.int .i64 (k : Int), .pointer (some ⟨b0, 0, none⟩), .pointer (some ⟨b1, 0, none⟩)] w fun e w' => e = .returned (.int .i64 (up z x)) ∧ ∃ m, w' = w.drewN m := by
  have i1 : (0 : Int) ≤ (k : Int) := by omega
  have i2 : (k : Int) < (n : Int) := by omega
  have i5 : IntKind.i64.wrap (z - x) = z - x := IntWalk.i64_in _ (by omega)
  by_cases h : z ≤ x
  · have e0 : up z x = 0 := by simp [up, h]
    rw [e0]
    have h6 : z - x ≤ 0 := by omega
    go_enter Try.func27, Try.ntmps27
    go_wp2_with fail
    go_region
    all_goals go_wp2_with fail
    all_goals go_ret
    all_goals exact ⟨by first | rfl | (congr 2; omega), _, rfl⟩
  · have e0 : up z x = z - x := by simp [up, h]
    rw [e0]
    have h6 : ¬ z - x ≤ 0 := by omega
    go_enter Try.func27, Try.ntmps27
    go_wp2_with fail
    go_region
    all_goals go_wp2_with fail
    all_goals go_ret
    all_goals exact ⟨by first | rfl | (congr 2; omega), _, rfl⟩
end Go.Proofs.Ytlebcdjobgibgaa.Dg
