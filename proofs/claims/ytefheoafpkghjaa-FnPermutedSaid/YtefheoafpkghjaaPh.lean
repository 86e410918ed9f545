/- Whether a sample is right; its sum. -/
import Derived.Test.YtefheoafpkghjaaPg
namespace Go.Proofs.Ytefheoafpkghjaa.Pe
open Go.ChangeShapes Go.WideShapes Go.ChangeAt Go.RowKit
open Go.Proofs.Ytefheoafpkghjaa.Lists Go.Proofs.Ytefheoafpkghjaa.Al

def okU (L : List Int) (m : Int) : Bool := inn L.length 1 m && L.all (fun d => inn d (-1000000) 1000000)
theorem okU_parts {L : List Int} {m : Int} (h : okU L m = true) : (1 ≤ L.length ∧ (L.length : Int) ≤ m) ∧ inB L := by
  unfold okU at h
  rw [Bool.and_eq_true, inn_iff, List.all_eq_true] at h
  refine ⟨⟨by omega, h.1.2⟩, fun z hz => ?_⟩
  have := h.2 z hz
  rw [inn_iff] at this
  exact this
def tot (L : List Int) : Nat → Int
  | 0 => 0
  | k + 1 => tot L k + L.getD k 0
theorem tot_bd {L : List Int} (h : inB L) (k : Nat) (hk : k ≤ L.length) : -1000000 * (k : Int) ≤ tot L k ∧ tot L k ≤ 1000000 * k := by
  induction k with
  | zero => simp [tot]
  | succ k ih =>
    have a := ih (by omega)
    have b := h (L.getD k 0) (by simp [List.getD_eq_getElem?_getD, show k < L.length by omega])
    unfold tot
    omega

set_option maxHeartbeats 1000000 in
theorem sok_any (L : List Int) (v : Value) (w : World) (hL : Lists.Reads w v L) (hf : L.length < 9223372036854775808) :
    Calls Try.prog 11 #[v] w fun e w' => e = .returned (.bool (okU L 60)) ∧ ∃ m, w' = w.drewN m := by
  have C : Hid (∀ m, Calls Try.prog 19 #[v, .int .i64 (L.length : Int), .int .i64 (-1000000), .int .i64 1000000] (w.drewN m) fun e w' => e = .returned (.bool (L.all (fun d => inn d (-1000000) 1000000))) ∧ ∃ m, w' = w.drewN m) := fun m => by
    have := sall_any L L.length (-1000000) 1000000 v (w.drewN m) hL hf
    unfold nums at this
    simp only [decide_true, Bool.true_and] at this
    refine this.mono ?_
    rintro e w' ⟨rfl, m', rfl⟩
    exact ⟨rfl, m + m', by simp⟩
  unfold okU
  obtain ⟨a, cap, rfl⟩ := hL.form
  clear hL
  generalize L.all (fun d => inn d (-1000000) 1000000) = bo at *
  generalize L.length = n at *
  by_cases h1 : (1 : Int) ≤ n
  · by_cases h2 : (n : Int) ≤ 60
    · have e : inn n 1 60 = true := by simp [inn]; omega
      rw [e]
      go_enter Try.func11, Try.ntmps11
      go_wp2_with fail
      refine (C.out 0).mono ?_
      rintro e w1 ⟨rfl, m, rfl⟩
      go_wp2_with fail
      go_ret
      exact ⟨rfl, _, rfl⟩
    · have e : inn n 1 60 = false := by simp [inn]; omega
      rw [e]
      go_enter Try.func11, Try.ntmps11
      go_wp2_with fail
      go_ret
      exact ⟨rfl, 0, rfl⟩
  · have e : inn n 1 60 = false := by simp [inn]; omega
    rw [e]
    go_enter Try.func11, Try.ntmps11
    go_wp2_with fail
    go_ret
    exact ⟨rfl, 0, rfl⟩

set_option maxHeartbeats 1000000 in
theorem iok_any (L : List Int) (M : Int) (v : Value) (w : World) (hL : Lists.Reads w v L) (hf : L.length < 9223372036854775808) :
    Calls Try.prog 13 #[v, .int .i64 M] w fun e w' => e = .returned (.bool (okU L M)) ∧ w' = w := by
  have C1 : Hid (Calls Try.prog 20 #[.int .i64 (L.length : Int), .int .i64 1, .int .i64 M] w fun e w' => e = .returned (.bool (inn L.length 1 M)) ∧ w' = w) := i_in _ _ _ w
  have C : Hid (Calls Try.prog 21 #[v, .int .i64 (-1000000), .int .i64 1000000] w fun e w' => e = .returned (.bool (L.all (fun d => inn d (-1000000) 1000000))) ∧ w' = w) := iall_any L _ _ v w hL hf
  unfold okU
  obtain ⟨a, cap, rfl⟩ := hL.form
  clear hL
  generalize L.all (fun d => inn d (-1000000) 1000000) = bo at *
  generalize L.length = n at *
  generalize inn n 1 M = bn at *
  cases bn
  · go_enter Try.func13, Try.ntmps13
    go_wp2_with fail
    refine C1.out.mono ?_
    rintro e w1 ⟨rfl, hw⟩
    subst hw
    go_wp2_with fail
    go_ret
    exact ⟨rfl, rfl⟩
  · go_enter Try.func13, Try.ntmps13
    go_wp2_with fail
    refine C1.out.mono ?_
    rintro e w1 ⟨rfl, hw⟩
    subst hw
    go_wp2_with fail
    refine C.out.mono ?_
    rintro e w1 ⟨rfl, hw⟩
    subst hw
    go_wp2_with fail
    go_ret
    exact ⟨rfl, rfl⟩

set_option maxHeartbeats 1000000 in
theorem total_any (L : List Int) (v : Value) (w : World) (hL : Lists.Reads w v L) (hn : L.length ≤ 60) (hb : inB L) :
    Calls Try.prog 16 #[v] w fun e w' => e = .returned (.int .i64 (tot L L.length)) ∧ w' = w := by
  obtain ⟨b, o, hcell, hvv⟩ := reads_at hL
  obtain ⟨a, cap, rfl⟩ := hL.form
  have HC : Hid (∀ i, i < L.length → w.cell? ⟨b, o + i, none⟩ = some (.int .i64 (L.getD i 0))) := hcell
  have HB : Hid (0 < L.length → b < w.heap.size ∧ a = some ⟨b, o, none⟩) := fun hi => by
    obtain ⟨h1, c, h2⟩ := hvv hi
    simp at h2
    exact ⟨h1, h2.1⟩
  obtain ⟨n, hn'⟩ : ∃ n, n = L.length := ⟨_, rfl⟩
  rw [← hn'] at hn ⊢
  have HN : Hid (n = L.length) := hn'
  have HD : Hid (inB L) := hb
  clear hL hcell hvv hn' hb
  go_enter Try.func16, Try.ntmps16
  go_wp2_with fail
  go_loop [3, 8] (fun s i => ∃ k : Nat, k ≤ n ∧ i = .int .i64 k ∧ s = .int .i64 (tot L k)) (fun _ i => n - (intOf i).toNat)
  case atStart => exact ⟨0, by omega, rfl, rfl⟩
  case round =>
    obtain ⟨k, hk, rfl, rfl⟩ := hrel
    by_cases hlt : k < n
    · have hkl : k < L.length := by rw [← HN.out]; exact hlt
      obtain ⟨hb, hx⟩ := HB.out (by omega)
      subst hx
      have q : w.cell? ⟨b, o + k, none⟩ = some (.int .i64 (L.getD k 0)) := HC.out k hkl
      have i1 : (0 : Int) ≤ (k : Int) := by omega
      have i2 : (k : Int) < (n : Int) := by omega
      have E : Hid (tot L (k + 1) = tot L k + L.getD k 0) := rfl
      have bd := tot_bd HD.out k (by omega)
      have bz := HD.out (L.getD k 0) (by simp [List.getD_eq_getElem?_getD, hkl])
      generalize tot L k = s at *
      generalize L.getD k 0 = z at *
      go_wp2_with fail
      go_round
      case rel => exact ⟨k + 1, by omega, by go_num, by rw [E.out]⟩
      case measure => simp [intOf]; omega
    · have hkn : k = n := by omega
      subst hkn
      go_wp2_with fail
      go_ret
      exact ⟨rfl, rfl⟩
end Go.Proofs.Ytefheoafpkghjaa.Pe
