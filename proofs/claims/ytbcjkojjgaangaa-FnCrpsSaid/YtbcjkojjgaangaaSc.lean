/- Scores of members: whether they are right, how many are below a number, how many are not. -/
import Derived.Test.YtbcjkojjgaangaaAlA
namespace Go.Proofs.Ytbcjkojjgaangaa.Sc
open Go.ChangeShapes Go.WideShapes Go.ChangeAt Go.RowKit
open Go.Proofs.Ytbcjkojjgaangaa.Lists Go.Proofs.Ytbcjkojjgaangaa.Al

def okM (L : List Int) : Bool := inn L.length 1 60 && L.all (fun d => inn d (-1000000) 1000000)
def cge (L : List Int) (x : Int) : Nat → Int
  | 0 => 0
  | k + 1 => cge L x k + if x ≤ L.getD k 0 then 1 else 0
def clt (L : List Int) (x : Int) : Nat → Int
  | 0 => 0
  | k + 1 => clt L x k + if L.getD k 0 < x then 1 else 0
theorem cge_bd (L : List Int) (x : Int) (k : Nat) : 0 ≤ cge L x k ∧ cge L x k ≤ k := by
  induction k with
  | zero => simp [cge]
  | succ k ih => unfold cge; split <;> omega
theorem clt_bd (L : List Int) (x : Int) (k : Nat) : 0 ≤ clt L x k ∧ clt L x k ≤ k := by
  induction k with
  | zero => simp [clt]
  | succ k ih => unfold clt; split <;> omega
theorem both (L : List Int) (x : Int) (k : Nat) : (k : Int) - clt L x k = cge L x k := by
  induction k with
  | zero => simp [clt, cge]
  | succ k ih => unfold clt cge; split <;> split <;> omega

set_option maxHeartbeats 1000000 in
theorem sok_any (L : List Int) (v : Value) (w : World) (hL : Lists.Reads w v L) (hf : L.length < 9223372036854775808) :
    Calls Try.prog 11 #[v] w fun e w' => e = .returned (.bool (okM L)) ∧ ∃ m, w' = w.drewN m := by
  have C : Hid (∀ m, Calls Try.prog 20 #[v, .int .i64 (L.length : Int), .int .i64 (-1000000), .int .i64 1000000] (w.drewN m) fun e w' => e = .returned (.bool (L.all (fun d => inn d (-1000000) 1000000))) ∧ ∃ m, w' = w.drewN m) := fun m => by
    have := sall_any L L.length (-1000000) 1000000 v (w.drewN m) hL hf
    unfold nums at this
    simp only [decide_true, Bool.true_and] at this
    refine this.mono ?_
    rintro e w' ⟨rfl, m', rfl⟩
    exact ⟨rfl, m + m', by simp⟩
  unfold okM
  obtain ⟨a, cap, rfl⟩ := hL.form
  clear hL
  generalize L.all (fun d => inn d (-1000000) 1000000) = bo at *
  generalize L.length = n at *
  by_cases h1 : (1 : Int) ≤ n
  · by_cases h2 : (n : Int) ≤ 60
    · have e : inn n 1 60 = true := by simp [inn]; omega
      rw [e]
      go_enter Try.func11, Try.ntmps11
      go_wp2_with fail
      refine (C.out 0).mono ?_
      rintro e w1 ⟨rfl, m, rfl⟩
      go_wp2_with fail
      go_ret
      exact ⟨rfl, _, rfl⟩
    · have e : inn n 1 60 = false := by simp [inn]; omega
      rw [e]
      go_enter Try.func11, Try.ntmps11
      go_wp2_with fail
      go_ret
      exact ⟨rfl, 0, rfl⟩
  · have e : inn n 1 60 = false := by simp [inn]; omega
    rw [e]
    go_enter Try.func11, Try.ntmps11
    go_wp2_with fail
    go_ret
    exact ⟨rfl, 0, rfl⟩

set_option maxHeartbeats 1000000 in
theorem iok_any (L : List Int) (v : Value) (w : World) (hL : Lists.Reads w v L) (hf : L.length < 9223372036854775808) :
    Calls Try.prog 21 #[v, .int .i64 60] w fun e w' => e = .returned (.bool (okM L)) ∧ w' = w := by
  have C1 : Hid (Calls Try.prog 13 #[.int .i64 (L.length : Int), .int .i64 1, .int .i64 60] w fun e w' => e = .returned (.bool (inn L.length 1 60)) ∧ w' = w) := i_in _ _ _ w
  have C : Hid (Calls Try.prog 28 #[v, .int .i64 (-1000000), .int .i64 1000000] w fun e w' => e = .returned (.bool (L.all (fun d => inn d (-1000000) 1000000))) ∧ w' = w) := iall_any L _ _ v w hL hf
  unfold okM
  obtain ⟨a, cap, rfl⟩ := hL.form
  clear hL
  generalize L.all (fun d => inn d (-1000000) 1000000) = bo at *
  generalize L.length = n at *
  generalize inn n 1 60 = bn at *
  cases bn
  · go_enter Try.func21, Try.ntmps21
    go_wp2_with fail
    refine C1.out.mono ?_
    rintro e w1 ⟨rfl, hw⟩
    subst hw
    go_wp2_with fail
    go_ret
    exact ⟨rfl, rfl⟩
  · go_enter Try.func21, Try.ntmps21
    go_wp2_with fail
    refine C1.out.mono ?_
    rintro e w1 ⟨rfl, hw⟩
    subst hw
    go_wp2_with fail
    refine C.out.mono ?_
    rintro e w1 ⟨rfl, hw⟩
    subst hw
    go_wp2_with fail
    go_ret
    exact ⟨rfl, rfl⟩

set_option maxHeartbeats 1000000 in
theorem irank_any (L : List Int) (x : Int) (v : Value) (w : World) (hL : Lists.Reads w v L) (hf : L.length < 9223372036854775808) :
    Calls Try.prog 23 #[v, .int .i64 x] w fun e w' => e = .returned (.int .i64 (clt L x L.length)) ∧ w' = w := by
  obtain ⟨b, o, hcell, hvv⟩ := reads_at hL
  obtain ⟨a, cap, rfl⟩ := hL.form
  have HC : Hid (∀ i, i < L.length → w.cell? ⟨b, o + i, none⟩ = some (.int .i64 (L.getD i 0))) := hcell
  have HB : Hid (0 < L.length → b < w.heap.size ∧ a = some ⟨b, o, none⟩) := fun hi => by
    obtain ⟨h1, c, h2⟩ := hvv hi
    simp at h2
    exact ⟨h1, h2.1⟩
  obtain ⟨n, hn⟩ : ∃ n, n = L.length := ⟨_, rfl⟩
  rw [← hn] at hf ⊢
  have HN : Hid (n = L.length) := hn
  clear hL hcell hvv hn
  go_enter Try.func23, Try.ntmps23
  go_wp2_with fail
  go_loop [5, 10] (fun s i => ∃ k : Nat, k ≤ n ∧ i = .int .i64 k ∧ s = .int .i64 (clt L x k)) (fun _ i => n - (intOf i).toNat)
  case atStart => exact ⟨0, by omega, rfl, rfl⟩
  case round =>
    obtain ⟨k, hk, rfl, rfl⟩ := hrel
    by_cases hlt : k < n
    · have hkl : k < L.length := by rw [← HN.out]; exact hlt
      obtain ⟨hb, hx⟩ := HB.out (by omega)
      subst hx
      have q : w.cell? ⟨b, o + k, none⟩ = some (.int .i64 (L.getD k 0)) := HC.out k hkl
      have i1 : (0 : Int) ≤ (k : Int) := by omega
      have i2 : (k : Int) < (n : Int) := by omega
      have E : Hid (clt L x (k + 1) = clt L x k + if L.getD k 0 < x then 1 else 0) := rfl
      have bd := clt_bd L x k
      generalize clt L x k = s at *
      generalize L.getD k 0 = z at *
      by_cases hz : z < x
      · rw [if_pos hz] at E
        go_wp2_with fail
        go_round
        case rel => exact ⟨k + 1, by omega, by go_num, by rw [E.out]⟩
        case measure => simp [intOf]; omega
      · rw [if_neg hz, Int.add_zero] at E
        go_wp2_with fail
        go_round
        case rel => exact ⟨k + 1, by omega, by go_num, by rw [E.out]⟩
        case measure => simp [intOf]; omega
    · have hkn : k = n := by omega
      subst hkn
      go_wp2_with fail
      go_ret
      exact ⟨rfl, rfl⟩

set_option maxHeartbeats 1000000 in
theorem iover_any (L : List Int) (x : Int) (v : Value) (w : World) (hL : Lists.Reads w v L) (hf : L.length < 9223372036854775808) :
    Calls Try.prog 22 #[v, .int .i64 x] w fun e w' => e = .returned (.int .i64 (cge L x L.length)) ∧ w' = w := by
  have C : Hid (Calls Try.prog 23 #[v, .int .i64 x] w fun e w' => e = .returned (.int .i64 (clt L x L.length)) ∧ w' = w) := irank_any L x v w hL hf
  obtain ⟨a, cap, rfl⟩ := hL.form
  rw [← both]
  have bd := clt_bd L x L.length
  clear hL
  generalize clt L x L.length = t at *
  generalize L.length = n at *
  go_enter Try.func22, Try.ntmps22
  go_wp2_with fail
  refine C.out.mono ?_
  rintro e w1 ⟨rfl, hw⟩
  subst hw
  go_wp2_with fail
  go_ret
  exact ⟨rfl, rfl⟩

end Go.Proofs.Ytbcjkojjgaangaa.Sc
