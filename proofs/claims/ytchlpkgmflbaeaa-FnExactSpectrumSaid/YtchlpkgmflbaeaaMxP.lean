/- Rows of residues; whether a row is one: the model and the program. -/
import Derived.Test.YtchlpkgmflbaeaaSuA
import Derived.Test.YtchlpkgmflbaeaaRmH
namespace Go.Proofs.Ytchlpkgmflbaeaa.Mx
open Go.ChangeShapes Go.WideShapes Go.ChangeAt Go.RowKit
open Go.Proofs.Ytchlpkgmflbaeaa.Lists Go.Proofs.Ytchlpkgmflbaeaa.Al Go.Proofs.Ytchlpkgmflbaeaa.Su

def pw (n : Nat) : Bool := decide (0 < n) && decide (64 % n = 0)
theorem pw_le {n : Nat} (h : pw n = true) : 1 ≤ n ∧ n ≤ 64 := by
  unfold pw at h
  rw [Bool.and_eq_true, decide_eq_true_eq, decide_eq_true_eq] at h
  refine ⟨h.1, ?_⟩
  by_cases e : n ≤ 64
  · exact e
  · rw [Nat.mod_eq_of_lt (by omega)] at h
    omega
def okR (L : List Int) : Bool := pw L.length && L.all (fun d => inn d 0 65536)

set_option maxHeartbeats 1000000 in
theorem div_any (n : Nat) (hn : n < 9223372036854775808) (w : World) : Calls Try.prog 17 #[.int .i64 (n : Int), .int .i64 64] w fun e w' => e = .returned (.bool (pw n)) ∧ w' = w := by
  by_cases h0 : n = 0
  · subst h0
    go_enter Try.func17, Try.ntmps17
    go_wp2_with fail
    go_ret
    exact ⟨rfl, rfl⟩
  · have i1 : (0 : Int) < (n : Int) := by omega
    have i2 : ¬ (n : Int) = 0 := by omega
    have i3 : ((n : Int) == 0) = false := by simp; omega
    have e : Hid (pw n = decide ((64 : Int) % (n : Int) = 0)) := (by
      show _ = _
      unfold pw
      rw [decide_eq_true (by omega : 0 < n), Bool.true_and]
      have q : ((64 % n : Nat) : Int) = (64 : Int) % (n : Int) := by simp
      rw [← q]
      by_cases z : 64 % n = 0
      · rw [z]; rfl
      · rw [decide_eq_false z, decide_eq_false (by omega)])
    have m1 : 0 ≤ (64 : Int) % (n : Int) := Int.emod_nonneg _ i2
    have m2 : (64 : Int) % (n : Int) ≤ 64 := by
      have : ((64 % n : Nat) : Int) = (64 : Int) % (n : Int) := by simp
      have := Nat.mod_le 64 n
      omega
    have i5 : IntKind.i64.wrap ((64 : Int) % (n : Int)) = (64 : Int) % (n : Int) := IntWalk.i64_in _ (by omega)
    go_enter Try.func17, Try.ntmps17
    go_wp2_with fail
    go_ret
    exact ⟨by rw [e.out]; rfl, rfl⟩

theorem and_zero : ∀ k : Fin 65, 1 ≤ k.val → (bits .and .i64 (k.val : Int) ((k.val : Int) - 1) == 0) = pw k.val := by decide
theorem and_pw {n : Nat} (h1 : 1 ≤ n) (h2 : n ≤ 64) : (bits .and .i64 (n : Int) ((n : Int) - 1) = 0) ↔ pw n = true := by
  have := and_zero ⟨n, by omega⟩ h1
  simp only at this
  rw [← this, beq_iff_eq]

set_option maxHeartbeats 1000000 in
theorem sres_any (L : List Int) (v : Value) (w : World) (hL : Lists.Reads w v L) (hf : L.length < 9223372036854775808) :
    Calls Try.prog 10 #[v] w fun e w' => e = .returned (.bool (okR L)) ∧ ∃ m, w' = w.drewN m := by
  have C : Hid (Calls Try.prog 16 #[v, .int .i64 (L.length : Int), .int .i64 0, .int .i64 65536] w fun e w' => e = .returned (.bool (nums L L.length 0 65536)) ∧ ∃ m, w' = w.drewN m) := sall_any L _ _ _ _ w hL hf
  obtain ⟨a, cap, rfl⟩ := hL.form
  unfold okR
  clear hL
  have en : nums L L.length 0 65536 = L.all (fun d => inn d 0 65536) := by unfold nums; simp
  rw [en] at C
  generalize L.all (fun d => inn d 0 65536) = bo at *
  clear en
  generalize L.length = n at *
  by_cases h1 : (n : Int) < 1
  · have hp : pw n = false := by
      cases e : pw n
      · rfl
      · have := pw_le e; omega
    rw [hp]
    clear hp
    go_enter Try.func10, Try.ntmps10
    go_wp2_with fail
    go_ret
    exact ⟨rfl, 0, rfl⟩
  · by_cases h2 : (64 : Int) < (n : Int)
    · have hp : pw n = false := by
        cases e : pw n
        · rfl
        · have := pw_le e; omega
      rw [hp]
      clear hp
      go_enter Try.func10, Try.ntmps10
      go_wp2_with fail
      go_ret
      exact ⟨rfl, 0, rfl⟩
    · have q := and_pw (n := n) (by omega) (by omega)
      cases hp : pw n
      · have z : ¬ bits .and .i64 (n : Int) ((n : Int) - 1) = 0 := by rw [q, hp]; simp
        clear q hp
        go_enter Try.func10, Try.ntmps10
        go_wp2_with fail
        go_ret
        exact ⟨rfl, 0, rfl⟩
      · have z : bits .and .i64 (n : Int) ((n : Int) - 1) = 0 := q.2 hp
        clear q hp
        go_enter Try.func10, Try.ntmps10
        go_wp2_with fail
        refine C.out.mono ?_
        rintro e w1 ⟨rfl, m, rfl⟩
        go_wp2_with fail
        go_ret
        exact ⟨rfl, _, rfl⟩

set_option maxHeartbeats 1000000 in
theorem ires_any (L : List Int) (v : Value) (w : World) (hL : Lists.Reads w v L) (hf : L.length < 9223372036854775808) :
    Calls Try.prog 13 #[v] w fun e w' => e = .returned (.bool (okR L)) ∧ w' = w := by
  have C : Hid (Calls Try.prog 18 #[v, .int .i64 0, .int .i64 65536] w fun e w' => e = .returned (.bool (L.all (fun d => inn d 0 65536))) ∧ w' = w) := iall_any L _ _ _ w hL hf
  have D : Hid (∀ w, Calls Try.prog 17 #[.int .i64 (L.length : Int), .int .i64 64] w fun e w' => e = .returned (.bool (pw L.length)) ∧ w' = w) := div_any _ hf
  obtain ⟨a, cap, rfl⟩ := hL.form
  unfold okR
  clear hL
  generalize L.all (fun d => inn d 0 65536) = bo at *
  generalize pw L.length = bp at *
  generalize L.length = n at *
  cases bp
  · go_enter Try.func13, Try.ntmps13
    go_wp2_with fail
    refine (D.out _).mono ?_
    rintro e w1 ⟨rfl, hw⟩
    subst hw
    go_wp2_with fail
    go_ret
    exact ⟨rfl, rfl⟩
  · go_enter Try.func13, Try.ntmps13
    go_wp2_with fail
    refine (D.out _).mono ?_
    rintro e w1 ⟨rfl, hw⟩
    subst hw
    go_wp2_with fail
    refine C.out.mono ?_
    rintro e w2 ⟨rfl, hw⟩
    subst hw
    go_wp2_with fail
    go_ret
    exact ⟨rfl, rfl⟩

theorem sm_mod (n : Nat) (f : Nat → Int) : sm (n + 1) f % 65537 = (sm n f % 65537 + f n) % 65537 := by
  show (sm n f + f n) % 65537 = _
  omega
theorem all_at {L : List Int} (h : L.all (fun d => inn d 0 65536) = true) (j : Nat) (hj : j < L.length) : 0 ≤ L.getD j 0 ∧ L.getD j 0 ≤ 65536 := by
  rw [List.all_eq_true] at h
  have := h (L.getD j 0) (by simp [List.getD_eq_getElem?_getD, hj])
  rw [inn_iff] at this
  exact this
theorem prod_bound {a b : Int} (ha : 0 ≤ a ∧ a ≤ 65536) (hb : 0 ≤ b ∧ b ≤ 65536) : 0 ≤ a * b ∧ a * b ≤ 4294967296 := by
  have h1 : a * b ≤ 65536 * b := Int.mul_le_mul_of_nonneg_right ha.2 hb.1
  have h2 : 0 ≤ a * b := Int.mul_nonneg ha.1 hb.1
  omega
theorem sm_nn {n : Nat} {f : Nat → Int} (h : ∀ i, i < n → 0 ≤ f i ∧ f i ≤ 4294967296) : ∀ k, k ≤ n → 0 ≤ sm k f ∧ sm k f ≤ 4294967296 * k := by
  intro k hk
  induction k with
  | zero => simp [sm]
  | succ k ih =>
    have a := ih (by omega)
    have b := h k (by omega)
    unfold sm
    omega
end Go.Proofs.Ytchlpkgmflbaeaa.Mx
