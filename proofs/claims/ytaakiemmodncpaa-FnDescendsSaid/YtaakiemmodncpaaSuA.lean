/- A sum over a function value, for each of the function literals that are handed to it. -/
import Derived.Test.YtaakiemmodncpaaAlA
import Derived.WalkLawsBesides
namespace Go.Proofs.Ytaakiemmodncpaa.Su
open Go.ChangeShapes Go.WideShapes Go.ChangeAt Go.RowKit
open Go.Proofs.Ytaakiemmodncpaa.Lists

def sm : Nat → (Nat → Int) → Int
  | 0, _ => 0
  | n + 1, f => sm n f + f n
theorem sm_congr {n : Nat} {f g : Nat → Int} (h : ∀ i, i < n → f i = g i) : sm n f = sm n g := by
  induction n with
  | zero => rfl
  | succ n ih => unfold sm; rw [ih fun i hi => h i (by omega), h n (by omega)]
theorem sm_bound {n : Nat} {f : Nat → Int} {M : Int} (h : ∀ i, i < n → -M ≤ f i ∧ f i ≤ M) : ∀ k, k ≤ n → -(M * k) ≤ sm k f ∧ sm k f ≤ M * k := by
  intro k hk
  induction k with
  | zero => simp [sm]
  | succ k ih =>
    have a := ih (by omega)
    have b := h k (by omega)
    unfold sm
    have e : M * ((k + 1 : Nat) : Int) = M * (k : Int) + M := by rw [Int.natCast_add, Int.mul_add]; simp
    rw [e]
    omega


set_option maxHeartbeats 1000000 in
theorem summed48 (I : World → Prop) (c : Nat) (p0 p1 : Value) (f : Nat → Int) (w : World) (hw : I w) (hc : c < 9223372036854775808)
    (C : ∀ k, k < c → ∀ w, I w → Calls Try.prog 55 #[.int .i64 (k : Int), p0, p1] w fun e w' => e = .returned (.int .i64 (f k)) ∧ I w')
    (B : ∀ k, k ≤ c → -9223372036854775808 ≤ sm k f ∧ sm k f < 9223372036854775808) :
    Calls Try.prog 54 #[.int .i64 (c : Int), .func (.func 55) #[] #[p0, p1]] w fun e w' => e = .returned (.int .i64 (sm c f)) ∧ I w' := by
  have HC : Hid (∀ k, k < c → ∀ w, I w → Calls Try.prog 55 #[.int .i64 (k : Int), p0, p1] w fun e w' => e = .returned (.int .i64 (f k)) ∧ I w') := C
  have HB : Hid (∀ k, k ≤ c → -9223372036854775808 ≤ sm k f ∧ sm k f < 9223372036854775808) := B
  have HW : Hid (I w) := hw
  clear C B hw
  go_enter Try.func54, Try.ntmps54
  go_wp2_with fail
  go_loopw [5, 9] (fun s i wr => ∃ k : Nat, k ≤ c ∧ i = .int .i64 k ∧ s = .int .i64 (sm k f) ∧ Hid (I wr)) (fun _ i _ => c - (intOf i).toNat)
  case atStart => exact ⟨0, Nat.zero_le _, rfl, rfl, HW⟩
  case round =>
    obtain ⟨k, hk, rfl, rfl, HI⟩ := hrel
    by_cases hlt : k < c
    · have C3 : Hid (Calls Try.prog 55 #[.int .i64 (k : Int), p0, p1] wr fun e w' => e = .returned (.int .i64 (f k)) ∧ I w') := HC.out k hlt wr HI.out
      have b2 : -9223372036854775808 ≤ sm k f + f k ∧ sm k f + f k < 9223372036854775808 := HB.out (k + 1) hlt
      have e2 : Hid (sm (k + 1) f = sm k f + f k) := rfl
      have i2 : (k : Int) < (c : Int) := by omega
      generalize sm k f = s at *
      generalize f k = t at *
      go_wp2_with fail
      refine C3.out.mono ?_
      rintro e w3 ⟨rfl, hw⟩
      have HI3 : Hid (I w3) := hw
      clear hw
      go_wp2_with fail
      go_roundw
      case rel => exact ⟨k + 1, by omega, by go_num, by rw [e2.out], HI3⟩
      case measure => simp [intOf]; omega
    · have hke : k = c := by omega
      subst hke
      go_wp2_with fail
      go_ret
      exact ⟨rfl, HI.out⟩

set_option maxHeartbeats 1000000 in
theorem summed56 (I : World → Prop) (c : Nat) (p0 p1 : Value) (f : Nat → Int) (w : World) (hw : I w) (hc : c < 9223372036854775808)
    (C : ∀ k, k < c → ∀ w, I w → Calls Try.prog 61 #[.int .i64 (k : Int), p0, p1] w fun e w' => e = .returned (.int .i64 (f k)) ∧ I w')
    (B : ∀ k, k ≤ c → -9223372036854775808 ≤ sm k f ∧ sm k f < 9223372036854775808) :
    Calls Try.prog 54 #[.int .i64 (c : Int), .func (.func 61) #[] #[p0, p1]] w fun e w' => e = .returned (.int .i64 (sm c f)) ∧ I w' := by
  have HC : Hid (∀ k, k < c → ∀ w, I w → Calls Try.prog 61 #[.int .i64 (k : Int), p0, p1] w fun e w' => e = .returned (.int .i64 (f k)) ∧ I w') := C
  have HB : Hid (∀ k, k ≤ c → -9223372036854775808 ≤ sm k f ∧ sm k f < 9223372036854775808) := B
  have HW : Hid (I w) := hw
  clear C B hw
  go_enter Try.func54, Try.ntmps54
  go_wp2_with fail
  go_loopw [5, 9] (fun s i wr => ∃ k : Nat, k ≤ c ∧ i = .int .i64 k ∧ s = .int .i64 (sm k f) ∧ Hid (I wr)) (fun _ i _ => c - (intOf i).toNat)
  case atStart => exact ⟨0, Nat.zero_le _, rfl, rfl, HW⟩
  case round =>
    obtain ⟨k, hk, rfl, rfl, HI⟩ := hrel
    by_cases hlt : k < c
    · have C3 : Hid (Calls Try.prog 61 #[.int .i64 (k : Int), p0, p1] wr fun e w' => e = .returned (.int .i64 (f k)) ∧ I w') := HC.out k hlt wr HI.out
      have b2 : -9223372036854775808 ≤ sm k f + f k ∧ sm k f + f k < 9223372036854775808 := HB.out (k + 1) hlt
      have e2 : Hid (sm (k + 1) f = sm k f + f k) := rfl
      have i2 : (k : Int) < (c : Int) := by omega
      generalize sm k f = s at *
      generalize f k = t at *
      go_wp2_with fail
      refine C3.out.mono ?_
      rintro e w3 ⟨rfl, hw⟩
      have HI3 : Hid (I w3) := hw
      clear hw
      go_wp2_with fail
      go_roundw
      case rel => exact ⟨k + 1, by omega, by go_num, by rw [e2.out], HI3⟩
      case measure => simp [intOf]; omega
    · have hke : k = c := by omega
      subst hke
      go_wp2_with fail
      go_ret
      exact ⟨rfl, HI.out⟩

set_option maxHeartbeats 1000000 in
theorem summed57 (I : World → Prop) (c : Nat) (p0 p1 : Value) (f : Nat → Int) (w : World) (hw : I w) (hc : c < 9223372036854775808)
    (C : ∀ k, k < c → ∀ w, I w → Calls Try.prog 62 #[.int .i64 (k : Int), p0, p1] w fun e w' => e = .returned (.int .i64 (f k)) ∧ I w')
    (B : ∀ k, k ≤ c → -9223372036854775808 ≤ sm k f ∧ sm k f < 9223372036854775808) :
    Calls Try.prog 54 #[.int .i64 (c : Int), .func (.func 62) #[] #[p0, p1]] w fun e w' => e = .returned (.int .i64 (sm c f)) ∧ I w' := by
  have HC : Hid (∀ k, k < c → ∀ w, I w → Calls Try.prog 62 #[.int .i64 (k : Int), p0, p1] w fun e w' => e = .returned (.int .i64 (f k)) ∧ I w') := C
  have HB : Hid (∀ k, k ≤ c → -9223372036854775808 ≤ sm k f ∧ sm k f < 9223372036854775808) := B
  have HW : Hid (I w) := hw
  clear C B hw
  go_enter Try.func54, Try.ntmps54
  go_wp2_with fail
  go_loopw [5, 9] (fun s i wr => ∃ k : Nat, k ≤ c ∧ i = .int .i64 k ∧ s = .int .i64 (sm k f) ∧ Hid (I wr)) (fun _ i _ => c - (intOf i).toNat)
  case atStart => exact ⟨0, Nat.zero_le _, rfl, rfl, HW⟩
  case round =>
    obtain ⟨k, hk, rfl, rfl, HI⟩ := hrel
    by_cases hlt : k < c
    · have C3 : Hid (Calls Try.prog 62 #[.int .i64 (k : Int), p0, p1] wr fun e w' => e = .returned (.int .i64 (f k)) ∧ I w') := HC.out k hlt wr HI.out
      have b2 : -9223372036854775808 ≤ sm k f + f k ∧ sm k f + f k < 9223372036854775808 := HB.out (k + 1) hlt
      have e2 : Hid (sm (k + 1) f = sm k f + f k) := rfl
      have i2 : (k : Int) < (c : Int) := by omega
      generalize sm k f = s at *
      generalize f k = t at *
      go_wp2_with fail
      refine C3.out.mono ?_
      rintro e w3 ⟨rfl, hw⟩
      have HI3 : Hid (I w3) := hw
      clear hw
      go_wp2_with fail
      go_roundw
      case rel => exact ⟨k + 1, by omega, by go_num, by rw [e2.out], HI3⟩
      case measure => simp [intOf]; omega
    · have hke : k = c := by omega
      subst hke
      go_wp2_with fail
      go_ret
      exact ⟨rfl, HI.out⟩
end Go.Proofs.Ytaakiemmodncpaa.Su
