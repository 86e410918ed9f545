/- Two lists of entries that are the same. -/
import Derived.Test.YtfnkcoppdelmjaaEo
namespace Go.Proofs.Ytfnkcoppdelmjaa.Ed
open Go.ChangeShapes Go.WideShapes Go.ChangeAt Go.RowKit
open Go.Proofs.Ytfnkcoppdelmjaa.Eo

set_option maxHeartbeats 1000000 in
theorem same_drew (A : En.Ls) (va vb : Value) (w : World) (ra : En.Reads w va A) (rb : En.Reads w vb A) : Calls Try.prog 10 #[va, vb] w fun e w' => e = .returned (.bool true) ∧ ∃ n, w' = w.drewN n := by
  obtain ⟨aa, ac, rfl⟩ := ra.form
  obtain ⟨ba, bc, rfl⟩ := rb.form
  obtain ⟨m, hm⟩ : ∃ m, m = A.length := ⟨_, rfl⟩
  have HM : Hid (m = A.length) := hm
  have HC : Hid (∀ (n : Nat) (i : Nat), i < m → ∃ b o b' o', aa = some ⟨b, o, none⟩ ∧ ba = some ⟨b', o', none⟩ ∧ En.Cs (w.drewN n) b o A i ∧ En.Cs (w.drewN n) b' o' A i) := fun n i hi => (by
    rw [HM.out] at hi
    rcases ra with ⟨rfl, _⟩ | ⟨b, o, c, e, _, _, x, y⟩
    · simp at hi
    rcases rb with ⟨rfl, _⟩ | ⟨b', o', c', e', _, _, x', y'⟩
    · simp at hi
    simp at e e'
    exact ⟨b, o, b', o', e.1, e'.1, y i hi, y' i hi⟩)
  have ln := ra.fits
  rw [← hm] at ln ⊢
  clear ra rb hm
  go_enter Try.func10, Try.ntmps10
  go_wp2_with fail
  go_loopw [5] (fun i wr => ∃ k n : Nat, k ≤ m ∧ i = .int .i64 k ∧ wr = w.drewN n) (fun i _ => m - (intOf i).toNat)
  case atStart => exact ⟨0, 0, Nat.zero_le _, rfl, rfl⟩
  case round =>
    obtain ⟨k, n, hk, rfl, hw⟩ := hrel
    by_cases hlt : k < m
    · obtain ⟨b, o, b', o', rfl, rfl, ⟨q0, q1, q2, q3, q4⟩, p0, p1, p2, p3, p4⟩ := HC.out n k hlt
      have i0 : (0 : Int) ≤ (k : Int) := by omega
      have i1 : (k : Int) < (m : Int) := by omega
      rw [← hw] at q0 q1 q2 q3 q4 p0 p1 p2 p3 p4
      have HW : Hid (wr = w.drewN n) := hw
      clear hw HC
      generalize En.c0 A k = x0 at *
      generalize En.c1 A k = x1 at *
      generalize En.c2 A k = x2 at *
      generalize En.c3 A k = x3 at *
      generalize En.c4 A k = x4 at *
      go_wp2_with fail
      go_region
      all_goals go_wp2_with fail
      all_goals go_roundw
      case rel => exact ⟨k + 1, n + 1, by omega, by go_num, by rw [HW.out]; rfl⟩
      case measure => simp [intOf]; omega
    · have hkm : k = m := by omega
      subst hkm
      have HW : Hid (wr = w.drewN n) := hw
      clear hw
      go_wp2_with fail
      go_ret
      exact ⟨rfl, n, HW.out⟩
theorem below_drewN (B : Nat) (w : World) (n : Nat) : Below B w (w.drewN n) := (Below.refl _ _).trans ⟨rfl, rfl, rfl, Nat.le_refl _, fun _ _ => rfl⟩
theorem same_yes (A : En.Ls) (va vb : Value) (w : World) (ra : En.Reads w va A) (rb : En.Reads w vb A) : Calls Try.prog 10 #[va, vb] w fun e w' => e = .returned (.bool true) ∧ Below w.heap.size w w' := by
  refine (same_drew A va vb w ra rb).mono ?_
  rintro e w' ⟨rfl, n, rfl⟩
  exact ⟨rfl, below_drewN _ _ _⟩
end Go.Proofs.Ytfnkcoppdelmjaa.Ed
