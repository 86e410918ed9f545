/- Mixed: the program. -/
import Derived.Test.YtnnmklkpgdpkgaaMxP
import Derived.Deep.RegionHeld3
namespace Go.Proofs.Ytnnmklkpgdpkgaa.Mx
open Go.ChangeShapes Go.WideShapes Go.ChangeAt Go.RowKit
open Go.Proofs.Ytnnmklkpgdpkgaa.Lists Go.Proofs.Ytnnmklkpgdpkgaa.Al Go.Proofs.Ytnnmklkpgdpkgaa.Su

theorem below_drewN {B : Nat} {a w : World} (h : Below B a w) (n : Nat) : Below B a (w.drewN n) := h.trans ⟨rfl, rfl, rfl, Nat.le_refl _, fun _ _ => rfl⟩

set_option maxHeartbeats 1000000 in
theorem mod_any (n k i : Nat) (hk : k < n) (hi : i < n) (hn : n ≤ 64) (w : World) : Calls Try.prog 24 #[.int .i64 ((k : Int) - i), .int .i64 (n : Int)] w fun e w' => e = .returned (.int .i64 (ix n k i : Int)) ∧ w' = w := by
  have E : Hid ((((k : Int) - i) + n) % n = (ix n k i : Int)) := ix_int hk hi
  have l := ix_lt hk hi
  have e1 : ((k : Int) - i).tmod n = (k : Int) - i := by
    by_cases h : (i : Int) ≤ k
    · rw [Int.tmod_eq_emod_of_nonneg (by omega), Int.emod_eq_of_lt (by omega) (by omega)]
    · have : ((k : Int) - i) = -((i : Int) - k) := by omega
      rw [this, Int.neg_tmod, Int.tmod_eq_emod_of_nonneg (by omega), Int.emod_eq_of_lt (by omega) (by omega)]
  have i2 : ¬ (n : Int) = 0 := by omega
  have i3 : ((n : Int) == 0) = false := by simp; omega
  have e2 : IntKind.i64.wrap ((k : Int) - i) = (k : Int) - i := IntWalk.i64_in _ (by omega)
  have e3 : IntKind.i64.wrap ((k : Int) - i + n) = (k : Int) - i + n := IntWalk.i64_in _ (by omega)
  have e4 : ((k : Int) - i + n).tmod n = (ix n k i : Int) := by rw [Int.tmod_eq_emod_of_nonneg (by omega)]; exact E.out
  have e5 : IntKind.i64.wrap (ix n k i : Int) = (ix n k i : Int) := IntWalk.i64_in _ (by omega)
  clear E
  generalize ix n k i = r at *
  generalize (k : Int) - (i : Int) = z at *
  go_enter Try.func24, Try.ntmps24
  go_wp2_with fail
  go_ret
  exact ⟨rfl, rfl⟩

set_option maxHeartbeats 1000000 in
theorem cl23 (b0 b1 b2 b3 ba oa bb ob n ca cb k i : Nat) (x y : Int) (w : World) (hk : k < n) (hi : i < n) (hn : n ≤ 64)
    (q0 : w.cell? ⟨b0, 0, none⟩ = some (.slice (some ⟨ba, oa, none⟩) n ca)) (q1 : w.cell? ⟨b1, 0, none⟩ = some (.slice (some ⟨bb, ob, none⟩) n cb)) (q2 : w.cell? ⟨b2, 0, none⟩ = some (.int .i64 (k : Int))) (q3 : w.cell? ⟨b3, 0, none⟩ = some (.int .i64 (n : Int)))
    (qx : w.cell? ⟨ba, oa + i, none⟩ = some (.int .i64 x)) (qy : w.cell? ⟨bb, ob + ix n k i, none⟩ = some (.int .i64 y))
    (h2 : IntKind.i64.wrap (x * y) = x * y) :
    Calls Try.prog 23 #[.int .i64 (i : Int), .pointer (some ⟨b0, 0, none⟩), .pointer (some ⟨b1, 0, none⟩), .pointer (some ⟨b2, 0, none⟩), .pointer (some ⟨b3, 0, none⟩)] w fun e w' => e = .returned (.int .i64 (x * y)) ∧ ∃ m, w' = w.drewN m := by
  have C : Hid (∀ w, Calls Try.prog 24 #[.int .i64 ((k : Int) - i), .int .i64 (n : Int)] w fun e w' => e = .returned (.int .i64 (ix n k i : Int)) ∧ w' = w) := mod_any n k i hk hi hn
  have l := ix_lt hk hi
  have i1 : (0 : Int) ≤ (i : Int) := by omega
  have i2 : (i : Int) < (n : Int) := by omega
  have i3 : (0 : Int) ≤ (ix n k i : Int) := by omega
  have i4 : (ix n k i : Int) < (n : Int) := by omega
  have i5 : IntKind.i64.wrap ((k : Int) - i) = (k : Int) - i := IntWalk.i64_in _ (by omega)
  generalize ix n k i = r at *
  go_enter Try.func23, Try.ntmps23
  go_wp2_with fail
  go_quiet ((go_at_call 24; exact Calls.quiet_of_same (C.out _)))
  go_wp2_with fail
  go_ret
  exact ⟨rfl, _, rfl⟩
end Go.Proofs.Ytnnmklkpgdpkgaa.Mx
