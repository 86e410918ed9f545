/- Sums with the powers of a turn: the program. -/
import Derived.Test.YtchlpkgmflbaeaaSpA
import Derived.Deep.RegionHeld3
import Derived.Deep.DeepCutAuto
namespace Go.Proofs.Ytchlpkgmflbaeaa.Sp
open Go.ChangeShapes Go.WideShapes Go.ChangeAt Go.RowKit
open Go.Proofs.Ytchlpkgmflbaeaa.Lists Go.Proofs.Ytchlpkgmflbaeaa.Al Go.Proofs.Ytchlpkgmflbaeaa.Su Go.Proofs.Ytchlpkgmflbaeaa.Mx

theorem below_drewN {B : Nat} {a w : World} (h : Below B a w) (n : Nat) : Below B a (w.drewN n) := h.trans ⟨rfl, rfl, rfl, Nat.le_refl _, fun _ _ => rfl⟩

set_option maxHeartbeats 1000000 in
theorem mod_any (z : Nat) (hz : z ≤ 1000000) (w : World) : Calls Try.prog 21 #[.int .i64 (z : Int), .int .i64 64] w fun e w' => e = .returned (.int .i64 ((z % 64 : Nat) : Int)) ∧ w' = w := by
  have l : z % 64 < 64 := Nat.mod_lt _ (by omega)
  have e1 : (z : Int).tmod 64 = ((z % 64 : Nat) : Int) := by rw [Int.tmod_eq_emod_of_nonneg (by omega)]; omega
  have e2 : (((z % 64 : Nat) : Int) + 64).tmod 64 = ((z % 64 : Nat) : Int) := by rw [Int.tmod_eq_emod_of_nonneg (by omega)]; omega
  generalize z % 64 = r at *
  go_enter Try.func21, Try.ntmps21
  go_wp2_with fail
  go_ret
  exact ⟨rfl, rfl⟩

set_option maxHeartbeats 1000000 in
theorem cl20 (b0 b1 b2 b3 ba oa n ca st k i : Nat) (x y : Int) (w : World) (hi : i < n) (hk : k < n) (hn : n ≤ 64) (hs : st ≤ 64)
    (q0 : w.cell? ⟨b0, 0, none⟩ = some (.slice (some ⟨ba, oa, none⟩) n ca)) (q2 : w.cell? ⟨b2, 0, none⟩ = some (.int .i64 (st : Int))) (q3 : w.cell? ⟨b3, 0, none⟩ = some (.int .i64 (k : Int)))
    (qx : w.cell? ⟨ba, oa + i, none⟩ = some (.int .i64 x)) (qy : w.cell? ⟨b1, st * i * k % 64, none⟩ = some (.int .i64 y))
    (h2 : IntKind.i64.wrap (x * y) = x * y) :
    Calls Try.prog 20 #[.int .i64 (i : Int), .pointer (some ⟨b0, 0, none⟩), .pointer (some ⟨b1, 0, none⟩), .pointer (some ⟨b2, 0, none⟩), .pointer (some ⟨b3, 0, none⟩)] w fun e w' => e = .returned (.int .i64 (x * y)) ∧ ∃ m, w' = w.drewN m := by
  have b1' : st * i ≤ 64 * 64 := Nat.mul_le_mul hs (by omega)
  have b2' : st * i * k ≤ 64 * 64 * 64 := Nat.mul_le_mul b1' (by omega)
  have m1 : (st : Int) * (i : Int) = ((st * i : Nat) : Int) := by simp
  have m2 : ((st * i : Nat) : Int) * (k : Int) = ((st * i * k : Nat) : Int) := by simp
  have C : Hid (∀ w, Calls Try.prog 21 #[.int .i64 ((st * i * k : Nat) : Int), .int .i64 64] w fun e w' => e = .returned (.int .i64 ((st * i * k % 64 : Nat) : Int)) ∧ w' = w) := mod_any _ (by omega)
  have l : st * i * k % 64 < 64 := Nat.mod_lt _ (by omega)
  have i1 : (0 : Int) ≤ (i : Int) := by omega
  have i2 : (i : Int) < (n : Int) := by omega
  have i3 : (0 : Int) ≤ ((st * i * k % 64 : Nat) : Int) := by omega
  have i4 : ((st * i * k % 64 : Nat) : Int) < 64 := by omega
  generalize st * i * k % 64 = r at *
  generalize hz : st * i * k = z at *
  generalize hu : st * i = u at *
  clear hz hu
  have w1 : IntKind.i64.wrap (u : Int) = (u : Int) := IntWalk.i64_in _ (by omega)
  have w2 : IntKind.i64.wrap (z : Int) = (z : Int) := IntWalk.i64_in _ (by omega)
  go_enter Try.func20, Try.ntmps20
  go_wp2_with fail
  go_quiet ((go_at_call 21; exact Calls.quiet_of_same (C.out _)))
  go_wp2_with fail
  go_ret
  exact ⟨rfl, _, rfl⟩

theorem zeros_made (n : Nat) : (madeCells (Value.int .i64 0).cells (n * 1)).toList = ints (List.replicate n 0) := by
  apply List.ext_getElem
  · simp [madeCells, ints]
  · intro i h1 h2
    simp [madeCells, ints, Value.cells, Nat.mod_one]
theorem row_put {w : World} {B g n : Nat} {cap : Nat} {O : List Int} (R : w.ownsRow B 2 1 (.slice (some ⟨g, 0, none⟩) n cap) n (ints O)) (x : Nat) (z : Int) : (w.setCell ⟨g, x, none⟩ (.int .i64 z)).ownsRow B 2 1 (.slice (some ⟨g, 0, none⟩) n cap) n (ints (O.set x z)) := by
  rw [← Lists.ints_set]
  exact (R.stored x _).1
end Go.Proofs.Ytchlpkgmflbaeaa.Sp
