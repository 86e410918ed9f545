/- A code: what stands above the least, rounded at a place. -/
import Derived.Test.YtgajajpcjbpalaaYb
namespace Go.Proofs.Ytgajajpcjbpalaa.Pkd
open Go.ChangeShapes Go.WideShapes Go.ChangeAt Go.RowKit
open Go.Proofs.Ytgajajpcjbpalaa.Lists Go.Proofs.Ytgajajpcjbpalaa.Flt Go.Proofs.Ytgajajpcjbpalaa.Fls


def cod (a : Int) (e : Nat) : Int := (a + 2 ^ e / 2) / 2 ^ e
theorem pow42 (e : Nat) (he : e ≤ 42) : (1 : Int) ≤ 2 ^ e ∧ (2 : Int) ^ e ≤ 4398046511104 := by
  have key : ∀ e : Fin 43, (1 : Int) ≤ 2 ^ e.val ∧ (2 : Int) ^ e.val ≤ 4398046511104 := by decide +kernel
  exact key ⟨e, by omega⟩

set_option maxHeartbeats 400000 in
theorem icode (a : Int) (e : Nat) (w : World) (h0 : 0 ≤ a) (h1 : a ≤ 4398046511104) (he : e ≤ 42) : Calls Try.prog 100 #[.int .i64 a, .int .i64 (e : Int)] w fun x w' => x = .returned (.int .i64 (cod a e)) ∧ w' = w := by
  obtain ⟨p0, p1⟩ := pow42 e he
  have w1 : wrap64 (2 ^ e) = (2 : Int) ^ e := IntWalk.wrap64_in _ (by omega)
  have w1' : IntKind.i64.wrap (2 ^ e) = (2 : Int) ^ e := IntWalk.i64_in _ (by omega)
  have w2 : wrap64 (a + 2 ^ e / 2) = a + 2 ^ e / 2 := IntWalk.wrap64_in _ (by omega)
  have w2' : IntKind.i64.wrap (a + 2 ^ e / 2) = a + 2 ^ e / 2 := IntWalk.i64_in _ (by omega)
  have HC : Hid (cod a e = (a + 2 ^ e / 2) / 2 ^ e) := rfl
  go_enter Try.func100, Try.ntmps100
  go_wp2_with fail
  go_ret
  exact ⟨by rw [HC.out]; rfl, rfl⟩

set_option maxHeartbeats 400000 in
theorem scode (a : Int) (e : Nat) (w : World) (h0 : 0 ≤ a) (h1 : a ≤ 4398046511104) (he : e ≤ 42) : Calls Try.prog 19 #[.int .i64 a, .int .i64 (e : Int)] w fun x w' => x = .returned (.int .i64 (cod a e)) ∧ w' = w := by
  cases e with
  | zero =>
    have HC : Hid (cod a 0 = a) := (by unfold cod; show (a + 2 ^ 0 / 2) / 2 ^ 0 = a; simp)
    go_enter Try.func19, Try.ntmps19
    go_wp2_with fail
    go_ret
    exact ⟨by rw [HC.out]; rfl, rfl⟩
  | succ d =>
    obtain ⟨p0, p1⟩ := pow42 d (by omega)
    have e2 : (2 : Int) ^ (d + 1) / 2 = 2 ^ d := by rw [Int.pow_succ]; omega
    have w1 : wrap64 (2 ^ d) = (2 : Int) ^ d := IntWalk.wrap64_in _ (by omega)
    have w1' : IntKind.i64.wrap (2 ^ d) = (2 : Int) ^ d := IntWalk.i64_in _ (by omega)
    have w2 : wrap64 (a + 2 ^ d) = a + 2 ^ d := IntWalk.wrap64_in _ (by omega)
    have w2' : IntKind.i64.wrap (a + 2 ^ d) = a + 2 ^ d := IntWalk.i64_in _ (by omega)
    have w3 : wrap64 ((d : Int) + 1 - 1) = (d : Int) := by rw [IntWalk.wrap64_in _ (by omega)]; omega
    have w3' : IntKind.i64.wrap ((d : Int) + 1 - 1) = (d : Int) := by rw [IntWalk.i64_in _ (by omega)]; omega
    have HC : Hid (cod a (d + 1) = (a + 2 ^ d) / 2 ^ (d + 1)) := (by show cod a (d + 1) = _; unfold cod; rw [e2])
    have z : ((d : Int) + 1 == 0) = false := by simp; omega
    clear e2
    go_enter Try.func19, Try.ntmps19
    go_wp2_with fail
    go_ret
    exact ⟨by rw [HC.out]; rfl, rfl⟩

end Go.Proofs.Ytgajajpcjbpalaa.Pkd
