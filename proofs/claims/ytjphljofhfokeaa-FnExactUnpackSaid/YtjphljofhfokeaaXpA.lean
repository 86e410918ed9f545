/- A Packed measured. -/
import Derived.Test.YtjphljofhfokeaaXoZ
namespace Go.Proofs.Ytjphljofhfokeaa.Pkd
open Go.ChangeShapes Go.WideShapes Go.ChangeAt Go.RowKit
open Go.Proofs.Ytjphljofhfokeaa.Lists Go.Proofs.Ytjphljofhfokeaa.Flt Go.Proofs.Ytjphljofhfokeaa.Fls

def lft (l : Int) (n : Nat) : Int := if (n : Int) ≤ l then l - n else -1
set_option maxHeartbeats 400000 in
theorem szb_any (a : Option Addr) (n c : Nat) (l : Int) (w : World) (h0 : 0 ≤ l) (h1 : l ≤ 1048576) (hn : n < 9223372036854775808) :
    Calls Try.prog 30 #[.slice a n c, .int .i64 l] w fun e w' => e = .returned (.int .i64 (lft l n)) ∧ w' = w := by
  have e1 : wrap64 (l - n) = l - n := IntWalk.wrap64_in _ (by omega)
  by_cases hc : (n : Int) ≤ l
  · have hl : lft l n = l - n := by unfold lft; rw [if_pos hc]
    rw [hl]
    have hc2 : ¬ (l - (n : Int) < 0) := by omega
    go_enter Try.func30, Try.ntmps30
    go_wp2
    go_ret
    exact ⟨rfl, rfl⟩
  · have hl : lft l n = -1 := by unfold lft; rw [if_neg hc]
    rw [hl]
    have hc2 : l - (n : Int) < 0 := by omega
    go_enter Try.func30, Try.ntmps30
    go_wp2
    go_ret
    exact ⟨rfl, rfl⟩
set_option maxHeartbeats 400000 in
theorem szi_any (a : Option Addr) (n c : Nat) (l : Int) (w : World) (h0 : 0 ≤ l) (h1 : l ≤ 1048576) (hn : n < 9223372036854775808) :
    Calls Try.prog 31 #[.slice a n c, .int .i64 l] w fun e w' => e = .returned (.int .i64 (lft l n)) ∧ w' = w := by
  have e1 : wrap64 (l - n) = l - n := IntWalk.wrap64_in _ (by omega)
  by_cases hc : (n : Int) ≤ l
  · have hl : lft l n = l - n := by unfold lft; rw [if_pos hc]
    rw [hl]
    have hc2 : ¬ (l - (n : Int) < 0) := by omega
    go_enter Try.func31, Try.ntmps31
    go_wp2
    go_ret
    exact ⟨rfl, rfl⟩
  · have hl : lft l n = -1 := by unfold lft; rw [if_neg hc]
    rw [hl]
    have hc2 : l - (n : Int) < 0 := by omega
    go_enter Try.func31, Try.ntmps31
    go_wp2
    go_ret
    exact ⟨rfl, rfl⟩

set_option maxHeartbeats 1000000 in
theorem sz_any (cnt dec ref exp bits : Int) (y x : Option Addr) (nt nc cap capx : Nat) (w : World) (hnt : nt < 9223372036854775808) (hnc : nc < 9223372036854775808) :
    Calls Try.prog 13 #[.agg #[.int .i64 cnt, .int .i64 dec, .int .i64 ref, .int .i64 exp, .int .i64 bits, .slice y nt cap, .slice x nc capx], .int .i64 1048576] w fun e w' => (∃ l : Int, e = .returned (.int .i64 l) ∧ (0 ≤ l → nt ≤ 1048576 ∧ nc ≤ 1048576)) ∧ Below w.heap.size w w' := by
  have B1 : Hid (Below w.heap.size w (w.alloc (Obj.cells #[.int .i64 cnt, .int .i64 dec, .int .i64 ref, .int .i64 exp, .int .i64 bits, .slice y nt cap, .slice x nc capx] 35))) := (Below.refl _ _).alloc (Nat.le_refl _) _
  by_cases h1 : nt ≤ 1048576
  · have e1 : lft 1048576 nt = 1048576 - nt := by unfold lft; rw [if_pos (by omega)]
    have E1 : Hid (lft 1048576 nt = 1048576 - nt) := e1
    have c1 : ¬ ((1048576 : Int) - nt < 0) := by omega
    by_cases h2 : (nc : Int) ≤ 1048576 - nt
    · have E2 : Hid (lft (1048576 - nt) nc = 1048576 - nt - nc) := (by show _ = _; unfold lft; rw [if_pos h2])
      have c2 : ¬ ((1048576 : Int) - nt - nc < 0) := by omega
      have h3 : nc ≤ 1048576 := by omega
      clear e1
      go_enter Try.func13, Try.ntmps13
      go_wp2_with (first | (go_at_call 30; refine (szb_any _ _ _ _ _ (by omega) (by omega) hnt).mono ?_; rintro e w' ⟨rfl, hw⟩; subst hw; rw [E1.out]) | (go_at_call 31; refine (szi_any _ _ _ _ _ (by omega) (by omega) hnc).mono ?_; rintro e w' ⟨rfl, hw⟩; subst hw; rw [E2.out]))
      go_ret
      exact ⟨⟨_, rfl, fun _ => ⟨h1, h3⟩⟩, B1.out⟩
    · have E2 : Hid (lft (1048576 - nt) nc = -1) := (by show _ = _; unfold lft; rw [if_neg h2])
      clear e1
      go_enter Try.func13, Try.ntmps13
      go_wp2_with (first | (go_at_call 30; refine (szb_any _ _ _ _ _ (by omega) (by omega) hnt).mono ?_; rintro e w' ⟨rfl, hw⟩; subst hw; rw [E1.out]) | (go_at_call 31; refine (szi_any _ _ _ _ _ (by omega) (by omega) hnc).mono ?_; rintro e w' ⟨rfl, hw⟩; subst hw; rw [E2.out]))
      go_ret
      exact ⟨⟨_, rfl, fun h => by omega⟩, B1.out⟩
  · have E1 : Hid (lft 1048576 nt = -1) := (by show _ = _; unfold lft; rw [if_neg (by omega)])
    go_enter Try.func13, Try.ntmps13
    go_wp2_with (first | (go_at_call 30; refine (szb_any _ _ _ _ _ (by omega) (by omega) hnt).mono ?_; rintro e w' ⟨rfl, hw⟩; subst hw; rw [E1.out]))
    go_ret
    exact ⟨⟨_, rfl, fun h => by omega⟩, B1.out⟩

end Go.Proofs.Ytjphljofhfokeaa.Pkd
