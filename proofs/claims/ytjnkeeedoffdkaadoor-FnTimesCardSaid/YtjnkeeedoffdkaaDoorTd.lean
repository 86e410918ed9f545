/- A time drawn of a code; whether a code is too long; a number without its sign. -/
import Derived.Test.YtjnkeeedoffdkaaDoorRd
namespace Go.Proofs.YtjnkeeedoffdkaaDoor.Rd
open Go.ChangeShapes Go.WideShapes Go.ChangeAt Go.RowKit
set_option maxHeartbeats 400000 in
theorem open_any (v : Value) (a : Option Addr) (n cap : Nat) (hv : v = .slice a n cap) (w : World) :
    Calls Tryd.prog 14 #[v] w fun e w' => e = .returned (.pointer (some ⟨w.heap.size, 0, none⟩)) ∧ w' = w.alloc (.cells #[v, .int .i64 0] 52) := by
  subst hv
  go_enter Tryd.func14, Tryd.ntmps14
  go_wp2_with fail
  go_ret
  exact ⟨rfl, rfl⟩
/-- A slice of bytes that came in. -/
def Code (w : World) (a : Option Addr) (n cap : Nat) : Prop :=
  n = 0 ∨ ∃ b o, a = some ⟨b, o, none⟩ ∧ b < w.heap.size ∧ n ≤ cap ∧ cap ≤ maxLen ∧ ∀ i, i < n → ∃ u : Nat, u ≤ 255 ∧ w.cell? ⟨b, o + i, none⟩ = some (.int .u8 u)
theorem Code.on {w w' : World} {a : Option Addr} {n cap : Nat} (h : Code w a n cap) (hb : Below w.heap.size w w') : Code w' a n cap := by
  rcases h with h | ⟨b, o, h1, h2, h3, h4, h5⟩
  · exact .inl h
  · refine .inr ⟨b, o, h1, Nat.lt_of_lt_of_le h2 hb.size, h3, h4, fun i hi => ?_⟩
    obtain ⟨u, g1, g2⟩ := h5 i hi
    exact ⟨u, g1, (hb.cell (p := ⟨b, o + i, none⟩) h2).trans g2⟩
theorem Rd.new {w : World} {a : Option Addr} {n cap : Nat} (h : Code w a n cap) (hn : n ≤ 1048576) : Rd w.heap.size (w.alloc (.cells #[.slice a n cap, .int .i64 0] 52)) := by
  refine ⟨a, n, cap, 0, by simp, by simp [go_sem], by simp [go_sem], by simp [go_sem], by omega, hn, ?_⟩
  rcases h with h | ⟨b, o, h1, h2, h3, h4, h5⟩
  · exact Or.inl h
  · refine Or.inr ⟨b, o, h1, by omega, h3, h4, fun i hi => ?_⟩
    obtain ⟨u, g1, g2⟩ := h5 i hi
    refine ⟨u, g1, ?_⟩
    rw [← g2]
    exact ((Below.refl w.heap.size w).alloc (Nat.le_refl _) _).cell (p := ⟨b, o + i, none⟩) (by show b < _; omega)
set_option maxHeartbeats 400000 in
theorem stamp_any (a : Option Addr) (n cap : Nat) (w : World) (h : Code w a n cap) (hn : n ≤ 1048576) :
    Calls Tryd.prog 5 #[.slice a n cap] w fun e w' => (∃ t : Int, e = .returned (.int .i64 t)) ∧ Below w.heap.size w w' := by
  have K : Hid (Rd w.heap.size (w.alloc (.cells #[.slice a n cap, .int .i64 0] 52))) := Rd.new h hn
  clear h
  go_enter Tryd.func5, Tryd.ntmps5
  go_wp2_with fail
  refine (open_any _ a n cap rfl _).mono ?_
  rintro e w1 ⟨rfl, rfl⟩
  go_wp2_with fail
  refine (drawTime_any _ _ K.out).mono ?_
  rintro e w2 ⟨⟨t, _, rfl⟩, k, tt⟩
  have B : Hid (Below w.heap.size w w2) := ((Below.refl w.heap.size w).alloc (Nat.le_refl _) _).trans tt.bel
  clear k tt
  go_wp2_with fail
  go_ret
  exact ⟨⟨t, rfl⟩, B.out⟩
set_option maxHeartbeats 400000 in
theorem big_any (a : Option Addr) (n cap : Nat) (w : World) (hn : n < 9223372036854775808) : Calls Tryd.prog 4 #[.slice a n cap] w fun e w' => e = .returned (.bool (decide (1048576 < n))) ∧ w' = w := by
  by_cases h : 1048576 < n
  · have h' : (1048576 : Int) < (n : Int) := by omega
    go_enter Tryd.func4, Tryd.ntmps4
    go_wp2
    go_ret
    exact ⟨by simp [h], rfl⟩
  · have h' : ¬ (1048576 : Int) < (n : Int) := by omega
    go_enter Tryd.func4, Tryd.ntmps4
    go_wp2
    go_ret
    exact ⟨by simp, rfl⟩
set_option maxHeartbeats 400000 in
theorem abs_any (x : Int) (w : World) (h0 : -100000000 ≤ x) (h1 : x ≤ 100000000) : Calls Tryd.prog 11 #[.int .i64 x] w fun e w' => e = .returned (.int .i64 (if x < 0 then -x else x)) ∧ w' = w := by
  by_cases h : x < 0
  · have e1 : IntKind.i64.wrap (-x) = -x := IntWalk.i64_in _ (by omega)
    rw [if_pos h]
    go_enter Tryd.func11, Tryd.ntmps11
    go_wp2
    go_ret
    exact ⟨rfl, rfl⟩
  · rw [if_neg h]
    go_enter Tryd.func11, Tryd.ntmps11
    go_wp2
    go_ret
    exact ⟨rfl, rfl⟩
end Go.Proofs.YtjnkeeedoffdkaaDoor.Rd
