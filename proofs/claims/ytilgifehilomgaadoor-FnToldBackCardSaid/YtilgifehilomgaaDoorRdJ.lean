/- A number and its places drawn of a code. -/
import Derived.Test.YtilgifehilomgaaDoorRdG
import Derived.Test.YtilgifehilomgaaDoorTw
namespace Go.Proofs.YtilgifehilomgaaDoor.Rd
open Go.ChangeShapes Go.WideShapes Go.ChangeAt Go.RowKit
open Flt

theorem open_any (v : Value) (a : Option Addr) (n cap : Nat) (hv : v = .slice a n cap) (w : World) :
    Calls Tryd.prog 9 #[v] w fun e w' => e = .returned (.pointer (some ⟨w.heap.size, 0, none⟩)) ∧ w' = w.alloc (.cells #[v, .int .i64 0] 53) := by
  subst hv
  go_enter Tryd.func9, Tryd.ntmps9
  go_wp2_with fail
  go_ret
  exact ⟨rfl, rfl⟩
/-- A slice of bytes that came in. -/
def Code (w : World) (a : Option Addr) (n cap : Nat) : Prop :=
  n = 0 ∨ ∃ b o, a = some ⟨b, o, none⟩ ∧ b < w.heap.size ∧ n ≤ cap ∧ cap ≤ maxLen ∧ ∀ i, i < n → ∃ u : Nat, u ≤ 255 ∧ w.cell? ⟨b, o + i, none⟩ = some (.int .u8 u)
theorem Rd.new {w w' : World} {a : Option Addr} {n cap : Nat} (h : Code w a n cap) (hn : n ≤ 1048576) (hb : Below w.heap.size w w') : Rd w'.heap.size (w'.alloc (.cells #[.slice a n cap, .int .i64 0] 53)) := by
  have hs := hb.size
  refine ⟨a, n, cap, 0, by simp, by simp [go_sem], by simp [go_sem], by simp [go_sem], by omega, hn, ?_⟩
  rcases h with h | ⟨b, o, h1, h2, h3, h4, h5⟩
  · exact Or.inl h
  · refine Or.inr ⟨b, o, h1, by omega, h3, h4, fun i hi => ?_⟩
    obtain ⟨u, g1, g2⟩ := h5 i hi
    refine ⟨u, g1, ?_⟩
    rw [← g2, ← hb.cell (p := ⟨b, o + i, none⟩) h2]
    exact ((Below.refl w'.heap.size w').alloc (Nat.le_refl _) _).cell (p := ⟨b, o + i, none⟩) (by show b < _; omega)

set_option maxHeartbeats 400000 in
theorem big_yes (a : Option Addr) (n cap : Nat) (w : World) (h : 1048576 < n) (hn : n < 9223372036854775808) : Calls Tryd.prog 4 #[.slice a n cap] w fun e w' => e = .returned (.bool true) ∧ w' = w := by
  have h' : (1048576 : Int) < (n : Int) := by omega
  go_enter Tryd.func4, Tryd.ntmps4
  go_wp2
  go_ret
  exact ⟨rfl, rfl⟩
set_option maxHeartbeats 400000 in
theorem big_no (a : Option Addr) (n cap : Nat) (w : World) (h : n ≤ 1048576) : Calls Tryd.prog 4 #[.slice a n cap] w fun e w' => e = .returned (.bool false) ∧ w' = w := by
  have h' : ¬ ((1048576 : Int) < (n : Int)) := by omega
  go_enter Tryd.func4, Tryd.ntmps4
  go_wp2
  go_ret
  exact ⟨rfl, rfl⟩

theorem Turn.below {r : Nat} {w w1 w2 : World} (h1 : Below w.heap.size w w1) (hr : w.heap.size ≤ r) (t : Turn r w1 w2) : Below w.heap.size w w2 := h1.trans (t.bel.mono hr)

set_option maxHeartbeats 1000000 in
theorem drawTold_any (a : Option Addr) (n cap : Nat) (w : World) (h : Code w a n cap) (hn : n ≤ 1048576) :
    Calls Tryd.prog 5 #[.slice a n cap] w fun e w' => (∃ (x : Nat) (q : Int), e = .returned (.tuple #[.float .f64 x, .int .i64 q]) ∧ x < 18446744073709551616) ∧ Below w.heap.size w w' := by
  have H : Hid (Code w a n cap) := h
  have HN : Hid (n ≤ 1048576) := hn
  clear h hn
  go_enter Tryd.func5, Tryd.ntmps5
  go_wp2_with fail
  refine (open_any _ a n cap rfl _).mono ?_
  rintro e w1 ⟨rfl, hw1⟩
  have K1 : Hid (Rd w.heap.size w1) := (by show Rd _ _; rw [hw1]; exact Rd.new H.out HN.out (Below.refl _ _))
  have B1 : Hid (Below w.heap.size w w1) := (by show Below _ _ _; rw [hw1]; exact (Below.refl _ _).alloc (Nat.le_refl _) _)
  clear hw1
  go_wp2_with fail
  refine (float_any _ _ K1.out).mono ?_
  rintro e w2 ⟨⟨x, hx, rfl⟩, k2, t2⟩
  have K2 : Hid (Rd w.heap.size w2) := k2
  have B2 : Hid (Below w.heap.size w w2) := B1.out.trans t2.bel
  have HX : Hid (x < 18446744073709551616) := hx
  clear k2 t2 hx K1 B1
  go_wp2_with fail
  refine (once_any _ _ K2.out 9 (by omega) (by omega)).mono ?_
  rintro e w3 ⟨⟨u, rfl⟩, k3, t3⟩
  have K3 : Hid (Rd w.heap.size w3) := k3
  have B3 : Hid (Below w.heap.size w w3) := B2.out.trans t3.bel
  clear k3 t3 K2 B2
  cases u
  · go_wp2_with fail
    refine (below_any _ _ K3.out 7 (by omega) (by omega)).mono ?_
    rintro e w4 ⟨⟨q, _, rfl⟩, k4, t4⟩
    have B4 : Hid (Below w.heap.size w w4) := B3.out.trans t4.bel
    clear k4 t4
    go_wp2_with fail
    go_ret2
    exact ⟨⟨x, _, rfl, HX.out⟩, B4.out⟩
  · go_wp2_with fail
    refine (number_any _ _ K3.out).mono ?_
    rintro e w4 ⟨⟨q, _, rfl⟩, k4, t4⟩
    have B4 : Hid (Below w.heap.size w w4) := B3.out.trans t4.bel
    clear k4 t4
    go_wp2_with fail
    go_ret2
    exact ⟨⟨x, _, rfl, HX.out⟩, B4.out⟩
end Go.Proofs.YtilgifehilomgaaDoor.Rd
