/- A number and its places drawn of a code. -/
import Derived.Test.YtmopkbkdfipglaaRdF
namespace Go.Proofs.Ytmopkbkdfipglaa.Rd
open Go.ChangeShapes Go.WideShapes Go.ChangeAt Go.RowKit


theorem open_any (v : Value) (a : Option Addr) (n cap : Nat) (hv : v = .slice a n cap) (w : World) :
    Calls Try.prog 29 #[v] w fun e w' => e = .returned (.pointer (some ⟨w.heap.size, 0, none⟩)) ∧ w' = w.alloc (.cells #[v, .int .i64 0] 62) := by
  subst hv
  go_enter Try.func29, Try.ntmps29
  go_wp2_with fail
  go_ret
  exact ⟨rfl, rfl⟩
/-- A slice of bytes that came in. -/
def Code (w : World) (a : Option Addr) (n cap : Nat) : Prop :=
  n = 0 ∨ ∃ b o, a = some ⟨b, o, none⟩ ∧ b < w.heap.size ∧ n ≤ cap ∧ cap ≤ maxLen ∧ ∀ i, i < n → ∃ u : Nat, u ≤ 255 ∧ w.cell? ⟨b, o + i, none⟩ = some (.int .u8 u)
theorem Rd.new {w w' : World} {a : Option Addr} {n cap : Nat} (h : Code w a n cap) (hn : n ≤ 1048576) (hb : Below w.heap.size w w') : Rd w'.heap.size (w'.alloc (.cells #[.slice a n cap, .int .i64 0] 62)) := by
  have hs := hb.size
  refine ⟨a, n, cap, 0, by simp, by simp [go_sem], by simp [go_sem], by simp [go_sem], by omega, hn, ?_⟩
  rcases h with h | ⟨b, o, h1, h2, h3, h4, h5⟩
  · exact Or.inl h
  · refine Or.inr ⟨b, o, h1, by omega, h3, h4, fun i hi => ?_⟩
    obtain ⟨u, g1, g2⟩ := h5 i hi
    refine ⟨u, g1, ?_⟩
    rw [← g2, ← hb.cell (p := ⟨b, o + i, none⟩) h2]
    exact ((Below.refl w'.heap.size w').alloc (Nat.le_refl _) _).cell (p := ⟨b, o + i, none⟩) (by show b < _; omega)

set_option maxHeartbeats 400000 in
theorem big_yes (a : Option Addr) (n cap : Nat) (w : World) (h : 1048576 < n) (hn : n < 9223372036854775808) : Calls Try.prog 18 #[.slice a n cap] w fun e w' => e = .returned (.bool true) ∧ w' = w := by
  have h' : (1048576 : Int) < (n : Int) := by omega
  go_enter Try.func18, Try.ntmps18
  go_wp2
  go_ret
  exact ⟨rfl, rfl⟩
set_option maxHeartbeats 400000 in
theorem big_no (a : Option Addr) (n cap : Nat) (w : World) (h : n ≤ 1048576) : Calls Try.prog 18 #[.slice a n cap] w fun e w' => e = .returned (.bool false) ∧ w' = w := by
  have h' : ¬ ((1048576 : Int) < (n : Int)) := by omega
  go_enter Try.func18, Try.ntmps18
  go_wp2
  go_ret
  exact ⟨rfl, rfl⟩

theorem Turn.below {r : Nat} {w w1 w2 : World} (h1 : Below w.heap.size w w1) (hr : w.heap.size ≤ r) (t : Turn r w1 w2) : Below w.heap.size w w2 := h1.trans (t.bel.mono hr)

end Go.Proofs.Ytmopkbkdfipglaa.Rd
