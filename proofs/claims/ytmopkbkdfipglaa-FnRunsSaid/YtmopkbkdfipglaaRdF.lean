/- Draws of sizes, tenths, numbers and floats. -/
import Derived.Test.YtmopkbkdfipglaaRd
namespace Go.Proofs.Ytmopkbkdfipglaa.Rd
open Go.ChangeShapes Go.WideShapes Go.ChangeAt Go.RowKit
theorem below_drewN {B : Nat} {a w : World} (h : Below B a w) (n : Nat) : Below B a (w.drewN n) := h.trans ⟨rfl, rfl, rfl, Nat.le_refl _, fun _ _ => rfl⟩

theorem Turn.drewN {r : Nat} {a w : World} (h : Turn r a w) (n : Nat) : Turn r a (w.drewN n) := ⟨below_drewN h.bel n, h.abv⟩
theorem Rd.drewN {r : Nat} {w : World} (h : Rd r w) (n : Nat) : Rd r (w.drewN n) := h.kept (below_drewN (Below.refl (r + 1) w) n) (Nat.lt_succ_self r)
/-- A float drawn. -/
abbrev DrawnF (r : Nat) (w : World) (e : Ending) (w' : World) : Prop := (∃ x : Nat, x < 18446744073709551616 ∧ e = .returned (.float .f64 x)) ∧ Rd r w' ∧ Turn r w w'

set_option maxHeartbeats 1000000 in
theorem below_all (r : Nat) (w : World) (h : Rd r w) (n : Nat) (h1 : 1 ≤ n) (h2 : n ≤ 60000) :
    Calls Try.prog 31 #[.pointer (some ⟨r, 0, none⟩), .int .i64 n] w (Drawn r w fun u => 0 ≤ u ∧ u < n) := by
  by_cases hn : 1 < n
  · exact below_any r w h n hn h2
  · have e : n = 1 := by omega
    subst e
    go_enter Try.func31, Try.ntmps31
    go_wp2_with fail
    go_ret
    exact ⟨⟨0, ⟨by omega, by omega⟩, rfl⟩, h, Turn.refl _ _⟩

abbrev twelve : Obj := .cells #[.int .i64 0, .int .i64 1, .int .i64 (-1), .int .i64 127, .int .i64 128, .int .i64 2147483648, .int .i64 1000000000000000, .int .i64 1000000000000001, .int .i64 (-1000000000000000), .int .i64 9007199254740993, .int .i64 9223372036854775807, .int .i64 (-9223372036854775808)] 2
theorem oneOf12 (u : Int) (h0 : 0 ≤ u) (h1 : u < 12) : u = 0 ∨ u = 1 ∨ u = 2 ∨ u = 3 ∨ u = 4 ∨ u = 5 ∨ u = 6 ∨ u = 7 ∨ u = 8 ∨ u = 9 ∨ u = 10 ∨ u = 11 := by omega
end Go.Proofs.Ytmopkbkdfipglaa.Rd
