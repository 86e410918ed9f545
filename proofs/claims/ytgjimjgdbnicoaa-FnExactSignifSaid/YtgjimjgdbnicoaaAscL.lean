/- The law FnExactAscentOk walked. -/
import Derived.Test.YtgjimjgdbnicoaaLvE
namespace Go.Proofs.Ytgjimjgdbnicoaa.Flt
open Go.ChangeShapes Go.WideShapes Go.ChangeAt Go.RowKit
attribute [local go_sem] run_store_float

theorem sok_any (w : World) (v : Value) (L : Lv) (h : Reads w v L) : Calls Try.prog 13 #[v] w fun e w' => e = .returned (.bool (lok L)) ∧ Below w.heap.size w w' := by
  by_cases h1 : 2 ≤ L.length ∧ L.length ≤ 400
  · exact sok_long w v L h h1.1 h1.2
  · exact sok_short w v L h (by omega)
theorem iok_any (w : World) (v : Value) (L : Lv) (h : Reads w v L) (hm : L.length ≤ 1048576) : Calls Try.prog 17 #[v] w fun e w' => e = .returned (.bool (lok L)) ∧ Below w.heap.size w w' := by
  by_cases h1 : 2 ≤ L.length ∧ L.length ≤ 400
  · exact iok_long w v L h h1.1 h1.2
  · exact iok_short w v L h (by omega) hm

set_option maxHeartbeats 1000000 in
theorem sz_far (a : Option Addr) (n cap : Nat) (w : World) (h : 1048576 < n) (hn : n < 9223372036854775808) : Calls Try.prog 4 #[.slice a n cap, .int .i64 1048576] w fun e w' => e = .returned (.int .i64 (-1)) ∧ w' = w := by
  have i1 : (1048576 : Int) - (n : Int) < 0 := by omega
  have i2 : IntKind.i64.wrap ((1048576 : Int) - (n : Int)) = 1048576 - (n : Int) := IntWalk.i64_in _ (by omega)
  go_enter Try.func4, Try.ntmps4
  go_wp2
  go_ret
  exact ⟨rfl, rfl⟩
set_option maxHeartbeats 1000000 in
theorem sz_near (a : Option Addr) (n cap : Nat) (w : World) (h : n ≤ 1048576) : Calls Try.prog 4 #[.slice a n cap, .int .i64 1048576] w fun e w' => e = .returned (.int .i64 (1048576 - (n : Int))) ∧ w' = w := by
  have i1 : ¬ (1048576 : Int) - (n : Int) < 0 := by omega
  have i2 : IntKind.i64.wrap ((1048576 : Int) - (n : Int)) = 1048576 - (n : Int) := IntWalk.i64_in _ (by omega)
  go_enter Try.func4, Try.ntmps4
  go_wp2
  go_ret
  exact ⟨rfl, rfl⟩

theorem Reads.fits {w : World} {v : Value} {L : Lv} (h : Reads w v L) : L.length < 9223372036854775808 := by
  rcases h with ⟨rfl, _⟩ | ⟨b, o, c, _, h1, h2, _⟩
  · decide
  · unfold maxLen at h2; omega

end Go.Proofs.Ytgjimjgdbnicoaa.Flt
