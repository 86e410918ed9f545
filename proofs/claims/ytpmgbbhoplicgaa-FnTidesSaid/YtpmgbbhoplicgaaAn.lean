/- Analyse: plainly; pairs held against each other; the program. -/
import Derived.Test.YtpmgbbhoplicgaaWa
import Derived.Test.YtpmgbbhoplicgaaAtF
import Derived.Deep.RegionHeld3
namespace Go.Proofs.Ytpmgbbhoplicgaa.An
open Go.ChangeShapes Go.WideShapes Go.ChangeAt Go.RowKit
open Go.Proofs.Ytpmgbbhoplicgaa.Flt Go.Proofs.Ytpmgbbhoplicgaa.Wa

attribute [local go_sem] Flt.run_store_float
def inn (a lo hi : Int) : Bool := decide (lo ≤ a) && decide (a ≤ hi)
theorem inn_iff (a lo hi : Int) : inn a lo hi = true ↔ lo ≤ a ∧ a ≤ hi := by simp [inn]
def an (L : List Nat) (sp : Int) : Nat → Nat × Nat
  | 0 => (0, 0)
  | i + 1 => (opF .add (an L sp i).1 (mre (cn (L.getD i 0)) 0 (sine ((-(sp * (i : Int)) + 9) % 36)) (sine ((-(sp * (i : Int))) % 36))), opF .add (an L sp i).2 (mim (cn (L.getD i 0)) 0 (sine ((-(sp * (i : Int)) + 9) % 36)) (sine ((-(sp * (i : Int))) % 36))))
def fit (L : List Nat) (sp : Int) : Bool := decide (L.length = 36) && inn sp 1 17
def A0 (L : List Nat) (sp : Int) : Nat := if fit L sp then opF .quo (an L sp 36).1 4625759767262920704 else qn
def A1 (L : List Nat) (sp : Int) : Nat := if fit L sp then opF .quo (an L sp 36).2 4625759767262920704 else qn
theorem cn_zero : cn 0 = 0 := cn_num (by decide +kernel)
theorem cn_18 : cn 4625759767262920704 = 4625759767262920704 := cn_num (by decide +kernel)
theorem hQ (x y : Nat) (w : World) : (binOp .quo 27 (.float .f64 x) (.float .f64 y)).run Try.prog w = .ok (.float .f64 (opB .quo x y w)) (w.drewN (opD .quo x y)) := run_op Try.prog .quo arQuo 24 x y w

set_option maxHeartbeats 1000000 in
theorem sin_any (n a b : Int) (w : World) : Calls Try.prog 30 #[.int .i64 n, .int .i64 a, .int .i64 b] w fun e w' => e = .returned (.bool (inn n a b)) ∧ w' = w := by
  unfold inn
  by_cases h1 : a ≤ n
  · by_cases h2 : n ≤ b
    · rw [decide_eq_true h1, decide_eq_true h2]
      go_enter Try.func30, Try.ntmps30
      go_wp2
      go_ret
      exact ⟨rfl, rfl⟩
    · rw [decide_eq_true h1, decide_eq_false h2]
      go_enter Try.func30, Try.ntmps30
      go_wp2
      go_ret
      exact ⟨rfl, rfl⟩
  · rw [decide_eq_false h1, Bool.false_and]
    go_enter Try.func30, Try.ntmps30
    go_wp2
    go_ret
    exact ⟨rfl, rfl⟩
set_option maxHeartbeats 1000000 in
theorem win_any (n a b : Int) (w : World) : Calls Try.prog 32 #[.int .i64 n, .int .i64 a, .int .i64 b] w fun e w' => e = .returned (.bool (inn n a b)) ∧ w' = w := by
  unfold inn
  by_cases h1 : a ≤ n
  · by_cases h2 : n ≤ b
    · rw [decide_eq_true h1, decide_eq_true h2]
      go_enter Try.func32, Try.ntmps32
      go_wp2
      go_ret
      exact ⟨rfl, rfl⟩
    · rw [decide_eq_true h1, decide_eq_false h2]
      go_enter Try.func32, Try.ntmps32
      go_wp2
      go_ret
      exact ⟨rfl, rfl⟩
  · rw [decide_eq_false h1, Bool.false_and]
    go_enter Try.func32, Try.ntmps32
    go_wp2
    go_ret
    exact ⟨rfl, rfl⟩

theorem reads_at {w : World} {v : Value} {L : List Nat} (hL : Fls.Reads w v L) (h : 0 < L.length) : ∃ b o cap, v = .slice (some ⟨b, o, none⟩) L.length cap ∧ b < w.heap.size ∧ ∀ i, i < L.length → w.cell? ⟨b, o + i, none⟩ = some (.float .f64 (L.getD i 0)) := by
  rcases hL with ⟨rfl, _⟩ | ⟨b, o, cap, h1, h2, h3, h4, h5⟩
  · simp at h
  · exact ⟨b, o, cap, h1, h4, h5⟩

end Go.Proofs.Ytpmgbbhoplicgaa.An
