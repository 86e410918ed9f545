/- Catch and OutletOf: the model. -/
import Derived.Test.YtagkbglgdmajhaaXoA
import Derived.Test.YtagkbglgdmajhaaCtP
namespace Go.Proofs.Ytagkbglgdmajhaa.Ct
open Go.ChangeShapes Go.WideShapes Go.ChangeAt Go.RowKit
open Go.Proofs.Ytagkbglgdmajhaa.Lists

def inn (a lo hi : Int) : Bool := decide (lo ≤ a) && decide (a ≤ hi)
theorem inn_iff (a lo hi : Int) : inn a lo hi = true ↔ lo ≤ a ∧ a ≤ hi := by simp [inn]
theorem s_in (n a b : Int) (w : World) : Calls Try.prog 30 #[.int .i64 n, .int .i64 a, .int .i64 b] w fun e w' => e = .returned (.bool (inn n a b)) ∧ w' = w := sin_any n a b w
theorem i_in (n a b : Int) (w : World) : Calls Try.prog 33 #[.int .i64 n, .int .i64 a, .int .i64 b] w fun e w' => e = .returned (.bool (inn n a b)) ∧ w' = w := win_any n a b w
theorem reads_at {w : World} {v : Value} {L : List Int} (hL : Lists.Reads w v L) : ∃ b o, (∀ i, i < L.length → w.cell? ⟨b, o + i, none⟩ = some (.int .i64 (L.getD i 0))) ∧ (0 < L.length → b < w.heap.size ∧ ∃ cap, v = .slice (some ⟨b, o, none⟩) L.length cap) := by
  rcases hL with ⟨rfl, _⟩ | ⟨b, o, cap, h1, h2, h3, h4, h5⟩
  · exact ⟨0, 0, fun i hi => by simp at hi, fun hi => by simp at hi⟩
  · exact ⟨b, o, h5, fun _ => ⟨h4, cap, h1⟩⟩
def okN (N : List Int) : Bool := decide (N.length ≤ 576) && (N.all (fun d => inn d (-1) ((N.length : Int) - 1)) && (List.range N.length).all (fun c => (last N (N.length + 1) c).isSome))
theorem ok_iff (N : List Int) : okN N = true ↔ N.length ≤ 576 ∧ Va N ∧ Ends N := by
  unfold okN
  simp only [Bool.and_eq_true, decide_eq_true_eq, List.all_eq_true, List.mem_range, inn_iff]
  constructor
  · rintro ⟨h1, h2, h3⟩
    exact ⟨h1, fun c hc => by have := h2 (nx N c) (by unfold nx; simp [List.getD_eq_getElem?_getD, hc]); omega, h3⟩
  · rintro ⟨h1, h2, h3⟩
    refine ⟨h1, fun d hd => ?_, h3⟩
    obtain ⟨j, hj, rfl⟩ := List.getElem_of_mem hd
    have := h2 j hj
    simp [nx, List.getD_eq_getElem?_getD, hj] at this
    omega
theorem ok_not {N : List Int} (h : ¬ (N.length ≤ 576 ∧ Va N ∧ Ends N)) : okN N = false := by
  cases e : okN N
  · rfl
  · exact absurd ((ok_iff N).1 e) h
def ov : Option Nat → Int
  | some r => r
  | none => 0
def la (N : List Int) (c : Nat) : Int := ov (last N (N.length + 1) c)
theorem va_at {N : List Int} (h : Va N) {c : Nat} (hc : c < N.length) : -1 ≤ N.getD c 0 ∧ N.getD c 0 < N.length := h c hc

end Go.Proofs.Ytagkbglgdmajhaa.Ct
