/- The runs of levels that grow warmer, plain. -/
import Derived.Test.YtpcgnahjibfphaaIvB
namespace Go.Proofs.Ytpcgnahjibfphaa.Flt
open Go.ChangeShapes Go.WideShapes Go.ChangeAt Go.RowKit
attribute [local go_sem] run_store_float

def up (L : Lv) (i : Nat) : Bool := ord (tOf L (i + 1)) (tOf L i) == some .gt
/-- Where the run that is under way began, and the runs that were found, ahead of place k. -/
def ist (L : Lv) : Nat → Nat × List Int
  | 0 => (0, [])
  | k + 1 => if decide (k + 1 < L.length) && up L k then ist L k else (k + 1, if (ist L k).1 < k then (ist L k).2 ++ [((ist L k).1 : Int), (k : Int)] else (ist L k).2)
theorem ist_le (L : Lv) (k : Nat) : (ist L k).1 ≤ k ∧ (ist L k).2.length % 2 = 0 ∧ (ist L k).2.length ≤ k * 2 := by
  induction k with
  | zero => exact ⟨Nat.le_refl _, rfl, Nat.le_refl _⟩
  | succ k ih =>
    unfold ist
    split
    · omega
    · refine ⟨Nat.le_refl _, ?_⟩
      dsimp only
      split
      · simp; omega
      · omega
def invs (L : Lv) : List Int := if lok L then (ist L L.length).2 else []
theorem Try.info51 : (Try.prog.info? 51).map (fun i => (i.zero, i.size, i.bytes)) = some (some (.agg #[.int .i64 0, .int .i64 0]), 2, 16) := by kernel_rfl

theorem ist_zero (L : Lv) : ist L 0 = (0, []) := by unfold ist; rfl
theorem ist_up {L : Lv} {k : Nat} (h1 : k + 1 < L.length) (h2 : up L k = true) : ist L (k + 1) = ist L k := by
  conv => lhs; unfold ist
  rw [h2, decide_eq_true h1]; rfl
theorem ist_cut {L : Lv} {k : Nat} (h : ¬ k + 1 < L.length ∨ up L k = false) (hf : (ist L k).1 < k) : ist L (k + 1) = (k + 1, (ist L k).2 ++ [((ist L k).1 : Int), (k : Int)]) := by
  conv => lhs; unfold ist
  have : (decide (k + 1 < L.length) && up L k) = false := by
    rcases h with h | h
    · rw [decide_eq_false h]; rfl
    · rw [h]; simp
  rw [this, if_pos hf]; rfl
theorem ist_skip {L : Lv} {k : Nat} (h : ¬ k + 1 < L.length ∨ up L k = false) (hf : ¬ (ist L k).1 < k) : ist L (k + 1) = (k + 1, (ist L k).2) := by
  conv => lhs; unfold ist
  have : (decide (k + 1 < L.length) && up L k) = false := by
    rcases h with h | h
    · rw [decide_eq_false h]; rfl
    · rw [h]; simp
  rw [this, if_neg hf]; rfl
theorem row_form {w : World} {base n k : Nat} {e : TypeId} {v : Value} {xs : List Value} (h : w.ownsRow base e k v n xs) : ∃ a c, v = .slice a n c := by
  rcases row_cases h with ⟨rfl, rfl⟩ | ⟨g, cap, rfl, _⟩
  · exact ⟨_, _, rfl⟩
  · exact ⟨_, _, rfl⟩
theorem ints_two (C : List Int) (a b : Int) : ints (C ++ [a, b]) = ints C ++ [.int .i64 a, .int .i64 b] := by simp [ints]
theorem half_two (C : List Int) (a b : Int) : (C ++ [a, b]).length / 2 = C.length / 2 + 1 := by simp

end Go.Proofs.Ytpcgnahjibfphaa.Flt
