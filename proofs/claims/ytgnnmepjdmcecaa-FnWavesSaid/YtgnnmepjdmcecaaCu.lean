/- Cut: lengths, plain; the model and the program. -/
import Derived.Test.YtgnnmepjdmcecaaCuL
import Derived.Maps.AppendAt
import Derived.Laws.MakeOwn
namespace Go.Proofs.Ytgnnmepjdmcecaa.Cu
open Go.ChangeShapes Go.WideShapes Go.ChangeAt Go.RowKit
open Go.Proofs.Ytgnnmepjdmcecaa.Pr
attribute [local go_sem] Pr.run_store_float

def lg (n : Nat) : Bool := decide (0 < n) && decide (36 % n = 0)
theorem lg_le {n : Nat} (h : lg n = true) : 1 ≤ n ∧ n ≤ 36 := by
  unfold lg at h
  rw [Bool.and_eq_true, decide_eq_true_eq, decide_eq_true_eq] at h
  refine ⟨h.1, ?_⟩
  by_cases e : n ≤ 36
  · exact e
  · rw [Nat.mod_eq_of_lt (by omega)] at h
    omega
theorem lg_small : ∀ k : Fin 29, lg k.val = true → k.val = 1 ∨ k.val = 2 ∨ k.val = 3 ∨ k.val = 4 ∨ k.val = 6 ∨ k.val = 9 ∨ k.val = 12 ∨ k.val = 18 ∨ k.val = 36 := by decide
def mn (n k : Nat) : Int := if (k : Int) ≤ (n : Int) - k then k else (n : Int) - k
def ce (L : Ls) (n : Nat) (keep : Int) (k : Nat) : Nat × Nat := if mn n k ≤ keep then (c0 L k, c1 L k) else (0, 0)
def cutL (L : Ls) (n : Nat) (keep : Int) : Nat → Ls
  | 0 => []
  | k + 1 => cutL L n keep k ++ [ce L n keep k]
theorem cutL_len (L : Ls) (n : Nat) (keep : Int) (k : Nat) : (cutL L n keep k).length = k := by
  induction k with
  | zero => rfl
  | succ k ih => unfold cutL; simp [ih]
theorem cutL_at (L : Ls) (n : Nat) (keep : Int) : ∀ (k i : Nat), i < k → (cutL L n keep k).getD i (0, 0) = ce L n keep i := by
  intro k
  induction k with
  | zero => intro i hi; omega
  | succ k ih =>
    intro i hi
    unfold cutL
    rw [List.getD_eq_getElem?_getD]
    by_cases e : i = k
    · subst e
      rw [List.getElem?_append_right (by rw [cutL_len]; exact Nat.le_refl _), cutL_len, Nat.sub_self]
      rfl
    · rw [List.getElem?_append_left (by rw [cutL_len]; omega), ← List.getD_eq_getElem?_getD]
      exact ih i (by omega)
def cutA (L : Ls) (keep : Int) : Ls := if lg L.length then cutL L L.length keep L.length else []
theorem cutA_len (L : Ls) (keep : Int) : (cutA L keep).length ≤ 1000 := by
  unfold cutA
  cases h : lg L.length
  · simp
  · have := lg_le h
    simp [cutL_len]
    omega

set_option maxHeartbeats 1000000 in
theorem div_any (n : Nat) (hn : n < 9223372036854775808) (w : World) : Calls Try.prog 17 #[.int .i64 (n : Int), .int .i64 36] w fun e w' => e = .returned (.bool (lg n)) ∧ w' = w := by
  by_cases h0 : n = 0
  · subst h0
    go_enter Try.func17, Try.ntmps17
    go_wp2_with fail
    go_ret
    exact ⟨rfl, rfl⟩
  · have i1 : (0 : Int) < (n : Int) := by omega
    have i2 : ¬ (n : Int) = 0 := by omega
    have i3 : ((n : Int) == 0) = false := by simp; omega
    have q : ((36 % n : Nat) : Int) = (36 : Int) % (n : Int) := by simp
    have e : Hid (lg n = decide ((36 : Int) % (n : Int) = 0)) := (by
      show _ = _
      unfold lg
      rw [decide_eq_true (by omega : 0 < n), Bool.true_and]
      rw [← q]
      by_cases z : 36 % n = 0
      · rw [z]; rfl
      · rw [decide_eq_false z, decide_eq_false (by omega)])
    have m1 : 0 ≤ (36 : Int) % (n : Int) := Int.emod_nonneg _ i2
    have m2 : (36 : Int) % (n : Int) ≤ 36 := by
      have := Nat.mod_le 36 n
      omega
    have i5 : IntKind.i64.wrap ((36 : Int) % (n : Int)) = (36 : Int) % (n : Int) := IntWalk.i64_in _ (by omega)
    clear q
    go_enter Try.func17, Try.ntmps17
    go_wp2_with fail
    go_ret
    exact ⟨by rw [e.out]; rfl, rfl⟩
theorem cell_two2 (w : World) (A : Obj) (v0 v1 : Value) (t : TypeId) : ∀ j u, [v0, v1][j]? = some u → ((w.alloc A).alloc (Obj.cells #[v0, v1] t)).cell? ((⟨w.heap.size + 1, 0, none⟩ : Addr).add j) = some u := by
  intro j u hj
  have := cell_news (w.alloc A) v0 v1 t j u hj
  simpa using this
theorem one_two (x y : Nat) : ∀ u ∈ [Value.float .f64 x, Value.float .f64 y], u.oneCell' = true := by intro u hu; simp at hu; rcases hu with rfl | rfl <;> rfl
theorem cells_at {w : World} {v : Value} {L : Ls} (h : Reads w v L) : ∃ b o, (∀ i, i < L.length → Cs w b o L i) ∧ (0 < L.length → b < w.heap.size ∧ ∃ cap, v = .slice (some ⟨b, o, none⟩) L.length cap) := by
  rcases h with ⟨rfl, _⟩ | ⟨b, o, cap, h1, h2, h3, h4, h5⟩
  · exact ⟨0, 0, fun i hi => by simp at hi, fun hi => by simp at hi⟩
  · exact ⟨b, o, h5, fun _ => ⟨h4, cap, h1⟩⟩

end Go.Proofs.Ytgnnmepjdmcecaa.Cu
