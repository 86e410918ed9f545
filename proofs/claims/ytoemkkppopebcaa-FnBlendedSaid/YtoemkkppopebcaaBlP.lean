/- Products of all but one, sums, the greatest common divisor: plain. -/
import Derived.Test.YtoemkkppopebcaaSuA
namespace Go.Proofs.Ytoemkkppopebcaa.Bl
open Go.Proofs.Ytoemkkppopebcaa.Al Go.Proofs.Ytoemkkppopebcaa.Su

def pd : Nat → (Nat → Int) → Int
  | 0, _ => 1
  | n + 1, f => pd n f * f n
theorem pd_congr {n : Nat} {f g : Nat → Int} (h : ∀ i, i < n → f i = g i) : pd n f = pd n g := by
  induction n with
  | zero => rfl
  | succ n ih => unfold pd; rw [ih fun i hi => h i (by omega), h n (by omega)]
/-- all but one -/
def but (i : Nat) (f : Nat → Int) (k : Nat) : Int := if k = i then 1 else f k
theorem but_free {i n : Nat} (f : Nat → Int) (h : n ≤ i) : pd n (but i f) = pd n f := pd_congr fun k hk => by unfold but; rw [if_neg (by omega)]
theorem but_mul {i n : Nat} (f : Nat → Int) (h : i < n) : pd n f = pd n (but i f) * f i := by
  induction n with
  | zero => omega
  | succ n ih =>
    unfold pd
    by_cases e : i = n
    · subst e
      rw [but_free f (Nat.le_refl _)]
      simp [but]
    · rw [ih (by omega)]
      unfold but
      rw [if_neg (fun x => e x.symm)]
      rw [Int.mul_assoc, Int.mul_assoc, Int.mul_comm (f i)]
theorem pd_bound {n : Nat} {f : Nat → Int} {M : Int} (h : ∀ i, i < n → 1 ≤ f i ∧ f i ≤ M) : 1 ≤ pd n f ∧ pd n f ≤ M ^ n := by
  induction n with
  | zero => simp [pd]
  | succ n ih =>
    have a := ih fun i hi => h i (by omega)
    have b := h n (by omega)
    unfold pd
    rw [Int.pow_succ]
    constructor
    · have := Int.mul_le_mul a.1 b.1 (by omega) (by omega)
      simpa using this
    · exact Int.mul_le_mul a.2 b.2 (by omega) (by omega)
theorem but_bound {n i : Nat} {f : Nat → Int} {M : Int} (hM : 1 ≤ M) (h : ∀ k, k < n → 1 ≤ f k ∧ f k ≤ M) : ∀ k, k < n → 1 ≤ but i f k ∧ but i f k ≤ M := by
  intro k hk
  unfold but
  split
  · omega
  · exact h k hk
theorem pow_le5 (n : Nat) (h : n ≤ 5) : (100 : Int) ^ n ≤ 10000000000 := by
  match n, h with
  | 0, _ => decide
  | 1, _ => decide
  | 2, _ => decide
  | 3, _ => decide
  | 4, _ => decide
  | 5, _ => decide

/-- what the values tell together -/
def mm (S : List Int) (i : Nat) : Int := pd S.length (but i fun k => S.getD k 0)
def top (V S : List Int) : Int := sm V.length fun i => V.getD i 0 * mm S i
def low (V S : List Int) : Int := sm V.length fun i => mm S i
def aab (x : Int) : Int := if x ≤ -x then -x else x
theorem aab_nn (x : Int) : 0 ≤ aab x := by unfold aab; split <;> omega
def gc (V S : List Int) : Int := ((aab (top V S)).gcd (low V S) : Int)
def okB (V S : List Int) : Bool := inn V.length 1 5 && (V.all (fun d => inn d (-100000) 100000) && nums S V.length 1 100)
def r0 (V S : List Int) : Int := if okB V S then (top V S).tdiv (gc V S) else 0
def r1 (V S : List Int) : Int := if okB V S then (low V S).tdiv (gc V S) else 0

structure Ok (V S : List Int) : Prop where
  n1 : 1 ≤ V.length
  n5 : V.length ≤ 5
  nS : S.length = V.length
  vb : ∀ j, j < V.length → -100000 ≤ V.getD j 0 ∧ V.getD j 0 ≤ 100000
  sb : ∀ j, j < V.length → 1 ≤ S.getD j 0 ∧ S.getD j 0 ≤ 100
theorem ok_of {V S : List Int} (h : okB V S = true) : Ok V S := by
  unfold okB at h
  rw [Bool.and_eq_true, Bool.and_eq_true, inn_iff] at h
  obtain ⟨⟨a, b⟩, c, d⟩ := h
  have d' := nums_parts d
  refine ⟨by omega, by omega, by omega, fun j hj => ?_, fun j hj => d'.2 j (by omega)⟩
  rw [List.all_eq_true] at c
  have := c (V.getD j 0) (by simp [List.getD_eq_getElem?_getD, hj])
  rw [inn_iff] at this
  exact this
theorem Ok.mb {V S : List Int} (h : Ok V S) (i : Nat) (n : Nat) (hn : n ≤ V.length) : 1 ≤ pd n (but i fun k => S.getD k 0) ∧ pd n (but i fun k => S.getD k 0) ≤ 10000000000 := by
  have a := pd_bound (n := n) (M := 100) (but_bound (i := i) (f := fun k => S.getD k 0) (by omega) (fun k hk => h.sb k (by omega)))
  have b := pow_le5 n (by have := h.n5; omega)
  omega
theorem Ok.mms {V S : List Int} (h : Ok V S) (i : Nat) : 1 ≤ mm S i ∧ mm S i ≤ 10000000000 := h.mb i S.length (by have := h.nS; omega)
theorem mul_abs {a b A B : Int} (ha : -A ≤ a ∧ a ≤ A) (hb : 0 ≤ b ∧ b ≤ B) (hA : 0 ≤ A) : -(A * B) ≤ a * b ∧ a * b ≤ A * B := by
  have h1 : a * b ≤ A * b := Int.mul_le_mul_of_nonneg_right ha.2 hb.1
  have h2 : A * b ≤ A * B := Int.mul_le_mul_of_nonneg_left hb.2 hA
  have h3 : -A * b ≤ a * b := Int.mul_le_mul_of_nonneg_right ha.1 hb.1
  rw [Int.neg_mul] at h3
  omega
theorem Ok.terms {V S : List Int} (h : Ok V S) (i : Nat) (hi : i < V.length) : -1000000000000000 ≤ V.getD i 0 * mm S i ∧ V.getD i 0 * mm S i ≤ 1000000000000000 := by
  have a := h.mms i
  have b := mul_abs (A := 100000) (B := 10000000000) (h.vb i hi) ⟨by omega, a.2⟩ (by omega)
  simpa using b
theorem Ok.tops {V S : List Int} (h : Ok V S) (k : Nat) (hk : k ≤ V.length) : -5000000000000000 ≤ sm k (fun i => V.getD i 0 * mm S i) ∧ sm k (fun i => V.getD i 0 * mm S i) ≤ 5000000000000000 := by
  have a := sm_bound (n := V.length) (f := fun i => V.getD i 0 * mm S i) (M := 1000000000000000) h.terms k hk
  have := h.n5
  omega
theorem Ok.lows {V S : List Int} (h : Ok V S) (k : Nat) (hk : k ≤ V.length) : (k : Int) ≤ sm k (fun i => mm S i) ∧ sm k (fun i => mm S i) ≤ 50000000000 := by
  have a := sm_bound (n := V.length) (f := fun i => mm S i) (M := 10000000000) (fun i _ => by have := h.mms i; omega) k hk
  have := h.n5
  refine ⟨?_, by omega⟩
  clear a hk
  induction k with
  | zero => simp [sm]
  | succ k ih => unfold sm; have := h.mms k; show ((k + 1 : Nat) : Int) ≤ sm k (fun i => mm S i) + mm S k; omega
theorem Ok.gpos {V S : List Int} (h : Ok V S) : 0 < gc V S := by
  have a := h.lows V.length (Nat.le_refl _)
  have b : low V S = sm V.length (fun i => mm S i) := rfl
  have c := h.n1
  have : 0 < (aab (top V S)).gcd (low V S) := Nat.pos_of_ne_zero fun e => by
    rw [Int.gcd_eq_zero_iff] at e
    omega
  unfold gc
  omega
theorem Ok.share {V S : List Int} (h : Ok V S) (i : Nat) (hi : i < V.length) : (pd S.length fun k => S.getD k 0).tdiv (S.getD i 0) = mm S i := by
  have a := but_mul (n := S.length) (i := i) (fun k => S.getD k 0) (by have := h.nS; omega)
  have b := h.sb i hi
  have c := h.mms i
  unfold mm at *
  rw [a]
  exact Int.mul_tdiv_cancel _ (by omega)

/-- one round of the divisor's search -/
theorem gcd_step {a b : Int} (ha : 0 ≤ a) (hb : 0 < b) : 0 ≤ a.tmod b ∧ a.tmod b < b ∧ (b.gcd (a.tmod b) : Int) = (a.gcd b : Int) := by
  rw [Int.tmod_eq_emod_of_nonneg ha]
  refine ⟨Int.emod_nonneg _ (by omega), Int.emod_lt_of_pos _ hb, ?_⟩
  obtain ⟨m, rfl⟩ := Int.eq_ofNat_of_zero_le ha
  obtain ⟨n, rfl⟩ := Int.eq_ofNat_of_zero_le (Int.le_of_lt hb)
  show ((n.gcd (m % n) : Nat) : Int) = ((m.gcd n : Nat) : Int)
  rw [Nat.gcd_comm n, ← Nat.gcd_rec, Nat.gcd_comm]
end Go.Proofs.Ytoemkkppopebcaa.Bl
