/- Levels: limits that are right, the levels, plainly; the tests of both sides. -/
import Derived.Test.YtlegcimlhgkibaaSx
import Derived.BigQuiet
namespace Go.Proofs.Ytlegcimlhgkibaa.Lv
open Go.ChangeShapes Go.WideShapes Go.ChangeAt Go.RowKit
open Go.Proofs.Ytlegcimlhgkibaa.Lists Go.Proofs.Ytlegcimlhgkibaa.Al Go.Proofs.Ytlegcimlhgkibaa.Se

def bad (A B : List Int) (k : Nat) : Bool := decide (A.getD k 0 < B.getD k 0) || (decide (0 < k) && (decide (A.getD k 0 ≤ A.getD (k - 1) 0) || decide (B.getD k 0 < B.getD (k - 1) 0)))
def okP (A B : List Int) : Bool := (List.range A.length).all fun k => !bad A B k
def all5 (A : List Int) : Bool := A.all fun d => inn d (-100000) 100000
def okB (A B : List Int) : Bool := inn A.length 1 5 && (decide ((B.length : Int) = (A.length : Int)) && (all5 A && (all5 B && okP A B)))
theorem okP_no {A B : List Int} {k : Nat} (hk : k < A.length) (h : bad A B k = true) : okP A B = false := by
  unfold okP
  rw [List.all_eq_false]
  exact ⟨k, List.mem_range.2 hk, by rw [h]; simp⟩
theorem okP_yes {A B : List Int} (h : ∀ k, k < A.length → bad A B k = false) : okP A B = true := by
  unfold okP
  rw [List.all_eq_true]
  intro k hk
  rw [h k (List.mem_range.1 hk)]
  rfl
theorem okP_parts {A B : List Int} (h : okP A B = true) : ∀ k, k < A.length → bad A B k = false := by
  intro k hk
  unfold okP at h
  rw [List.all_eq_true] at h
  have := h k (List.mem_range.2 hk)
  simpa using this
theorem bad_parts {A B : List Int} {k : Nat} (h : bad A B k = false) : B.getD k 0 ≤ A.getD k 0 ∧ (0 < k → A.getD (k - 1) 0 < A.getD k 0 ∧ B.getD (k - 1) 0 ≤ B.getD k 0) := by
  unfold bad at h
  simp only [Bool.or_eq_false_iff, Bool.and_eq_false_iff, decide_eq_false_iff_not] at h
  refine ⟨by have := h.1; omega, fun h0 => ?_⟩
  rcases h.2 with h2 | h2
  · exact absurd h0 h2
  · omega
theorem rise_up {L : List Int} {n : Nat} (h : ∀ k, k < n → 0 < k → L.getD (k - 1) 0 ≤ L.getD k 0) : ∀ d i, i + d < n → L.getD i 0 ≤ L.getD (i + d) 0 := by
  intro d
  induction d with
  | zero => exact fun i _ => Int.le_refl _
  | succ d ih =>
    intro i hi
    have h1 := ih i (by omega)
    have h2 := h (i + (d + 1)) hi (by omega)
    rw [show i + (d + 1) - 1 = i + d by omega] at h2
    omega
/-- limits do not fall -/
def Nf (L : List Int) : Prop := L.length ≤ 5 ∧ ∀ i j, i ≤ j → j < L.length → L.getD i 0 ≤ L.getD j 0
theorem okB_parts {A B : List Int} (h : okB A B = true) : 1 ≤ A.length ∧ A.length ≤ 5 ∧ B.length = A.length ∧ Nf A ∧ Nf B := by
  unfold okB at h
  simp only [Bool.and_eq_true, decide_eq_true_eq, inn_iff] at h
  obtain ⟨⟨h1, h2⟩, h3, _, _, h4⟩ := h
  have hp := okP_parts h4
  have hl : B.length = A.length := by omega
  refine ⟨by omega, by omega, hl, ⟨by omega, ?_⟩, ⟨by omega, ?_⟩⟩
  · intro i j hij hj
    have := rise_up (L := A) (n := A.length) (fun k hk h0 => by have := (bad_parts (hp k hk)).2 h0; omega) (j - i) i (by omega)
    rw [show i + (j - i) = j by omega] at this
    exact this
  · intro i j hij hj
    have := rise_up (L := B) (n := A.length) (fun k hk h0 => by have := (bad_parts (hp k hk)).2 h0; omega) (j - i) i (by omega)
    rw [show i + (j - i) = j by omega] at this
    exact this
/-- how many limits x reaches -/
def cnt (L : List Int) (x : Int) : Nat → Nat
  | 0 => 0
  | k + 1 => cnt L x k + (if L.getD k 0 ≤ x then 1 else 0)
def tp (L : List Int) (x : Int) : Nat := cnt L x L.length
theorem cnt_le (L : List Int) (x : Int) : ∀ k, cnt L x k ≤ k := by
  intro k
  induction k with
  | zero => exact Nat.le_refl _
  | succ k ih => unfold cnt; split <;> omega
theorem tp_le (L : List Int) (x : Int) : tp L x ≤ L.length := cnt_le L x _
theorem cnt_full {L : List Int} {x : Int} : ∀ k, (∀ i, i < k → L.getD i 0 ≤ x) → cnt L x k = k := by
  intro k
  induction k with
  | zero => exact fun _ => rfl
  | succ k ih =>
    intro h
    unfold cnt
    rw [ih fun i hi => h i (by omega), if_pos (h k (by omega))]
theorem cnt_hit {L : List Int} {x : Int} {k : Nat} (hn : Nf L) (hk : k < L.length) (h : L.getD k 0 ≤ x) : cnt L x (k + 1) = k + 1 := cnt_full (k + 1) fun i hi => by
  have := hn.2 i k (by omega) hk
  omega
theorem cnt_up {L : List Int} {x : Int} {k : Nat} (h : L.getD k 0 ≤ x) : cnt L x (k + 1) = cnt L x k + 1 := by
  show cnt L x k + _ = _
  rw [if_pos h]
theorem cnt_stay {L : List Int} {x : Int} {k : Nat} (h : ¬ L.getD k 0 ≤ x) : cnt L x (k + 1) = cnt L x k := by
  show cnt L x k + _ = _
  rw [if_neg h]
  rfl
/-- one number heard -/
def st (A B : List Int) (h : Nat) (p : Nat × Nat) (x : Int) : Nat × Nat :=
  if p.1 < tp A x then (tp A x, 0)
  else if 0 < p.1 ∧ x < B.getD (p.1 - 1) 0 then (if p.2 + 1 = h then (tp B x, 0) else (p.1, p.2 + 1))
  else (p.1, 0)
def rn (A B : List Int) (h : Nat) (S : List Int) : Nat → Nat × Nat
  | 0 => (0, 0)
  | k + 1 => st A B h (rn A B h S k) (S.getD k 0)
def lvs (A B : List Int) (h : Nat) (S : List Int) : Nat → List Int
  | 0 => []
  | k + 1 => lvs A B h S k ++ [((rn A B h S (k + 1)).1 : Int)]
theorem lvs_len (A B : List Int) (h : Nat) (S : List Int) : ∀ k, (lvs A B h S k).length = k := by
  intro k
  induction k with
  | zero => rfl
  | succ k ih => simp [lvs, ih]
theorem lvs_get (A B : List Int) (h : Nat) (S : List Int) : ∀ k i, i < k → (lvs A B h S k).getD i 0 = ((rn A B h S (i + 1)).1 : Int) := by
  intro k
  induction k with
  | zero => exact fun i hi => by omega
  | succ k ih =>
    intro i hi
    have hl := lvs_len A B h S k
    simp only [lvs, List.getD_eq_getElem?_getD]
    by_cases e : i = k
    · subst e
      rw [List.getElem?_append_right (by omega), hl]
      simp
    · rw [List.getElem?_append_left (by omega)]
      have := ih i (by omega)
      simpa [List.getD_eq_getElem?_getD] using this
theorem rn_bd (A B : List Int) (h : Nat) (S : List Int) (hl : B.length = A.length) (hh : 1 ≤ h) : ∀ k, (rn A B h S k).1 ≤ A.length ∧ (rn A B h S k).2 < h := by
  intro k
  induction k with
  | zero => exact ⟨Nat.zero_le _, hh⟩
  | succ k ih =>
    obtain ⟨h1, h2⟩ := ih
    show (st A B h (rn A B h S k) (S.getD k 0)).1 ≤ _ ∧ (st A B h (rn A B h S k) (S.getD k 0)).2 < h
    have t1 := tp_le A (S.getD k 0)
    have t2 := tp_le B (S.getD k 0)
    unfold st
    split
    · exact ⟨t1, hh⟩
    · split
      · split
        · exact ⟨by show tp B _ ≤ _; omega, hh⟩
        · exact ⟨h1, by show _ + 1 < h; omega⟩
      · exact ⟨h1, hh⟩
/-- what both tell -/
def good (S A B : List Int) (h : Int) : Bool := okS S && (okB A B && inn h 1 100)
def X0 (S A B : List Int) (h : Int) : List Int := if good S A B h then lvs A B h.toNat S S.length else []

/- ---- the tests -/
end Go.Proofs.Ytlegcimlhgkibaa.Lv
