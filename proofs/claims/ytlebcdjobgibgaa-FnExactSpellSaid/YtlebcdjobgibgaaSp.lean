/- Spells, plainly: the first of the longest runs. -/
import Derived.Test.YtlebcdjobgibgaaSe
namespace Go.Proofs.Ytlebcdjobgibgaa.Sp
open Go.ChangeShapes Go.WideShapes Go.ChangeAt Go.RowKit
open Go.Proofs.Ytlebcdjobgibgaa.Lists Go.Proofs.Ytlebcdjobgibgaa.Al Go.Proofs.Ytlebcdjobgibgaa.Su Go.Proofs.Ytlebcdjobgibgaa.Se

def Run (L : List Int) (lv : Int) (n s l : Nat) : Prop := s + l ≤ n ∧ ∀ j, s ≤ j → j < s + l → lv ≤ L.getD j 0
def Sp (L : List Int) (lv : Int) (n : Nat) (p m : Int) : Prop := ((m = 0 ∧ p = -1) ∨ ∃ q l : Nat, p = q ∧ m = l ∧ 0 < l ∧ Run L lv n q l) ∧ (∀ s l, Run L lv n s l → (l : Int) ≤ m) ∧ (∀ s l, Run L lv n s l → (s : Int) < p → (l : Int) < m)
theorem Sp.one {L : List Int} {lv : Int} {n : Nat} {p m p' m' : Int} (h : Sp L lv n p m) (h' : Sp L lv n p' m') : p = p' ∧ m = m' := by
  obtain ⟨a, b, c⟩ := h
  obtain ⟨a', b', c'⟩ := h'
  rcases a with ⟨rfl, rfl⟩ | ⟨q, l, rfl, rfl, hl, hr⟩
  · rcases a' with ⟨rfl, rfl⟩ | ⟨q', l', rfl, rfl, hl', hr'⟩
    · exact ⟨rfl, rfl⟩
    · have := b _ _ hr'; omega
  · rcases a' with ⟨rfl, rfl⟩ | ⟨q', l', rfl, rfl, hl', hr'⟩
    · have := b' _ _ hr; omega
    · have t1 := b _ _ hr'
      have t2 := b' _ _ hr
      have t3 := c _ _ hr'
      have t4 := c' _ _ hr
      omega
def FI (L : List Int) (lv : Int) (n i : Nat) (p m : Int) : Prop := ((m = 0 ∧ p = -1) ∨ ∃ q l : Nat, p = q ∧ m = l ∧ 0 < l ∧ q < i ∧ Run L lv n q l) ∧ (∀ s l, s < i → Run L lv n s l → (l : Int) ≤ m) ∧ (∀ s l, Run L lv n s l → (s : Int) < p → (l : Int) < m)
theorem FI.zero (L : List Int) (lv : Int) (n : Nat) : FI L lv n 0 (-1) 0 := ⟨Or.inl ⟨rfl, rfl⟩, fun s l h => by omega, fun s l _ h => by omega⟩
theorem FI.nn {L : List Int} {lv : Int} {n i : Nat} {p m : Int} (h : FI L lv n i p m) : 0 ≤ m := by
  rcases h.1 with ⟨rfl, _⟩ | ⟨q, l, _, rfl, _⟩ <;> omega
theorem FI.stay {L : List Int} {lv : Int} {n i r : Nat} {p m : Int} (h : FI L lv n i p m) (hr : ∀ l, Run L lv n i l → l ≤ r) (hm : (r : Int) ≤ m) : FI L lv n (i + 1) p m := by
  refine ⟨?_, fun s l hs hr' => ?_, h.2.2⟩
  · rcases h.1 with a | ⟨q, l, a, b, c, d, e⟩
    · exact Or.inl a
    · exact Or.inr ⟨q, l, a, b, c, by omega, e⟩
  · by_cases e : s = i
    · subst e; have := hr l hr'; omega
    · exact h.2.1 s l (by omega) hr'
theorem FI.take {L : List Int} {lv : Int} {n i r : Nat} {p m : Int} (h : FI L lv n i p m) (h0 : Run L lv n i r) (hr : ∀ l, Run L lv n i l → l ≤ r) (hm : m < (r : Int)) : FI L lv n (i + 1) (i : Int) (r : Int) := by
  have hn := h.nn
  refine ⟨Or.inr ⟨i, r, rfl, rfl, by omega, by omega, h0⟩, fun s l hs hr' => ?_, fun s l hr' hs => ?_⟩
  · by_cases e : s = i
    · subst e; have := hr l hr'; omega
    · have := h.2.1 s l (by omega) hr'; omega
  · have := h.2.1 s l (by omega) hr'; omega
theorem FI.all {L : List Int} {lv : Int} {n : Nat} {p m : Int} (h : FI L lv n n p m) : Sp L lv n p m := by
  have hn := h.nn
  refine ⟨?_, fun s l hr => ?_, h.2.2⟩
  · rcases h.1 with a | ⟨q, l, a, b, c, _, e⟩
    · exact Or.inl a
    · exact Or.inr ⟨q, l, a, b, c, e⟩
  · by_cases e : s < n
    · exact h.2.1 s l e hr
    · have := hr.1; omega
theorem run_ex' (L : List Int) (lv : Int) (n : Nat) : ∀ d i, i + d = n → ∃ r, Run L lv n i r ∧ ∀ l, Run L lv n i l → l ≤ r := by
  intro d
  induction d with
  | zero => exact fun i hi => ⟨0, ⟨by omega, fun j h1 h2 => by omega⟩, fun l hl => by have := hl.1; omega⟩
  | succ d ih =>
    intro i hi
    by_cases hz : lv ≤ L.getD i 0
    · obtain ⟨r, h0, hr⟩ := ih (i + 1) (by omega)
      refine ⟨r + 1, ⟨by have := h0.1; omega, fun j h1 h2 => ?_⟩, fun l hl => ?_⟩
      · by_cases e : j = i
        · subst e; exact hz
        · exact h0.2 j (by omega) (by omega)
      · by_cases e : l = 0
        · omega
        · have := hr (l - 1) ⟨by have := hl.1; omega, fun j h1 h2 => hl.2 j (by omega) (by omega)⟩
          omega
    · refine ⟨0, ⟨by omega, fun j h1 h2 => by omega⟩, fun l hl => ?_⟩
      by_cases e : l = 0
      · omega
      · have := hl.2 i (by omega) (by omega); omega
theorem run_ex (L : List Int) (lv : Int) (n i : Nat) (hi : i ≤ n) : ∃ r, Run L lv n i r ∧ ∀ l, Run L lv n i l → l ≤ r := run_ex' L lv n (n - i) i (by omega)
theorem fi_ex (L : List Int) (lv : Int) (n : Nat) : ∀ i, i ≤ n → ∃ p m, FI L lv n i p m := by
  intro i hi
  induction i with
  | zero => exact ⟨_, _, FI.zero L lv n⟩
  | succ i ih =>
    obtain ⟨p, m, h⟩ := ih (by omega)
    obtain ⟨r, h0, hr⟩ := run_ex L lv n i (by omega)
    by_cases hm : m < (r : Int)
    · exact ⟨_, _, h.take h0 hr hm⟩
    · exact ⟨_, _, h.stay hr (by omega)⟩
theorem sp_ex (L : List Int) (lv : Int) (n : Nat) : ∃ p m, Sp L lv n p m := by
  obtain ⟨p, m, h⟩ := fi_ex L lv n n (Nat.le_refl _)
  exact ⟨p, m, h.all⟩
/- what the program keeps behind k numbers: the run that ends there, the best so far -/
def Tr (L : List Int) (lv : Int) (k r : Nat) : Prop := r ≤ k ∧ (∀ j, k - r ≤ j → j < k → lv ≤ L.getD j 0) ∧ (r = k ∨ L.getD (k - r - 1) 0 < lv)
theorem Run.up {L : List Int} {lv : Int} {k s l : Nat} (h : Run L lv (k + 1) s l) (hne : ¬ s + l = k + 1) : Run L lv k s l := ⟨by have := h.1; omega, h.2⟩
theorem Run.dn {L : List Int} {lv : Int} {k s l : Nat} (h : Run L lv k s l) : Run L lv (k + 1) s l := ⟨by have := h.1; omega, h.2⟩
theorem Sp.nn {L : List Int} {lv : Int} {n : Nat} {p m : Int} (h : Sp L lv n p m) : 0 ≤ m ∧ m ≤ n ∧ -1 ≤ p := by
  rcases h.1 with ⟨rfl, rfl⟩ | ⟨q, l, rfl, rfl, _, hr⟩
  · omega
  · have := hr.1; omega
theorem Sp.low {L : List Int} {lv : Int} {k : Nat} {p m : Int} (h : Sp L lv k p m) (hz : L.getD k 0 < lv) : Sp L lv (k + 1) p m := by
  have hn := h.nn
  have key : ∀ s l, Run L lv (k + 1) s l → Run L lv k s l ∨ l = 0 := fun s l hr => by
    by_cases e : s + l = k + 1
    · by_cases e0 : l = 0
      · exact Or.inr e0
      · have := hr.2 k (by omega) (by omega); omega
    · exact Or.inl (hr.up e)
  refine ⟨?_, fun s l hr => ?_, fun s l hr hs => ?_⟩
  · rcases h.1 with a | ⟨q, l, a, b, c, e⟩
    · exact Or.inl a
    · exact Or.inr ⟨q, l, a, b, c, e.dn⟩
  · rcases key s l hr with x | rfl
    · exact h.2.1 s l x
    · omega
  · rcases key s l hr with x | rfl
    · exact h.2.2 s l x hs
    · rcases h.1 with ⟨_, rfl⟩ | ⟨q, l, _, rfl, hl, _⟩
      · omega
      · omega
theorem tr_top {L : List Int} {lv : Int} {k r s l : Nat} (ht : Tr L lv k r) (hr : Run L lv (k + 1) s l) (e : s + l = k + 1) : l ≤ r + 1 := by
  rcases ht.2.2 with rfl | hx
  · omega
  · by_cases x : l ≤ r + 1
    · exact x
    · have := hr.2 (k - r - 1) (by omega) (by omega); omega
theorem tr_run {L : List Int} {lv : Int} {k r : Nat} (ht : Tr L lv k r) (hz : lv ≤ L.getD k 0) : Run L lv (k + 1) (k - r) (r + 1) := by
  refine ⟨by have := ht.1; omega, fun j h1 h2 => ?_⟩
  by_cases e : j = k
  · subst e; exact hz
  · exact ht.2.1 j (by omega) (by have := ht.1; omega)
theorem Sp.stay {L : List Int} {lv : Int} {k r : Nat} {p m : Int} (h : Sp L lv k p m) (ht : Tr L lv k r) (hm : ((r + 1 : Nat) : Int) ≤ m) : Sp L lv (k + 1) p m := by
  refine ⟨?_, fun s l hr => ?_, fun s l hr hs => ?_⟩
  · rcases h.1 with a | ⟨q, l, a, b, c, e⟩
    · exact Or.inl a
    · exact Or.inr ⟨q, l, a, b, c, e.dn⟩
  · by_cases e : s + l = k + 1
    · have := tr_top ht hr e; omega
    · exact h.2.1 s l (hr.up e)
  · by_cases e : s + l = k + 1
    · have := tr_top ht hr e
      rcases h.1 with ⟨rfl, rfl⟩ | ⟨q, l', rfl, rfl, hl, hr'⟩
      · omega
      · have := hr'.1; omega
    · exact h.2.2 s l (hr.up e) hs
theorem Sp.take {L : List Int} {lv : Int} {k r : Nat} {p m : Int} (h : Sp L lv k p m) (ht : Tr L lv k r) (hz : lv ≤ L.getD k 0) (hm : m < ((r + 1 : Nat) : Int)) : Sp L lv (k + 1) ((k : Int) - r) ((r + 1 : Nat) : Int) := by
  have hk := ht.1
  refine ⟨Or.inr ⟨k - r, r + 1, by omega, rfl, by omega, tr_run ht hz⟩, fun s l hr => ?_, fun s l hr hs => ?_⟩
  · by_cases e : s + l = k + 1
    · have := tr_top ht hr e; omega
    · have := h.2.1 s l (hr.up e); omega
  · by_cases e : s + l = k + 1
    · have := tr_top ht hr e; omega
    · have := h.2.1 s l (hr.up e); omega
theorem Tr.up {L : List Int} {lv : Int} {k r : Nat} (ht : Tr L lv k r) (hz : lv ≤ L.getD k 0) : Tr L lv (k + 1) (r + 1) := by
  refine ⟨by have := ht.1; omega, fun j h1 h2 => ?_, ?_⟩
  · by_cases e : j = k
    · subst e; exact hz
    · exact ht.2.1 j (by omega) (by omega)
  · rcases ht.2.2 with rfl | hx
    · exact Or.inl rfl
    · exact Or.inr (by rw [show k + 1 - (r + 1) - 1 = k - r - 1 by omega]; exact hx)
theorem Tr.none {L : List Int} {lv : Int} {k : Nat} (hz : L.getD k 0 < lv) : Tr L lv (k + 1) 0 := ⟨by omega, fun j h1 h2 => by omega, Or.inr (by simpa using hz)⟩
theorem Sp.zero (L : List Int) (lv : Int) : Sp L lv 0 (-1) 0 := ⟨Or.inl ⟨rfl, rfl⟩, fun s l h => by have := h.1; omega, fun s l _ h => by omega⟩
theorem Tr.zero (L : List Int) (lv : Int) : Tr L lv 0 0 := ⟨Nat.le_refl _, fun j _ h => by omega, Or.inl rfl⟩
end Go.Proofs.Ytlebcdjobgibgaa.Sp
