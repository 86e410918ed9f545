/- The parts of a forecast, plainly. -/
import Derived.Test.YtmbhlmpdkkjedaaSb
import Derived.Lib.SlicesCompact
namespace Go.Proofs.Ytmbhlmpdkkjedaa.To
open Go.ChangeShapes Go.WideShapes Go.ChangeAt Go.RowKit
open Go.Proofs.Ytmbhlmpdkkjedaa.Al

/-- strictly rising lists with the same members are one list -/
theorem rise_one : ∀ (l1 l2 : List Int), l1.Pairwise (· < ·) → l2.Pairwise (· < ·) → (∀ x, x ∈ l1 ↔ x ∈ l2) → l1 = l2
  | [], [], _, _, _ => rfl
  | [], b :: l2, _, _, h => absurd ((h b).2 (List.mem_cons_self)) (by simp)
  | a :: l1, [], _, _, h => absurd ((h a).1 (List.mem_cons_self)) (by simp)
  | a :: l1, b :: l2, h1, h2, h => by
    have p1 := List.pairwise_cons.1 h1
    have p2 := List.pairwise_cons.1 h2
    have e : a = b := by
      rcases List.mem_cons.1 ((h a).1 List.mem_cons_self) with x | x
      · exact x
      · rcases List.mem_cons.1 ((h b).2 List.mem_cons_self) with y | y
        · exact y.symm
        · have := p1.1 b y
          have := p2.1 a x
          omega
    subst e
    refine congrArg (a :: ·) (rise_one l1 l2 p1.2 p2.2 fun x => ?_)
    constructor
    · intro hx
      rcases List.mem_cons.1 ((h x).1 (List.mem_cons_of_mem _ hx)) with y | y
      · subst y; exact absurd (p1.1 _ hx) (by omega)
      · exact y
    · intro hx
      rcases List.mem_cons.1 ((h x).2 (List.mem_cons_of_mem _ hx)) with y | y
      · subst y; exact absurd (p2.1 _ hx) (by omega)
      · exact y
/-- pairs of neighbours -/
def prs : List Int → List (Int × Int)
  | a :: b :: l => (a, b) :: prs (b :: l)
  | _ => []
theorem prs_snoc : ∀ (a : Int) (l : List Int) (y : Int), prs (a :: l ++ [y]) = prs (a :: l) ++ [((a :: l).getLast (by simp), y)]
  | a, [], y => rfl
  | a, b :: l, y => by
    have ih := prs_snoc b l y
    show (a, b) :: prs (b :: l ++ [y]) = (a, b) :: (prs (b :: l)) ++ _
    rw [ih]
    simp
theorem prs_len : ∀ (l : List Int), (prs l).length = l.length - 1
  | [] => rfl
  | [a] => rfl
  | a :: b :: l => by
    show (prs (b :: l)).length + 1 = _
    rw [prs_len (b :: l)]
    simp
theorem prs_at : ∀ (l : List Int) (i : Nat), i + 1 < l.length → (prs l).getD i (0, 0) = (l.getD i 0, l.getD (i + 1) 0)
  | [], i, h => absurd h (by simp)
  | [a], i, h => absurd h (by simp)
  | a :: b :: l, 0, _ => rfl
  | a :: b :: l, i + 1, h => by
    have := prs_at (b :: l) i (by simpa using h)
    simpa [prs] using this
/-- a time at which a part ends -/
def isE (t : Int) (L : Ch.Ls) (a : Int) : Bool := (a == t) || (List.range L.length).any (fun j => (Ch.c1 L j == a) || (Ch.c2 L j == a))
def Dn (f t : Int) (L : Ch.Ls) (m : Nat) : List Int := f :: ((List.range m).map (fun (i : Nat) => f + 1 + (i : Int))).filter (isE t L)
theorem Dn_next (f t : Int) (L : Ch.Ls) (m : Nat) : Dn f t L (m + 1) = if isE t L (f + 1 + (m : Int)) = true then Dn f t L m ++ [f + 1 + (m : Int)] else Dn f t L m := by
  unfold Dn
  rw [List.range_succ, List.map_append, List.filter_append]
  simp only [List.map_cons, List.map_nil, List.filter_cons, List.filter_nil]
  split <;> simp
theorem Dn_rise (f t : Int) (L : Ch.Ls) (m : Nat) : (Dn f t L m).Pairwise (· < ·) := by
  unfold Dn
  rw [List.pairwise_cons]
  constructor
  · intro x hx
    obtain ⟨i, _, rfl⟩ := List.mem_map.1 (List.mem_filter.1 hx).1
    omega
  · refine List.Pairwise.filter _ ?_
    rw [List.pairwise_map]
    exact List.pairwise_lt_range.imp (fun h => by omega)
theorem Dn_mem (f t : Int) (L : Ch.Ls) (m : Nat) (x : Int) : x ∈ Dn f t L m ↔ x = f ∨ (f + 1 ≤ x ∧ x < f + 1 + m ∧ isE t L x = true) := by
  unfold Dn
  rw [List.mem_cons, List.mem_filter, List.mem_map]
  constructor
  · rintro (h | ⟨⟨i, hi, rfl⟩, h2⟩)
    · exact Or.inl h
    · have := List.mem_range.1 hi
      exact Or.inr ⟨by omega, by omega, h2⟩
  · rintro (h | ⟨h1, h2, h3⟩)
    · exact Or.inl h
    · exact Or.inr ⟨⟨(x - f - 1).toNat, List.mem_range.2 (by omega), by omega⟩, h3⟩
/-- the ends as the program gathers them -/
def ens (f t : Int) (L : Ch.Ls) : Nat → List Int
  | 0 => [f, t]
  | k + 1 => if (Ch.c0 L k != 1) = true then ens f t L k ++ [Ch.c1 L k] ++ [Ch.c2 L k] else ens f t L k ++ [Ch.c1 L k]
theorem ens_len (f t : Int) (L : Ch.Ls) : ∀ k, (ens f t L k).length ≤ 2 + 2 * k ∧ 2 ≤ (ens f t L k).length
  | 0 => by simp [ens]
  | k + 1 => by
    have := ens_len f t L k
    unfold ens
    split
    · simp; omega
    · simp; omega
theorem ens_mem (f t : Int) (L : Ch.Ls) (x : Int) : ∀ k, x ∈ ens f t L k ↔ x = f ∨ x = t ∨ ∃ j, j < k ∧ (x = Ch.c1 L j ∨ (Ch.c0 L j ≠ 1 ∧ x = Ch.c2 L j))
  | 0 => by simp [ens]
  | k + 1 => by
    have ih := ens_mem f t L x k
    constructor
    · intro h
      have h' : x ∈ ens f t L k ∨ x = Ch.c1 L k ∨ (Ch.c0 L k ≠ 1 ∧ x = Ch.c2 L k) := by
        unfold ens at h
        by_cases hc : (Ch.c0 L k != 1) = true
        · rw [if_pos hc] at h
          have hc' : Ch.c0 L k ≠ 1 := by simpa using hc
          simp only [List.mem_append, List.mem_singleton] at h
          rcases h with (h | h) | h
          · exact Or.inl h
          · exact Or.inr (Or.inl h)
          · exact Or.inr (Or.inr ⟨hc', h⟩)
        · rw [if_neg hc] at h
          simp only [List.mem_append, List.mem_singleton] at h
          rcases h with h | h
          · exact Or.inl h
          · exact Or.inr (Or.inl h)
      rcases h' with h' | h'
      · rcases ih.1 h' with e | e | ⟨j, hj, e⟩
        · exact Or.inl e
        · exact Or.inr (Or.inl e)
        · exact Or.inr (Or.inr ⟨j, by omega, e⟩)
      · exact Or.inr (Or.inr ⟨k, by omega, h'⟩)
    · intro h
      have h' : x ∈ ens f t L k ∨ x = Ch.c1 L k ∨ (Ch.c0 L k ≠ 1 ∧ x = Ch.c2 L k) := by
        rcases h with e | e | ⟨j, hj, e⟩
        · exact Or.inl (ih.2 (Or.inl e))
        · exact Or.inl (ih.2 (Or.inr (Or.inl e)))
        · by_cases hk : j = k
          · subst hk; exact Or.inr e
          · exact Or.inl (ih.2 (Or.inr (Or.inr ⟨j, by omega, e⟩)))
      unfold ens
      by_cases hc : (Ch.c0 L k != 1) = true
      · rw [if_pos hc]
        simp only [List.mem_append, List.mem_singleton]
        rcases h' with h' | h' | ⟨_, h'⟩
        · exact Or.inl (Or.inl h')
        · exact Or.inl (Or.inr h')
        · exact Or.inr h'
      · rw [if_neg hc]
        have hc' : Ch.c0 L k = 1 := by simpa using hc
        simp only [List.mem_append, List.mem_singleton]
        rcases h' with h' | h' | ⟨h1, _⟩
        · exact Or.inl h'
        · exact Or.inr h'
        · exact absurd hc' h1
def srt (L : List Int) : List Int := L.mergeSort fun x y => decide (x ≤ y)
theorem srt_perm (L : List Int) : (srt L).Perm L := List.mergeSort_perm _ _
theorem srt_le (L : List Int) : (srt L).Pairwise (· ≤ ·) := (List.pairwise_mergeSort (le := fun x y : Int => decide (x ≤ y)) (fun a b c h1 h2 => by simp at h1 h2 ⊢; omega) (fun a b => by simp; omega) L).imp (fun h => by simpa using h)
theorem at_getD (S : List Int) (i : Nat) : S.toArray[i]! = S.getD i 0 := by
  by_cases h : i < S.length
  · simp [List.getD_eq_getElem?_getD, h]
  · simp [List.getD_eq_getElem?_getD, h]
theorem rise_compact (S : List Int) (h : S.Pairwise (· ≤ ·)) : (Lib.compact S).Pairwise (· < ·) := by
  unfold Lib.compact Lib.compactUpTo
  rw [List.pairwise_map]
  refine (List.Pairwise.filter _ List.pairwise_lt_range).imp_of_mem ?_
  intro i j hi hj hij
  have hjn := List.mem_range.1 (List.mem_filter.1 hj).1
  have hk := (List.mem_filter.1 hj).2
  have hle := List.pairwise_iff_getElem.1 h i (j - 1) (by omega) (by omega)
  have hle2 := List.pairwise_iff_getElem.1 h (j - 1) j (by omega) hjn (by omega)
  have hne : S.toArray[j]! ≠ S.toArray[j - 1]! := by
    intro e
    rw [Lib.keeps_neg (by omega) e] at hk
    exact absurd hk (by decide)
  rw [at_getD, at_getD] at hne ⊢
  have gi : S.getD i 0 = S[i]'(by omega) := by simp [List.getD_eq_getElem?_getD, List.getElem?_eq_getElem (show i < S.length by omega)]
  have gj : S.getD j 0 = S[j]'hjn := by simp [List.getD_eq_getElem?_getD, List.getElem?_eq_getElem hjn]
  have gk : S.getD (j - 1) 0 = S[j - 1]'(by omega) := by simp [List.getD_eq_getElem?_getD, List.getElem?_eq_getElem (show j - 1 < S.length by omega)]
  rw [gj, gk] at hne
  rw [gi, gj]
  by_cases e : i = j - 1
  · subst e; omega
  · have := hle (by omega)
    omega
theorem compact_mem (S : List Int) (x : Int) : x ∈ Lib.compact S ↔ x ∈ S := by
  unfold Lib.compact Lib.compactUpTo
  rw [List.mem_map]
  constructor
  · rintro ⟨j, hj, rfl⟩
    have hjn := List.mem_range.1 (List.mem_filter.1 hj).1
    rw [at_getD]
    simp [List.getD_eq_getElem?_getD, List.getElem?_eq_getElem hjn]
  · intro hx
    obtain ⟨i, hi, he⟩ := List.getElem_of_mem hx
    -- the first place
    have key : ∀ i, i < S.length → S.getD i 0 = x → ∃ j, j < S.length ∧ S.getD j 0 = x ∧ Lib.keeps S.toArray j = true := by
      intro i
      induction i with
      | zero => exact fun h e => ⟨0, h, e, Lib.keeps_lt_one _ 0 (by omega)⟩
      | succ i ih =>
        intro h e
        by_cases c : S.getD i 0 = x
        · exact ih (by omega) c
        · refine ⟨i + 1, h, e, Lib.keeps_pos ?_⟩
          rw [at_getD, at_getD]
          show S.getD (i + 1) 0 ≠ S.getD i 0
          rw [e]
          exact fun q => c q.symm
    obtain ⟨j, h1, h2, h3⟩ := key i hi (by simp [List.getD_eq_getElem?_getD, List.getElem?_eq_getElem hi, he])
    exact ⟨j, List.mem_filter.2 ⟨List.mem_range.2 h1, h3⟩, by rw [at_getD]; exact h2⟩
theorem cok_times {f t k x y d p v : Int} {W C : ByteArray} {b : Int} (h : cok f t k x y d p v W C b = true) : f ≤ x ∧ x < t ∧ (k = 1 → y = 0) ∧ (k ≠ 1 → f < y ∧ y ≤ t) := by
  unfold cok in1 in2 at h
  simp only [Bool.and_eq_true] at h
  obtain ⟨_, _, h⟩ := h
  by_cases hk : k = 1
  · subst hk
    simp only [beq_self_eq_true, if_true, Bool.and_eq_true] at h
    have := (inn_iff _ _ _).1 h.2.1
    have hy : y = 0 := eq_of_beq h.1
    exact ⟨by omega, by omega, fun _ => hy, fun h => absurd rfl h⟩
  · have hk' : (k == 1) = false := by simpa using hk
    rw [hk'] at h
    simp only [Bool.false_eq_true, if_false, Bool.and_eq_true, decide_eq_true_eq] at h
    obtain ⟨_, _, _, h1, h2, h3⟩ := h
    exact ⟨h1, by omega, fun e => absurd e hk, fun _ => ⟨by omega, h3⟩⟩
theorem isE_iff (t : Int) (L : Ch.Ls) (a : Int) : isE t L a = true ↔ a = t ∨ ∃ j, j < L.length ∧ (Ch.c1 L j = a ∨ Ch.c2 L j = a) := by
  unfold isE
  simp only [Bool.or_eq_true, beq_iff_eq, List.any_eq_true, List.mem_range]
/-- both sides' ends are the same -/
theorem ends_one {C : ByteArray} {I f t d p v : Int} {W O : ByteArray} {b : Int} {L : Ch.Ls} (h : tok C I f t d p v W O b L = true) : Lib.compact (srt (ens f t L L.length)) = Dn f t L (t - f).toNat := by
  have hc := (tok_parts h).2.1
  have hv : 0 ≤ f ∧ f + 60 ≤ t := by
    unfold tok vok span at h
    simp only [Bool.and_eq_true] at h
    obtain ⟨_, _, ⟨⟨h1, _⟩, _, _, h2, _⟩, _⟩ := h
    have a1 := (inn_iff _ _ _).1 h1
    have a2 := (inn_iff _ _ _).1 h2
    omega
  refine rise_one _ _ (rise_compact _ (srt_le _)) (Dn_rise _ _ _ _) fun x => ?_
  rw [compact_mem, (srt_perm _).mem_iff, ens_mem, Dn_mem, isE_iff]
  constructor
  · rintro (e | e | ⟨j, hj, e⟩)
    · exact Or.inl e
    · exact Or.inr ⟨by omega, by omega, Or.inl e⟩
    · obtain ⟨c1, c2, c3, c4⟩ := cok_times (hc j hj)
      rcases e with e | ⟨e1, e2⟩
      · by_cases q : x = f
        · exact Or.inl q
        · exact Or.inr ⟨by omega, by omega, Or.inr ⟨j, hj, Or.inl e.symm⟩⟩
      · have := c4 e1
        exact Or.inr ⟨by omega, by omega, Or.inr ⟨j, hj, Or.inr e2.symm⟩⟩
  · rintro (e | ⟨h1, h2, e | ⟨j, hj, e⟩⟩)
    · exact Or.inl e
    · exact Or.inr (Or.inl e)
    · obtain ⟨c1, c2, c3, c4⟩ := cok_times (hc j hj)
      rcases e with e | e
      · exact Or.inr (Or.inr ⟨j, hj, Or.inl e.symm⟩)
      · by_cases q : Ch.c0 L j = 1
        · have := c3 q
          omega
        · exact Or.inr (Or.inr ⟨j, hj, Or.inr ⟨q, e.symm⟩⟩)
end Go.Proofs.Ytmbhlmpdkkjedaa.To
