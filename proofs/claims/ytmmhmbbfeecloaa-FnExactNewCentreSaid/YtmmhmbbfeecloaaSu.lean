/- The subscribers of routes, rising: plainly; rows of whole numbers sorted, and what comes twice struck. -/
import Derived.Test.YtmmhmbbfeecloaaRm
import Derived.Test.YtmmhmbbfeecloaaShelf
import Derived.Sort.OwnSortedInts
import Derived.Lib.SlicesCompact
namespace Go.Proofs.Ytmmhmbbfeecloaa.Su
open Go.Sort Go.ChangeShapes Go.WideShapes Go.ChangeAt Go.RowKit Rt Ro
/-- strictly rising lists with the same members are one list -/
theorem rise_one : ∀ (l1 l2 : List Int), l1.Pairwise (· < ·) → l2.Pairwise (· < ·) → (∀ x, x ∈ l1 ↔ x ∈ l2) → l1 = l2
  | [], [], _, _, _ => rfl
  | [], b :: l2, _, _, h => absurd ((h b).2 (List.mem_cons_self)) (by simp)
  | a :: l1, [], _, _, h => absurd ((h a).1 (List.mem_cons_self)) (by simp)
  | a :: l1, b :: l2, h1, h2, h => by
    have p1 := List.pairwise_cons.1 h1
    have p2 := List.pairwise_cons.1 h2
    have e : a = b := by
      rcases List.mem_cons.1 ((h a).1 List.mem_cons_self) with x | x
      · exact x
      · rcases List.mem_cons.1 ((h b).2 List.mem_cons_self) with y | y
        · exact y.symm
        · have := p1.1 b y
          have := p2.1 a x
          omega
    subst e
    refine congrArg (a :: ·) (rise_one l1 l2 p1.2 p2.2 fun x => ?_)
    constructor
    · intro hx
      rcases List.mem_cons.1 ((h x).1 (List.mem_cons_of_mem _ hx)) with y | y
      · subst y; exact absurd (p1.1 _ hx) (by omega)
      · exact y
    · intro hx
      rcases List.mem_cons.1 ((h x).2 (List.mem_cons_of_mem _ hx)) with y | y
      · subst y; exact absurd (p2.1 _ hx) (by omega)
      · exact y
def srt (L : List Int) : List Int := L.mergeSort fun x y => decide (x ≤ y)
theorem srt_perm (L : List Int) : (srt L).Perm L := List.mergeSort_perm _ _
theorem srt_le (L : List Int) : (srt L).Pairwise (· ≤ ·) := (List.pairwise_mergeSort (le := fun x y : Int => decide (x ≤ y)) (fun a b c h1 h2 => by simp at h1 h2 ⊢; omega) (fun a b => by simp; omega) L).imp (fun h => by simpa using h)
theorem at_getD (S : List Int) (i : Nat) : S.toArray[i]! = S.getD i 0 := by
  by_cases h : i < S.length
  · simp [List.getD_eq_getElem?_getD, h]
  · simp [List.getD_eq_getElem?_getD, h]
theorem rise_compact (S : List Int) (h : S.Pairwise (· ≤ ·)) : (Lib.compact S).Pairwise (· < ·) := by
  unfold Lib.compact Lib.compactUpTo
  rw [List.pairwise_map]
  refine (List.Pairwise.filter _ List.pairwise_lt_range).imp_of_mem ?_
  intro i j hi hj hij
  have hjn := List.mem_range.1 (List.mem_filter.1 hj).1
  have hk := (List.mem_filter.1 hj).2
  have hle := List.pairwise_iff_getElem.1 h i (j - 1) (by omega) (by omega)
  have hle2 := List.pairwise_iff_getElem.1 h (j - 1) j (by omega) hjn (by omega)
  have hne : S.toArray[j]! ≠ S.toArray[j - 1]! := by
    intro e
    rw [Lib.keeps_neg (by omega) e] at hk
    exact absurd hk (by decide)
  rw [at_getD, at_getD] at hne ⊢
  have gi : S.getD i 0 = S[i]'(by omega) := by simp [List.getD_eq_getElem?_getD, List.getElem?_eq_getElem (show i < S.length by omega)]
  have gj : S.getD j 0 = S[j]'hjn := by simp [List.getD_eq_getElem?_getD, List.getElem?_eq_getElem hjn]
  have gk : S.getD (j - 1) 0 = S[j - 1]'(by omega) := by simp [List.getD_eq_getElem?_getD, List.getElem?_eq_getElem (show j - 1 < S.length by omega)]
  rw [gj, gk] at hne
  rw [gi, gj]
  by_cases e : i = j - 1
  · subst e; omega
  · have := hle (by omega)
    omega
theorem compact_mem (S : List Int) (x : Int) : x ∈ Lib.compact S ↔ x ∈ S := by
  unfold Lib.compact Lib.compactUpTo
  rw [List.mem_map]
  constructor
  · rintro ⟨j, hj, rfl⟩
    have hjn := List.mem_range.1 (List.mem_filter.1 hj).1
    rw [at_getD]
    simp [List.getD_eq_getElem?_getD, List.getElem?_eq_getElem hjn]
  · intro hx
    obtain ⟨i, hi, he⟩ := List.getElem_of_mem hx
    -- the first place
    have key : ∀ i, i < S.length → S.getD i 0 = x → ∃ j, j < S.length ∧ S.getD j 0 = x ∧ Lib.keeps S.toArray j = true := by
      intro i
      induction i with
      | zero => exact fun h e => ⟨0, h, e, Lib.keeps_lt_one _ 0 (by omega)⟩
      | succ i ih =>
        intro h e
        by_cases c : S.getD i 0 = x
        · exact ih (by omega) c
        · refine ⟨i + 1, h, e, Lib.keeps_pos ?_⟩
          rw [at_getD, at_getD]
          show S.getD (i + 1) 0 ≠ S.getD i 0
          rw [e]
          exact fun q => c q.symm
    obtain ⟨j, h1, h2, h3⟩ := key i hi (by simp [List.getD_eq_getElem?_getD, List.getElem?_eq_getElem hi, he])
    exact ⟨j, List.mem_filter.2 ⟨List.mem_range.2 h1, h3⟩, by rw [at_getD]; exact h2⟩
abbrev ints (L : List Int) : List Value := L.map (Value.int .i64)
theorem srt_len (L : List Int) : (srt L).length = L.length := (srt_perm L).length_eq
theorem sort_any (L : List Int) (c : Nat) (w w0 : World) (B g : Nat) (hb : Below B w0 w) (h : w.ownsRow B 2 1 (.slice (some ⟨g, 0, none⟩) L.length c) L.length (ints L)) (hl : L.length ≤ 1000) :
    Calls Try.prog 34 #[.slice (some ⟨g, 0, none⟩) L.length c] w fun e w' => e = .returned (.tuple #[]) ∧ w'.ownsRow B 2 1 (.slice (some ⟨g, 0, none⟩) L.length c) L.length (ints (srt L)) ∧ Below B w0 w' := by
  rcases h.2 with ⟨h0, _⟩ | ⟨g', c', cur, hv, hbg, hh, hc, hm, hs, ht⟩
  · cases h0
  · simp at hv
    obtain ⟨rfl, rfl⟩ := hv
    have hg : g < w.heap.size := (Array.getElem?_eq_some_iff.1 hh).1
    refine (Try.slices_Sort_int g 0 c L w (holds_of_blockI hh (by simpa using ht)) hg (by omega)).mono ?_
    rintro e w' ⟨rfl, n, os, rfl⟩
    refine ⟨rfl, ?_, ?_⟩
    · exact ownsRow_sortedI (ss := L) (ts := srt L) (srt_len L) hbg hh hc hm hs
    · exact hb.grown (grownBy_sortedI _) (by omega) (fun k hk => by cases hk; exact hbg)
theorem comp_len (L : List Int) : (Lib.compact L).length ≤ L.length := by
  unfold Lib.compact Lib.compactUpTo
  rw [List.length_map]
  have := List.length_filter_le (Lib.keeps L.toArray) (List.range L.length)
  simpa using this
theorem compact_any (L : List Int) (c : Nat) (w w0 : World) (B g : Nat) (hb : Below B w0 w) (h : w.ownsRow B 2 1 (.slice (some ⟨g, 0, none⟩) L.length c) L.length (ints L)) (hl : L.length ≤ 1000) :
    Calls Try.prog 35 #[.slice (some ⟨g, 0, none⟩) L.length c] w fun e w' => e = .returned (.slice (some ⟨g, 0, none⟩) (Lib.compact L).length c) ∧ w'.ownsRow B 2 1 (.slice (some ⟨g, 0, none⟩) L.length c) L.length (ints (Lib.compact L ++ List.replicate (L.length - (Lib.compact L).length) 0)) ∧ Below B w0 w' := by
  rcases h.2 with ⟨h0, _⟩ | ⟨g', c', cur, hv, hbg, hh, hc, hm, hs, ht⟩
  · cases h0
  · simp at hv
    obtain ⟨rfl, rfl⟩ := hv
    have hg : g < w.heap.size := (Array.getElem?_eq_some_iff.1 hh).1
    have hcl := comp_len L
    refine (Try.slices_Compact_int g 0 c L w (holds_of_blockI hh (by simpa using ht)) (by omega) hc).mono ?_
    rintro e w' ⟨rfl, n, rfl⟩
    rw [← grow_empty (putRow _ _ _ _ _)]
    refine ⟨rfl, ?_, ?_⟩
    · exact ownsRow_sortedI (ss := L) (ts := Lib.compact L ++ List.replicate (L.length - (Lib.compact L).length) 0) (by simp; omega) hbg hh hc hm hs
    · exact hb.grown (grownBy_sortedI _) (by omega) (fun k hk => by cases hk; exact hbg)
def isS (L : Ls) (a : Int) : Bool := (List.range L.length).any (fun j => c1 L j == a)
def su (L : Ls) (m : Nat) : List Int := ((List.range m).map (fun (i : Nat) => 1 + (i : Int))).filter (isS L)
theorem su_next (L : Ls) (m : Nat) : su L (m + 1) = if isS L (1 + (m : Int)) = true then su L m ++ [1 + (m : Int)] else su L m := by
  unfold su
  rw [List.range_succ, List.map_append, List.filter_append]
  simp only [List.map_cons, List.map_nil, List.filter_cons, List.filter_nil]
  split <;> simp
theorem su_len (L : Ls) (m : Nat) : (su L m).length ≤ m := by
  have := List.length_filter_le (isS L) ((List.range m).map (fun (i : Nat) => 1 + (i : Int)))
  simpa [su] using this
theorem su_rise (L : Ls) (m : Nat) : (su L m).Pairwise (· < ·) := by
  unfold su
  refine List.Pairwise.filter _ ?_
  rw [List.pairwise_map]
  exact List.pairwise_lt_range.imp (fun h => by omega)
theorem isS_iff (L : Ls) (a : Int) : isS L a = true ↔ ∃ j, j < L.length ∧ c1 L j = a := by
  unfold isS
  rw [List.any_eq_true]
  constructor
  · rintro ⟨j, hj, h⟩; exact ⟨j, List.mem_range.1 hj, by simpa using h⟩
  · rintro ⟨j, hj, h⟩; exact ⟨j, List.mem_range.2 hj, by simpa using h⟩
theorem su_mem (L : Ls) (m : Nat) (x : Int) : x ∈ su L m ↔ 1 ≤ x ∧ x < 1 + m ∧ isS L x = true := by
  unfold su
  rw [List.mem_filter, List.mem_map]
  constructor
  · rintro ⟨⟨i, hi, rfl⟩, h2⟩
    have := List.mem_range.1 hi
    exact ⟨by omega, by omega, h2⟩
  · rintro ⟨h1, h2, h3⟩
    exact ⟨⟨(x - 1).toNat, List.mem_range.2 (by omega), by omega⟩, h3⟩
/-- the second figures -/
def sn (L : Ls) (k : Nat) : List Int := (List.range k).map (c1 L)
theorem sn_len (L : Ls) (k : Nat) : (sn L k).length = k := by simp [sn]
theorem sn_next (L : Ls) (k : Nat) : sn L (k + 1) = sn L k ++ [c1 L k] := by
  unfold sn
  rw [List.range_succ, List.map_append]; rfl
theorem subs_one {L : Ls} (h : Ok L) : Lib.compact (srt (sn L L.length)) = su L 1000 := by
  refine rise_one _ _ (rise_compact _ (srt_le _)) (su_rise _ _) fun x => ?_
  rw [compact_mem, (srt_perm _).mem_iff, su_mem, isS_iff]
  unfold sn
  rw [List.mem_map]
  constructor
  · rintro ⟨j, hj, rfl⟩
    have hj' := List.mem_range.1 hj
    have := (Al.inn_iff _ _ _).1 (h.2 j hj').1.2.2
    exact ⟨by omega, by omega, j, hj', rfl⟩
  · rintro ⟨_, _, j, hj, e⟩
    exact ⟨j, List.mem_range.2 hj, e⟩
theorem su_small {L : Ls} (h : Ok L) : (su L 1000).length ≤ 60 := by
  rw [← subs_one h]
  have := comp_len (srt (sn L L.length))
  rw [srt_len, sn_len] at this
  exact Nat.le_trans this h.1
end Go.Proofs.Ytmmhmbbfeecloaa.Su
