/- A line cut at its blanks: the pieces, by a plain recursion; the library's own cut tells the same. -/
import Derived.Lib.SplitLaws
import Derived.Test.YtepofpmdkphhdaaDoorHok
namespace Go.Proofs.YtepofpmdkphhdaaDoor.Head
open Go.RowKit Mk Fig

def cutB (acc : List UInt8) : List UInt8 → List (List UInt8)
  | [] => [acc]
  | b :: l => if b = 32 then acc :: cutB [] l else cutB (acc ++ [b]) l

theorem cutB_len (l : List UInt8) : ∀ acc, (cutB acc l).length ≤ l.length + 1 := by
  induction l with
  | nil => intro acc; simp [cutB]
  | cons b l ih =>
    intro acc
    unfold cutB
    split
    · have := ih []
      simp
      omega
    · have := ih (acc ++ [b])
      simp
      omega

theorem index_blank (acc l : List UInt8) (h : ∀ b ∈ acc, b ≠ 32) : Lib.index (acc ++ 32 :: l) [32] = acc.length := by
  refine Lib.index_first (by simp) ?_ ?_
  · unfold Lib.occAt
    rw [List.drop_left]
    simp
  · intro j hj
    unfold Lib.occAt
    rw [List.drop_append_of_le_length (by omega), List.drop_eq_getElem_cons hj]
    have := h acc[j] (List.getElem_mem hj)
    show ((32 : UInt8) == acc[j] && List.isPrefixOf [] (List.drop (j + 1) acc ++ 32 :: l)) = false
    rw [beq_eq_false_iff_ne.2 (Ne.symm this)]
    rfl

theorem split_cut (l : List UInt8) : ∀ acc : List UInt8, (∀ b ∈ acc, b ≠ 32) → Lib.splitK [32] 0 (Lib.count (acc ++ l) [32]) (acc ++ l) = cutB acc l := by
  induction l with
  | nil =>
    intro acc h
    have c0 : Lib.count (acc ++ []) [32] = 0 := by
      rw [Lib.count_one, List.append_nil, List.count_eq_zero]
      exact fun e => h 32 e rfl
    rw [c0, List.append_nil]
    rfl
  | cons b l ih =>
    intro acc h
    by_cases e : b = 32
    · subst e
      have ca : Lib.count acc [32] = 0 := by
        rw [Lib.count_one, List.count_eq_zero]
        exact fun e => h 32 e rfl
      have c1 : Lib.count (acc ++ 32 :: l) [32] = Lib.count l [32] + 1 := by
        rw [Lib.count_one] at ca ⊢
        rw [Lib.count_one, List.count_append, ca, List.count_cons_self]
        omega
      have ix := index_blank acc l h
      have i0 := ih [] (fun b hb => by cases hb)
      rw [c1]
      show (if Lib.index (acc ++ 32 :: l) [32] == -1 then [acc ++ 32 :: l] else (acc ++ 32 :: l).take ((Lib.index (acc ++ 32 :: l) [32]).toNat + 0) :: Lib.splitK [32] 0 (Lib.count l [32]) ((acc ++ 32 :: l).drop ((Lib.index (acc ++ 32 :: l) [32]).toNat + 1))) = cutB acc (32 :: l)
      rw [ix, if_neg (by simp)]
      have e1 : ((acc.length : Int)).toNat = acc.length := by omega
      rw [e1, Nat.add_zero, List.take_left, show acc.length + 1 = acc.length + 1 from rfl, List.drop_append, List.nil_append] at *
      have e2 : acc.drop (acc.length + 1) = [] := List.drop_eq_nil_of_le (by omega)
      rw [e2, List.nil_append, show acc.length + 1 - acc.length = 1 by omega]
      show acc :: Lib.splitK [32] 0 (Lib.count l [32]) l = _
      rw [i0]
      conv => rhs; unfold cutB
      rw [if_pos rfl]
    · have := ih (acc ++ [b]) (fun x hx => by
        rcases List.mem_append.1 hx with hx | hx
        · exact h x hx
        · rw [List.mem_singleton.1 hx]; exact e)
      rw [List.append_assoc] at this
      show Lib.splitK [32] 0 (Lib.count (acc ++ ([b] ++ l)) [32]) (acc ++ ([b] ++ l)) = _
      rw [this]
      conv => rhs; unfold cutB
      rw [if_neg e]

/-- the pieces of a line -/
def pcs (s : ByteArray) : List ByteArray := (cutB [] s.data.toList).map fun l => ⟨l.toArray⟩
theorem pcs_len (s : ByteArray) : (pcs s).length ≤ s.size + 1 := by
  unfold pcs
  rw [List.length_map]
  have := cutB_len s.data.toList []
  simpa using this
theorem back (l : List ByteArray) : (l.map (·.data.toList)).map (fun x => (⟨x.toArray⟩ : ByteArray)) = l := by
  rw [List.map_map]
  conv => rhs; rw [← List.map_id l]
  apply List.map_congr_left
  intro x _
  show (⟨x.data.toList.toArray⟩ : ByteArray) = x
  simp
theorem split_pcs (s : ByteArray) : Lib.splitB ⟨#[32]⟩ 0 (Lib.countB s ⟨#[32]⟩) s = pcs s := by
  have h := Lib.splitB_data ⟨#[32]⟩ 0 (Lib.countB s ⟨#[32]⟩) s
  have h2 : Lib.splitK [32] 0 (Lib.countB s ⟨#[32]⟩) s.data.toList = cutB [] s.data.toList := split_cut s.data.toList [] (fun b hb => by cases hb)
  rw [← back (Lib.splitB ⟨#[32]⟩ 0 (Lib.countB s ⟨#[32]⟩) s), h]
  show (Lib.splitK [32] 0 (Lib.countB s ⟨#[32]⟩) s.data.toList).map _ = _
  rw [h2]
  rfl
theorem count_pcs (s : ByteArray) : Lib.countB s ⟨#[32]⟩ + 1 = (pcs s).length := by
  rw [← split_pcs s]
  exact (Lib.splitB_all ⟨#[32]⟩ (by decide) 0 _ s rfl).symm

/-- how far the model's own cut has come: what lies in the row, where the piece under way begins, the place -/
def PInv (s : ByteArray) (outs : List ByteArray) (f i : Nat) : Prop :=
  if i ≤ s.size then f ≤ i ∧ outs.length ≤ i ∧ outs.map (·.data.toList) ++ cutB (s.extract f i).data.toList (s.data.toList.drop i) = cutB [] s.data.toList
  else outs = pcs s
theorem PInv.zero (s : ByteArray) : PInv s [] 0 0 := by
  unfold PInv
  rw [if_pos (Nat.zero_le _)]
  refine ⟨Nat.le_refl _, Nat.le_refl _, ?_⟩
  have : s.extract 0 0 = ⟨#[]⟩ := by
    apply ByteArray.ext
    simp
  rw [this]
  rfl
theorem len_data (s : ByteArray) : s.data.toList.length = s.size := by simp
theorem ext_list (s : ByteArray) (f i : Nat) : (s.extract f i).data.toList = (s.data.toList.drop f).take (i - f) := Lib.extract_data s f i
theorem ext_more (s : ByteArray) (f i : Nat) (hf : f ≤ i) (hi : i < s.size) : (s.extract f (i + 1)).data.toList = (s.extract f i).data.toList ++ [s[i]] := by
  rw [ext_list, ext_list, show i + 1 - f = (i - f) + 1 by omega]
  have hl : i - f < (s.data.toList.drop f).length := by rw [List.length_drop, len_data]; omega
  rw [List.take_succ_eq_append_getElem hl, List.getElem_drop]
  congr 2
  have : f + (i - f) = i := by omega
  simp only [this]
  rfl
theorem drop_at (s : ByteArray) (i : Nat) (hi : i < s.size) : s.data.toList.drop i = s[i] :: s.data.toList.drop (i + 1) := by
  rw [List.drop_eq_getElem_cons (by rw [len_data]; exact hi)]
  rfl
theorem PInv.le {s : ByteArray} {outs : List ByteArray} {f i : Nat} (h : PInv s outs f i) (hi : i ≤ s.size) : f ≤ i ∧ outs.length ≤ i := by
  unfold PInv at h
  rw [if_pos hi] at h
  exact ⟨h.1, h.2.1⟩
theorem PInv.go {s : ByteArray} {outs : List ByteArray} {f i : Nat} (h : PInv s outs f i) (hi : i < s.size) (hb : s[i] ≠ 32) : PInv s outs f (i + 1) := by
  unfold PInv at h ⊢
  rw [if_pos (by omega)] at h
  rw [if_pos (by omega)]
  obtain ⟨h1, h2, h3⟩ := h
  refine ⟨by omega, by omega, ?_⟩
  rw [← h3, drop_at s i hi, ext_more s f i h1 hi]
  congr 1
  conv => rhs; unfold cutB
  rw [if_neg hb]
theorem ext_none (s : ByteArray) (i : Nat) : (s.extract i i).data.toList = [] := by
  rw [ext_list]
  simp
theorem PInv.cut {s : ByteArray} {outs : List ByteArray} {f i : Nat} (h : PInv s outs f i) (hi : i < s.size) (hb : s[i] = 32) : PInv s (outs ++ [s.extract f i]) (i + 1) (i + 1) := by
  unfold PInv at h ⊢
  rw [if_pos (by omega)] at h
  rw [if_pos (by omega)]
  obtain ⟨h1, h2, h3⟩ := h
  refine ⟨by omega, by simp; omega, ?_⟩
  rw [← h3, drop_at s i hi, ext_none, List.map_append, List.append_assoc]
  congr 1
  conv => rhs; unfold cutB
  rw [if_pos hb]
  rfl
theorem PInv.last {s : ByteArray} {outs : List ByteArray} {f : Nat} (h : PInv s outs f s.size) : PInv s (outs ++ [s.extract f s.size]) (s.size + 1) (s.size + 1) := by
  unfold PInv at h ⊢
  rw [if_pos (by omega)] at h
  rw [if_neg (by omega)]
  obtain ⟨h1, h2, h3⟩ := h
  have hd : s.data.toList.drop s.size = [] := List.drop_eq_nil_of_le (by rw [len_data]; omega)
  rw [hd] at h3
  unfold pcs
  rw [← h3]
  show _ = (List.map (·.data.toList) outs ++ [(s.extract f s.size).data.toList]).map _
  rw [List.map_append, back]
  congr 1
theorem PInv.done {s : ByteArray} {outs : List ByteArray} {f i : Nat} (h : PInv s outs f i) (hi : ¬ i ≤ s.size) : outs = pcs s := by
  unfold PInv at h
  rwa [if_neg hi] at h
end Go.Proofs.YtepofpmdkphhdaaDoor.Head
