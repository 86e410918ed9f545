/- What lines that were filled say: no line is empty, none too long, and together they say the text but for blanks. -/
import Derived.Test.YtchdhiojhdoenaaGoN
namespace Go.Proofs.Ytchdhiojhdoenaa.Ru
open Go.RowKit

def nb (b : UInt8) : Bool := !(b == 32 || b == 10)
def bareL (l : List UInt8) : List UInt8 := l.filter nb
def cat (L : List ByteArray) : List UInt8 := L.flatMap (·.data.toList)
theorem bare_app (a b : List UInt8) : bareL (a ++ b) = bareL a ++ bareL b := by simp [bareL]
theorem cat_app (a b : List ByteArray) : cat (a ++ b) = cat a ++ cat b := by simp [cat]
theorem cat_one (x : ByteArray) : cat [x] = x.data.toList := by simp [cat]

theorem cat_chf (x : ByteArray) (w : Nat) (hw : 1 ≤ w) : ∀ f a, a ≤ cnt x → cnt x - a ≤ f → cat (chf x w (cnt x) f a).1 = (seg x a (cnt x)).data.toList := by
  intro f
  induction f with
  | zero => intro a _ _; exact cat_one _
  | succ f ih =>
    intro a ha hf
    unfold chf
    split
    · exact cat_one _
    · rename_i h
      show cat (seg x a (a + w) :: (chf x w (cnt x) f (a + w)).1) = _
      have : cat (seg x a (a + w) :: (chf x w (cnt x) f (a + w)).1) = (seg x a (a + w)).data.toList ++ cat (chf x w (cnt x) f (a + w)).1 := by simp [cat]
      rw [this, ih (a + w) (by omega) (by omega), ← seg_join x a (a + w) (cnt x) (by omega) (by omega)]
theorem seg_all (x : ByteArray) : (seg x 0 (cnt x)).data.toList = x.data.toList := by
  unfold seg
  rw [pos_cnt, ext_dat]
  show (x.data.toList.drop 0).take (x.size - 0) = _
  rw [List.drop_zero, List.take_of_length_le (by simp)]
theorem cat_chs (x : ByteArray) (w : Nat) (hw : 1 ≤ w) : cat (chs x w).1 = x.data.toList := by
  unfold chs
  rw [cat_chf x w hw (cnt x) 0 (Nat.zero_le _) (by omega), seg_all]

theorem snoc_of {L : List ByteArray} (h : 0 < L.length) : ∃ I, L = I ++ [L.getD (L.length - 1) emp] ∧ ∀ y, L.set (L.length - 1) y = I ++ [y] := by
  refine ⟨L.take (L.length - 1), ?_, fun y => ?_⟩
  · have := take_snoc L (L.length - 1) (by omega)
    rw [show L.length - 1 + 1 = L.length by omega, List.take_length] at this
    exact this
  · rw [List.set_eq_take_append_cons_drop, if_pos (by omega), show L.length - 1 + 1 = L.length by omega, List.drop_length]

theorem bare_fld (w : Nat) (hw : 1 ≤ w) (l : List ByteArray) : bareL (cat (fld w l).1) = bareL (cat l) := by
  rw [← List.reverse_reverse l]
  induction l.reverse with
  | nil => rfl
  | cons x r ih =>
    rw [List.reverse_cons]
    generalize r.reverse = m at ih ⊢
    rw [fld_snoc, cat_app, bare_app, ← ih, cat_one]
    unfold fst1
    split
    · rename_i h
      obtain ⟨I, e1, e2⟩ := snoc_of h.1
      show bareL (cat ((fld w m).1.set _ _)) = _
      rw [e2]
      conv => rhs; rw [e1]
      rw [cat_app, cat_app, bare_app, bare_app, cat_one, cat_one, List.append_assoc]
      congr 1
      rw [ByteArray.data_append, ByteArray.data_append, Array.toList_append, Array.toList_append, bare_app, bare_app]
      have : bareL (⟨#[32]⟩ : ByteArray).data.toList = [] := by decide
      rw [this, List.append_nil]
    · show bareL (cat ((fld w m).1 ++ (chs x w).1)) = _
      rw [cat_app, bare_app, cat_chs x w hw]

theorem nb_blk (s : ByteArray) (i : Nat) (h : i < s.size) : nb s[i] = !blk (bt s i) := by
  unfold nb blk
  rw [← bt_at s i h]
  have e1 : (s[i] == 32) = (s[i].toNat == 32) := by
    rw [Bool.eq_iff_iff]; simp [← UInt8.toNat_inj]
  have e2 : (s[i] == 10) = (s[i].toNat == 10) := by
    rw [Bool.eq_iff_iff]; simp [← UInt8.toNat_inj]
  rw [e1, e2]
/-- the word under way -/
def part (s : ByteArray) (i : Nat) (o : Option Nat) : List UInt8 := match o with | some a => (s.extract a i).data.toList | none => []
theorem ext_snoc (s : ByteArray) (a i : Nat) (ha : a ≤ i) (hi : i < s.size) : (s.extract a (i + 1)).data.toList = (s.extract a i).data.toList ++ [s[i]] := by
  rw [ext_join s a i (i + 1) ha (by omega)]
  congr 1
  rw [ext_dat, show i + 1 - i = 1 by omega, List.drop_eq_getElem_cons (by simpa using hi)]
  rfl
theorem bare_st (s : ByteArray) (i : Nat) (hi : i ≤ s.size) : bareL (s.data.toList.take i) = bareL (cat (exts s (stB s i).2) ++ part s i (stB s i).1) := by
  induction i with
  | zero => rfl
  | succ i ih =>
    have IH := ih (by omega)
    have hlt : i < s.data.toList.length := by
      have : s.data.toList.length = s.size := by simp
      omega
    rw [List.take_succ_eq_append_getElem hlt, bare_app, IH, stB_step]
    have hn := nb_blk s i (by omega)
    have eb : bareL [s.data.toList[i]] = if nb s[i] then [s[i]] else [] := by
      show bareL [s[i]] = _
      unfold bareL
      cases h : nb s[i] <;> simp [h]
    rw [eb, hn]
    have lt := (stB_lt s i (by omega)).1
    by_cases hb : blk (bt s i) = true
    · rw [if_pos hb, hb]
      cases hst : (stB s i).1 with
      | none => simp [part]
      | some a =>
        show _ = bareL (cat (exts s ((stB s i).2 ++ [(a, i)])) ++ [])
        have : exts s ((stB s i).2 ++ [(a, i)]) = exts s (stB s i).2 ++ [s.extract a i] := by simp [exts]
        rw [this, cat_app, cat_one, List.append_nil]
        simp [part]
    · have hb' : blk (bt s i) = false := by simpa using hb
      rw [if_neg hb, hb']
      cases hst : (stB s i).1 with
      | none =>
        show _ = bareL (cat (exts s (stB s i).2) ++ (s.extract i (i + 1)).data.toList)
        rw [ext_snoc s i i (Nat.le_refl _) (by omega)]
        have e0 : (s.extract i i).data.toList = [] := by rw [ext_dat]; simp
        rw [e0, bare_app, bare_app]
        simp [part, bareL, hn, hb']
      | some a =>
        have := lt a hst
        show _ = bareL (cat (exts s (stB s i).2) ++ (s.extract a (i + 1)).data.toList)
        rw [ext_snoc s a i (by omega) (by omega), ← List.append_assoc, bare_app]
        simp [part, bareL, hn, hb']
theorem bare_words (s : ByteArray) : bareL (cat (wordsB s)) = bareL s.data.toList := by
  have h := bare_st s s.size (Nat.le_refl _)
  rw [List.take_of_length_le (by simp)] at h
  rw [h]
  unfold wordsB spansB Lib.closeSpans
  cases hst : (stB s s.size).1 with
  | none => simp [part, exts]
  | some a =>
    show bareL (cat (((stB s s.size).2 ++ [(a, s.size)]).map fun x => s.extract x.1 x.2)) = _
    rw [List.map_append, cat_app]
    simp [part, exts, cat]
theorem bare_all (s : ByteArray) (w : Nat) (hw : 1 ≤ w) : bareL (cat (fld w (wordsB s)).1) = bareL s.data.toList := by
  rw [bare_fld w hw, bare_words]

theorem seg_pos (x : ByteArray) (a b : Nat) (h : a < b) (hb : b ≤ cnt x) : 0 < (seg x a b).size := by
  unfold seg
  have h1 : pos x a < x.size := (cnt_ends x).2 a (by omega)
  have h2 := pos_up x (show a + 1 ≤ b by omega)
  have h3 : pos x (a + 1) = pos x a + wd x (pos x a) := rfl
  have h4 := wd_in x (pos x a) h1
  have h5 := pos_in x hb
  rw [ByteArray.size_extract, Nat.min_eq_left h5]
  omega
theorem chf_pos (x : ByteArray) (w : Nat) (hw : 1 ≤ w) : ∀ f a, a < cnt x → cnt x - a ≤ f → ∀ y ∈ (chf x w (cnt x) f a).1, 0 < y.size := by
  intro f
  induction f with
  | zero => intro a h1 h2; omega
  | succ f ih =>
    intro a h1 h2 y hy
    unfold chf at hy
    split at hy
    · rw [List.mem_singleton.1 hy]
      exact seg_pos x a (cnt x) h1 (Nat.le_refl _)
    · rename_i h
      rcases List.mem_cons.1 hy with e | e
      · rw [e]
        exact seg_pos x a (a + w) (by omega) (by omega)
      · exact ih (a + w) (by omega) (by omega) y e
theorem fld_pos (w : Nat) (hw : 1 ≤ w) (l : List ByteArray) (hl : ∀ x ∈ l, 0 < x.size) : ∀ y ∈ (fld w l).1, 0 < y.size := by
  rw [← List.reverse_reverse l] at hl ⊢
  generalize l.reverse = q at hl ⊢
  induction q with
  | nil => intro y hy; cases hy
  | cons x r ih =>
    rw [List.reverse_cons] at hl ⊢
    have IH := ih (fun y hy => hl y (List.mem_append.2 (.inl hy)))
    have hx := hl x (by simp)
    rw [fld_snoc]
    unfold fst1
    split
    · intro y hy
      rcases List.mem_or_eq_of_mem_set hy with h | h
      · exact IH y h
      · rw [h, ByteArray.size_append, ByteArray.size_append]
        omega
    · intro y hy
      rcases List.mem_append.1 hy with h | h
      · exact IH y h
      · exact chf_pos x w hw (cnt x) 0 (cnt_pos x hx) (by omega) y h

def asc (s : ByteArray) : Prop := ∀ i, i < s.size → bt s i < 128
theorem asc_pos {x : ByteArray} (h : asc x) : ∀ k, k ≤ x.size → pos x k = k := by
  intro k
  induction k with
  | zero => intro _; rfl
  | succ k ih =>
    intro hk
    show pos x k + wd x (pos x k) = k + 1
    rw [ih (by omega), (narrow x k (h k (by omega))).1]
theorem asc_cnt {x : ByteArray} (h : asc x) : cnt x = x.size := by
  have e : Ends x x.size := ⟨by rw [asc_pos h x.size (Nat.le_refl _)]; omega, fun j hj => by rw [asc_pos h j (by omega)]; exact hj⟩
  exact (ends_cnt e).symm
theorem asc_seg {x : ByteArray} (h : asc x) (a b : Nat) (hab : a ≤ b) (hb : b ≤ cnt x) : (seg x a b).size = b - a := by
  have c := asc_cnt h
  unfold seg
  rw [asc_pos h a (by omega), asc_pos h b (by omega), ByteArray.size_extract, Nat.min_eq_left (by omega)]
theorem chf_asc {x : ByteArray} (h : asc x) (w : Nat) (hw : 1 ≤ w) : ∀ f a, a ≤ cnt x → cnt x - a ≤ f → (∀ y ∈ (chf x w (cnt x) f a).1, y.size ≤ w) ∧ ((chf x w (cnt x) f a).1.getD ((chf x w (cnt x) f a).1.length - 1) emp).size = (chf x w (cnt x) f a).2 := by
  intro f
  induction f with
  | zero =>
    intro a h1 h2
    refine ⟨fun y hy => ?_, ?_⟩
    · rw [List.mem_singleton.1 hy, asc_seg h a _ h1 (Nat.le_refl _)]; omega
    · show (seg x a (cnt x)).size = cnt x - a
      exact asc_seg h a _ h1 (Nat.le_refl _)
  | succ f ih =>
    intro a h1 h2
    unfold chf
    split
    · rename_i hc
      refine ⟨fun y hy => ?_, ?_⟩
      · rw [List.mem_singleton.1 hy, asc_seg h a _ h1 (Nat.le_refl _)]; omega
      · show (seg x a (cnt x)).size = cnt x - a
        exact asc_seg h a _ h1 (Nat.le_refl _)
    · rename_i hc
      obtain ⟨i1, i2⟩ := ih (a + w) (by omega) (by omega)
      refine ⟨fun y hy => ?_, ?_⟩
      · rcases List.mem_cons.1 hy with e | e
        · rw [e, asc_seg h a _ (by omega) (by omega)]; omega
        · exact i1 y e
      · show ((seg x a (a + w) :: (chf x w (cnt x) f (a + w)).1).getD ((chf x w (cnt x) f (a + w)).1.length + 1 - 1) emp).size = (chf x w (cnt x) f (a + w)).2
        rw [← i2]
        have hp : 0 < (chf x w (cnt x) f (a + w)).1.length := by
          cases f with
          | zero => exact Nat.le_refl _
          | succ f =>
            unfold chf
            split
            · exact Nat.le_refl _
            · exact Nat.succ_le_succ (Nat.zero_le _)
        congr 1
        obtain ⟨k, hk⟩ : ∃ k, (chf x w (cnt x) f (a + w)).1.length = k + 1 := ⟨_, (Nat.succ_pred_eq_of_pos hp).symm⟩
        rw [hk]
        rfl
theorem fld_asc (w : Nat) (hw : 1 ≤ w) (l : List ByteArray) (hl : ∀ x ∈ l, asc x) : (∀ y ∈ (fld w l).1, y.size ≤ w) ∧ (0 < (fld w l).1.length → ((fld w l).1.getD ((fld w l).1.length - 1) emp).size + (fld w l).2 = w) := by
  rw [← List.reverse_reverse l] at hl ⊢
  generalize l.reverse = q at hl ⊢
  induction q with
  | nil => exact ⟨fun y hy => (by cases hy), fun h => absurd h (Nat.lt_irrefl 0)⟩
  | cons x r ih =>
    rw [List.reverse_cons] at hl ⊢
    obtain ⟨i1, i2⟩ := ih (fun y hy => hl y (List.mem_append.2 (.inl hy)))
    have hx := hl x (by simp)
    have cx := asc_cnt hx
    rw [fld_snoc]
    unfold fst1
    split
    · rename_i h
      have I2 := i2 h.1
      generalize (fld w r.reverse) = st at *
      obtain ⟨L, room⟩ := st
      dsimp only at *
      have sz : (L.getD (L.length - 1) emp ++ ⟨#[32]⟩ ++ x).size = (L.getD (L.length - 1) emp).size + 1 + x.size := by
        rw [ByteArray.size_append, ByteArray.size_append]
        rfl
      refine ⟨fun y hy => ?_, fun _ => ?_⟩
      · rcases List.mem_or_eq_of_mem_set hy with e | e
        · exact i1 y e
        · rw [e, sz]; omega
      · rw [List.length_set, List.getD_eq_getElem?_getD, List.getElem?_set_self (by omega)]
        show (L.getD (L.length - 1) emp ++ ⟨#[32]⟩ ++ x).size + _ = w
        rw [sz]; omega
    · obtain ⟨c1, c2⟩ := chf_asc hx w hw (cnt x) 0 (Nat.zero_le _) (by omega)
      have cr := chf_room x w (cnt x) hw (cnt x) 0 (by omega)
      have cp := chs_pos x w
      generalize (fld w r.reverse) = st at *
      obtain ⟨L, room⟩ := st
      dsimp only at *
      have c1' : ∀ y ∈ (chs x w).1, y.size ≤ w := c1
      have c2' : ((chs x w).1.getD ((chs x w).1.length - 1) emp).size = (chs x w).2 := c2
      have cr' : (chs x w).2 ≤ w := cr
      refine ⟨fun y hy => ?_, fun _ => ?_⟩
      · rcases List.mem_append.1 hy with e | e
        · exact i1 y e
        · exact c1' y e
      · have e : (L ++ (chs x w).1).getD ((L ++ (chs x w).1).length - 1) emp = (chs x w).1.getD ((chs x w).1.length - 1) emp := by
          rw [List.getD_eq_getElem?_getD, List.getD_eq_getElem?_getD, List.length_append, List.getElem?_append_right (by omega)]
          congr 2
          omega
        rw [e, c2']
        omega
theorem bt_ext (s : ByteArray) (a b i : Nat) (hb : b ≤ s.size) (hi : i < (s.extract a b).size) : bt (s.extract a b) i = bt s (a + i) := by
  have h1 : i < b - a := by rw [ByteArray.size_extract, Nat.min_eq_left hb] at hi; exact hi
  rw [← bt_at _ i hi, ← bt_at s (a + i) (by omega)]
  congr 1
  exact ByteArray.getElem_extract ..
theorem asc_words (s : ByteArray) (h : asc s) : ∀ x ∈ wordsB s, asc x := by
  obtain ⟨h1, h2⟩ := stB_lt s s.size (Nat.le_refl _)
  have hall : ∀ p ∈ spansB s, p.1 < p.2 ∧ p.2 ≤ s.size := by
    unfold spansB Lib.closeSpans
    cases hst : (stB s s.size).1 with
    | none => exact h2
    | some a =>
      intro p hp
      rcases List.mem_append.1 hp with h | h
      · exact h2 p h
      · rw [List.mem_singleton.1 h]
        exact ⟨h1 a hst, Nat.le_refl _⟩
  intro x hx i hi
  obtain ⟨p, hp, rfl⟩ := List.mem_map.1 hx
  have hp' := hall p hp
  have hi' : i < (s.extract p.1 p.2).size := hi
  show bt (s.extract p.1 p.2) i < 128
  rw [bt_ext s p.1 p.2 i hp'.2 hi']
  rw [ByteArray.size_extract, Nat.min_eq_left hp'.2] at hi'
  exact h _ (by omega)
end Go.Proofs.Ytchdhiojhdoenaa.Ru
