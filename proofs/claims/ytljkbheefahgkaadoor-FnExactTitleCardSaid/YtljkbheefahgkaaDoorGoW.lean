/- The words of a text, by its bytes and by its runes: the same. -/
import Derived.Test.YtljkbheefahgkaaDoorBas
import Derived.Lib.FieldsP
namespace Go.Proofs.YtljkbheefahgkaaDoor.Ru
open Go.RowKit

def blk (b : Nat) : Bool := b == 32 || b == 10
/-- what stands behind i bytes: where the word under way begins, the words that are done -/
def stB (s : ByteArray) : Nat → Option Nat × List (Nat × Nat)
  | 0 => (none, [])
  | i + 1 => if blk (bt s i) then (none, match (stB s i).1 with | some a => (stB s i).2 ++ [(a, i)] | none => (stB s i).2) else (some ((stB s i).1.getD i), (stB s i).2)
def spansB (s : ByteArray) : List (Nat × Nat) := Lib.closeSpans s ((stB s s.size).2, (stB s s.size).1)
def wordsB (s : ByteArray) : List ByteArray := (spansB s).map fun x => s.extract x.1 x.2

theorem stB_run (s : ByteArray) (i : Nat) : ∀ d, (∀ j, j < d → 128 ≤ bt s (i + j)) → 0 < d → stB s (i + d) = (some ((stB s i).1.getD i), (stB s i).2) := by
  intro d
  induction d with
  | zero => intro _ h; omega
  | succ d ih =>
    intro h _
    have hn : blk (bt s (i + d)) = false := by
      have := h d (by omega)
      unfold blk
      simp
      omega
    have e : stB s (i + (d + 1)) = if blk (bt s (i + d)) then (none, match (stB s (i + d)).1 with | some a => (stB s (i + d)).2 ++ [(a, i + d)] | none => (stB s (i + d)).2) else (some ((stB s (i + d)).1.getD (i + d)), (stB s (i + d)).2) := rfl
    rw [e, hn]
    by_cases c : d = 0
    · subst c
      rfl
    · rw [ih (fun j hj => h j (by omega)) (by omega)]
      rfl

theorem wide (s : ByteArray) (p : Nat) (h : 128 ≤ bt s p) : ∀ j, j < wd s p → 128 ≤ bt s (p + j) := by
  intro j hj
  by_cases j0 : j = 0
  · subst j0; exact h
  rcases first_of s p with h1 | h1 | ⟨n, low, b, M⟩
  · omega
  · have := (rn_bad (dec_none h1)).2
    omega
  · by_cases hk : okc s p (n - 1)
    · by_cases hg : good low (acc s p (bt s p - b) (n - 1))
      · have := (many_good M hk rfl hg).2
        have y := okc_more hk j (by omega)
        obtain ⟨m, rfl⟩ : ∃ m, j = m + 1 := ⟨j - 1, by omega⟩
        exact y.2.2.1
      · have := (many_wrong M rfl hg).2
        omega
    · have := (rn_bad (M.dec.2 (fun x => hk x.1))).2
      omega
theorem narrow (s : ByteArray) (p : Nat) (h : bt s p < 128) : wd s p = 1 ∧ (Utf8.decode s p).1 = bt s p := by
  unfold wd
  rw [dec_one h]
  exact ⟨rfl, rfl⟩

theorem spans_from (s : ByteArray) : ∀ (f p : Nat), p ≤ s.size → s.size - p ≤ f → Lib.spansFromP blk s f p (stB s p).1 (stB s p).2 = ((stB s s.size).2, (stB s s.size).1) := by
  intro f
  induction f with
  | zero =>
    intro p h1 h2
    have : p = s.size := by omega
    subst this
    rfl
  | succ f ih =>
    intro p h1 h2
    unfold Lib.spansFromP
    by_cases hp : p < s.size
    · rw [if_pos hp]
      have W := wd_in s p hp
      have ew : (Utf8.decode s p).2 = wd s p := rfl
      rw [ew]
      have IH := ih (p + wd s p) W.2.2 (by omega)
      rcases ascii_or s p hp with ⟨a1, a2⟩ | ⟨a1, a2⟩
      · have n1 := (narrow s p a1).1
        rw [n1] at IH ⊢
        rw [a2]
        have e : stB s (p + 1) = if blk (bt s p) then (none, match (stB s p).1 with | some a => (stB s p).2 ++ [(a, p)] | none => (stB s p).2) else (some ((stB s p).1.getD p), (stB s p).2) := rfl
        rw [e] at IH
        by_cases hb : blk (bt s p) = true
        · rw [if_pos hb] at IH ⊢
          cases hst : (stB s p).1 with
          | none => rw [hst] at IH; exact IH
          | some a => rw [hst] at IH; exact IH
        · rw [if_neg hb] at IH ⊢
          cases hst : (stB s p).1 with
          | none => rw [hst] at IH; exact IH
          | some a => rw [hst] at IH; exact IH
      · have hb : ¬ blk (Utf8.decode s p).1 = true := by
          unfold blk
          simp
          omega
        rw [if_neg hb]
        rw [stB_run s p (wd s p) (wide s p a1) (by omega)] at IH
        cases hst : (stB s p).1 with
        | none => rw [hst] at IH; exact IH
        | some a => rw [hst] at IH; exact IH
    · rw [if_neg hp]
      have : p = s.size := by omega
      subst this
      rfl
theorem words_same (s : ByteArray) : Lib.goFieldsP blk s = wordsB s := by
  unfold Lib.goFieldsP wordsB Lib.spansOfP spansB
  have := spans_from s s.size 0 (Nat.zero_le _) (by omega)
  rw [← this]
  rfl

/-- how much all words take, one more for each -/
def bnd (l : List ByteArray) : Nat := (l.map fun x => x.size + 1).sum
theorem bnd_snoc (l : List ByteArray) (x : ByteArray) : bnd (l ++ [x]) = bnd l + (x.size + 1) := by simp [bnd]
def exts (s : ByteArray) (l : List (Nat × Nat)) : List ByteArray := l.map fun x => s.extract x.1 x.2
theorem ext_le (s : ByteArray) (a b : Nat) : (s.extract a b).size ≤ b - a := by
  rw [ByteArray.size_extract]
  have := Nat.min_le_left b s.size
  omega
theorem stB_bnd (s : ByteArray) (i : Nat) : bnd (exts s (stB s i).2) ≤ (stB s i).1.getD i ∧ (stB s i).1.getD i ≤ i := by
  induction i with
  | zero => exact ⟨Nat.zero_le _, Nat.le_refl _⟩
  | succ i ih =>
    have e : stB s (i + 1) = if blk (bt s i) then (none, match (stB s i).1 with | some a => (stB s i).2 ++ [(a, i)] | none => (stB s i).2) else (some ((stB s i).1.getD i), (stB s i).2) := rfl
    rw [e]
    by_cases hb : blk (bt s i) = true
    · rw [if_pos hb]
      cases hst : (stB s i).1 with
      | none =>
        rw [hst] at ih
        exact ⟨Nat.le_succ_of_le ih.1, Nat.le_refl _⟩
      | some a =>
        rw [hst] at ih
        refine ⟨?_, Nat.le_refl _⟩
        show bnd (exts s ((stB s i).2 ++ [(a, i)])) ≤ i + 1
        unfold exts
        rw [List.map_append]
        show bnd (exts s (stB s i).2 ++ [s.extract a i]) ≤ i + 1
        rw [bnd_snoc]
        have := ext_le s a i
        have i1 : bnd (exts s (stB s i).2) ≤ a := ih.1
        have i2 : a ≤ i := ih.2
        omega
    · rw [if_neg hb]
      exact ⟨ih.1, Nat.le_succ_of_le ih.2⟩
theorem words_bnd (s : ByteArray) : bnd (wordsB s) ≤ s.size + 1 := by
  have h := stB_bnd s s.size
  unfold wordsB spansB Lib.closeSpans
  cases hst : (stB s s.size).1 with
  | none =>
    rw [hst] at h
    exact Nat.le_succ_of_le h.1
  | some a =>
    rw [hst] at h
    show bnd (((stB s s.size).2 ++ [(a, s.size)]).map fun x => s.extract x.1 x.2) ≤ _
    rw [List.map_append]
    show bnd (exts s (stB s s.size).2 ++ [s.extract a s.size]) ≤ _
    rw [bnd_snoc]
    have := ext_le s a s.size
    have i1 : bnd (exts s (stB s s.size).2) ≤ a := h.1
    have i2 : a ≤ s.size := h.2
    omega
end Go.Proofs.YtljkbheefahgkaaDoor.Ru
