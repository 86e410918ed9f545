/- A word cut into pieces of so many runes; lines filled word by word: plain. -/
import Derived.Test.YtljkbheefahgkaaDoorGoW
import Derived.Test.YtljkbheefahgkaaDoorRws
namespace Go.Proofs.YtljkbheefahgkaaDoor.Ru
open Go.RowKit

def cntF (s : ByteArray) : Nat → Nat → Nat
  | 0, k => k
  | f + 1, k => if pos s k < s.size then cntF s f (k + 1) else k
/-- how many runes a text has -/
def cnt (s : ByteArray) : Nat := cntF s s.size 0
theorem cntF_ends (s : ByteArray) : ∀ f k, lows s k → s.size - pos s k ≤ f → Ends s (cntF s f k) := by
  intro f
  induction f with
  | zero =>
    intro k h1 h2
    exact ⟨by show ¬ pos s k < s.size; omega, h1⟩
  | succ f ih =>
    intro k h1 h2
    unfold cntF
    by_cases h : pos s k < s.size
    · rw [if_pos h]
      have := wd_in s (pos s k) h
      exact ih (k + 1) (lows_succ h1 h) (by show s.size - (pos s k + wd s (pos s k)) ≤ f; omega)
    · rw [if_neg h]
      exact ⟨h, h1⟩
theorem cnt_ends (s : ByteArray) : Ends s (cnt s) := cntF_ends s s.size 0 (lows_zero s) (by show s.size - 0 ≤ s.size; omega)
theorem ends_cnt {s : ByteArray} {k : Nat} (h : Ends s k) : k = cnt s := ends_one h (cnt_ends s)
theorem pos_cnt (s : ByteArray) : pos s (cnt s) = s.size := by
  have a := cnt_ends s
  have b := pos_ge a.2
  have c := a.1
  omega
theorem cnt_le (s : ByteArray) : cnt s ≤ s.size := by
  have := pos_ge (cnt_ends s).2
  rw [pos_cnt] at this
  exact this.1
theorem pos_up (s : ByteArray) {j k : Nat} (h : j ≤ k) : pos s j ≤ pos s k := by
  induction k with
  | zero => rw [Nat.le_zero.1 h]; exact Nat.le_refl _
  | succ k ih =>
    by_cases e : j = k + 1
    · rw [e]; exact Nat.le_refl _
    · exact Nat.le_trans (ih (by omega)) (Nat.le_add_right _ _)
theorem pos_in (s : ByteArray) {k : Nat} (h : k ≤ cnt s) : pos s k ≤ s.size := by
  have := pos_up s h
  rw [pos_cnt] at this
  exact this

/-- the bytes from one rune on up to another -/
def seg (s : ByteArray) (a b : Nat) : ByteArray := s.extract (pos s a) (pos s b)
/-- the pieces of a word from a rune on, and how many runes the last one has -/
def chf (s : ByteArray) (w c : Nat) : Nat → Nat → List ByteArray × Nat
  | 0, a => ([seg s a c], c - a)
  | f + 1, a => if c ≤ a + w then ([seg s a c], c - a) else (seg s a (a + w) :: (chf s w c f (a + w)).1, (chf s w c f (a + w)).2)
def chs (s : ByteArray) (w : Nat) : List ByteArray × Nat := chf s w (cnt s) (cnt s) 0
theorem chf_last (s : ByteArray) (w c f a : Nat) (h : c ≤ a + w) : chf s w c f a = ([seg s a c], c - a) := by
  cases f with
  | zero => rfl
  | succ f => unfold chf; rw [if_pos h]
theorem chf_more (s : ByteArray) (w c f a : Nat) (h : ¬ c ≤ a + w) (hf : c - a ≤ f) (hw : 1 ≤ w) : ∃ g, c - (a + w) ≤ g ∧ chf s w c f a = (seg s a (a + w) :: (chf s w c g (a + w)).1, (chf s w c g (a + w)).2) := by
  cases f with
  | zero => omega
  | succ f =>
    refine ⟨f, by omega, ?_⟩
    conv => lhs; unfold chf
    rw [if_neg h]
theorem seg_le (s : ByteArray) (a b : Nat) (hb : b ≤ cnt s) : (seg s a b).size ≤ s.size := by
  have := ext_le s (pos s a) (pos s b)
  have := pos_in s hb
  unfold seg
  omega
theorem chf_len (s : ByteArray) (w c : Nat) (hw : 1 ≤ w) : ∀ f a, (chf s w c f a).1.length ≤ c - a + 1 ∧ (chf s w c f a).2 ≤ c - a := by
  intro f
  induction f with
  | zero => intro a; exact ⟨by show 1 ≤ _; omega, Nat.le_refl _⟩
  | succ f ih =>
    intro a
    unfold chf
    split
    · exact ⟨by show 1 ≤ _; omega, Nat.le_refl _⟩
    · have := ih (a + w)
      refine ⟨?_, ?_⟩
      · show (chf s w c f (a + w)).1.length + 1 ≤ _
        omega
      · show (chf s w c f (a + w)).2 ≤ _
        omega
theorem chf_size (s : ByteArray) (w c : Nat) (hc : c ≤ cnt s) : ∀ f a, ∀ x ∈ (chf s w c f a).1, x.size ≤ s.size := by
  intro f
  induction f with
  | zero =>
    intro a x hx
    rw [List.mem_singleton.1 hx]
    exact seg_le s a c hc
  | succ f ih =>
    intro a x hx
    unfold chf at hx
    split at hx
    · rw [List.mem_singleton.1 hx]
      exact seg_le s a c hc
    · rename_i h
      rcases List.mem_cons.1 hx with hx | hx
      · rw [hx]
        exact seg_le s a (a + w) (by omega)
      · exact ih (a + w) x hx
theorem chf_room (s : ByteArray) (w c : Nat) (hw : 1 ≤ w) : ∀ f a, c - a ≤ f → (chf s w c f a).2 ≤ w := by
  intro f
  induction f with
  | zero => intro a h; show c - a ≤ w; omega
  | succ f ih =>
    intro a h
    unfold chf
    split
    · show c - a ≤ w; omega
    · exact ih (a + w) (by omega)
theorem chf_one (s : ByteArray) (w c f a : Nat) (hf : c - a ≤ f) (hw : 1 ≤ w) : (chf s w c f a).1.length = 1 ↔ c ≤ a + w := by
  by_cases h : c ≤ a + w
  · rw [chf_last s w c f a h]
    exact ⟨fun _ => h, fun _ => rfl⟩
  · obtain ⟨g, hg, e⟩ := chf_more s w c f a h hf hw
    rw [e]
    refine ⟨fun x => ?_, fun x => absurd x h⟩
    exfalso
    have : 1 ≤ (chf s w c g (a + w)).1.length := by
      cases g with
      | zero => exact Nat.le_refl _
      | succ g =>
        unfold chf
        split
        · exact Nat.le_refl _
        · exact Nat.succ_le_succ (Nat.zero_le _)
    have x' : (chf s w c g (a + w)).1.length + 1 = 1 := x
    omega

/-- a word more: into the last line where it has room, else on lines of its own -/
def fst1 (w : Nat) (st : List ByteArray × Nat) (x : ByteArray) : List ByteArray × Nat :=
  if 0 < st.1.length ∧ cnt x + 1 ≤ st.2 then (st.1.set (st.1.length - 1) (st.1.getD (st.1.length - 1) emp ++ ⟨#[32]⟩ ++ x), st.2 - (cnt x + 1))
  else (st.1 ++ (chs x w).1, w - (chs x w).2)
def fld (w : Nat) (l : List ByteArray) : List ByteArray × Nat := l.foldl (fst1 w) ([], 0)
theorem fld_snoc (w : Nat) (l : List ByteArray) (x : ByteArray) : fld w (l ++ [x]) = fst1 w (fld w l) x := by simp [fld]

structure FInv (w : Nat) (l : List ByteArray) : Prop where
  len : (fld w l).1.length ≤ bnd l
  size : ∀ x ∈ (fld w l).1, x.size ≤ bnd l
  room : (fld w l).2 ≤ w
  zero : (fld w l).1.length = 0 → (fld w l).2 = 0
theorem chs_pos (x : ByteArray) (w : Nat) : 0 < (chs x w).1.length := by
  unfold chs
  cases cnt x with
  | zero => exact Nat.le_refl _
  | succ n =>
    unfold chf
    split
    · exact Nat.le_refl _
    · exact Nat.succ_le_succ (Nat.zero_le _)
theorem finv (w : Nat) (hw : 1 ≤ w) (l : List ByteArray) : FInv w l := by
  rw [← List.reverse_reverse l]
  induction l.reverse with
  | nil => exact ⟨Nat.zero_le _, fun x hx => (by cases hx), Nat.zero_le _, fun _ => rfl⟩
  | cons x r ih =>
    rw [List.reverse_cons]
    generalize r.reverse = m at ih ⊢
    have b := bnd_snoc m x
    have cl := cnt_le x
    have k1 := chf_len x w (cnt x) hw (cnt x) 0
    have k2 := chf_size x w (cnt x) (Nat.le_refl _) (cnt x) 0
    have k3 := chs_pos x w
    obtain ⟨i1, i2, i3, i4⟩ := ih
    have e := fld_snoc w m x
    unfold fst1 at e
    by_cases c : 0 < (fld w m).1.length ∧ cnt x + 1 ≤ (fld w m).2
    · rw [if_pos c] at e
      refine ⟨?_, ?_, ?_, ?_⟩
      · rw [e]; simp only [List.length_set]; omega
      · intro y hy
        rw [e] at hy
        rcases List.mem_or_eq_of_mem_set hy with h | h
        · have := i2 y h; omega
        · rw [h, ByteArray.size_append, ByteArray.size_append]
          have hl : (fld w m).1.length - 1 < (fld w m).1.length := by omega
          have hm : (fld w m).1.getD ((fld w m).1.length - 1) emp ∈ (fld w m).1 := by
            rw [List.getD_eq_getElem?_getD, List.getElem?_eq_getElem hl]
            exact List.getElem_mem hl
          have := i2 _ hm
          have s1 : (⟨#[32]⟩ : ByteArray).size = 1 := rfl
          omega
      · rw [e]; show (fld w m).2 - (cnt x + 1) ≤ w; omega
      · rw [e]; simp only [List.length_set]; omega
    · rw [if_neg c] at e
      refine ⟨?_, ?_, ?_, ?_⟩
      · rw [e]
        show ((fld w m).1 ++ (chs x w).1).length ≤ _
        have k1' : (chs x w).1.length ≤ cnt x - 0 + 1 := k1.1
        rw [List.length_append]
        omega
      · intro y hy
        rw [e] at hy
        rcases List.mem_append.1 hy with h | h
        · have := i2 y h; omega
        · have := k2 y h; omega
      · rw [e]; show w - (chs x w).2 ≤ w; omega
      · rw [e]
        intro h
        have h' : ((fld w m).1 ++ (chs x w).1).length = 0 := h
        rw [List.length_append] at h'
        omega
end Go.Proofs.YtljkbheefahgkaaDoor.Ru
