/- Texts by their runes: what the language's own reading of a place of a text tells, in the bytes that stand there. -/
import Derived.Test.YtpehoakdhbicfaaDoorRows
import Derived.Laws.RangeAny
import Derived.WalkKit
namespace Go.Proofs.YtpehoakdhbicfaaDoor.Ru
open Go.RowKit

def bt (s : ByteArray) (k : Nat) : Nat := (s.get! k).toNat
theorem bt_lt (s : ByteArray) (k : Nat) : bt s k < 256 := (s.get! k).toNat_lt
theorem bt_at (s : ByteArray) (k : Nat) (h : k < s.size) : (s[k]'h).toNat = bt s k := by
  unfold bt
  rw [← get_at s k h]
  rfl

/-- a byte that goes on -/
def co (s : ByteArray) (k : Nat) : Prop := k < s.size ∧ 128 ≤ bt s k ∧ bt s k < 192

def acc (s : ByteArray) (p r : Nat) : Nat → Nat
  | 0 => r
  | m + 1 => acc s p r m * 64 + bt s (p + (m + 1)) - 128
def okc (s : ByteArray) (p : Nat) : Nat → Prop
  | 0 => True
  | m + 1 => okc s p m ∧ co s (p + (m + 1))

def good (low A : Nat) : Prop := low ≤ A ∧ A ≤ 1114111 ∧ ¬ (55296 ≤ A ∧ A < 57344)

abbrev bad (s : ByteArray) (p : Nat) : Prop := Utf8.decode s p = (65533, 1)
def rn (s : ByteArray) (p : Nat) : Int := if bad s p then -1 else ((Utf8.decode s p).1 : Int)
def wd (s : ByteArray) (p : Nat) : Nat := (Utf8.decode s p).2

theorem rn_bad {s : ByteArray} {p : Nat} (h : bad s p) : rn s p = -1 ∧ wd s p = 1 := by
  unfold rn wd
  rw [if_pos h]
  exact ⟨rfl, by rw [show Utf8.decode s p = (65533, 1) from h]⟩
theorem rn_good {s : ByteArray} {p r n : Nat} (h : Utf8.decode s p = (r, n)) (hn : r ≠ 65533 ∨ n ≠ 1) : rn s p = r ∧ wd s p = n := by
  have hb : ¬ bad s p := by
    show ¬ Utf8.decode s p = (65533, 1)
    rw [h]
    intro e
    simp at e
    omega
  unfold rn wd
  rw [if_neg hb, h]
  exact ⟨rfl, rfl⟩

theorem dec_one {s : ByteArray} {p : Nat} (h : bt s p < 128) : Utf8.decode s p = (bt s p, 1) := by
  unfold bt at h ⊢
  simp only [Utf8.decode, Nat.add_zero]
  rw [if_pos h]
theorem dec_none {s : ByteArray} {p : Nat} (h : (128 ≤ bt s p ∧ bt s p < 192) ∨ 248 ≤ bt s p) : bad s p := by
  have hl := bt_lt s p
  show Utf8.decode s p = (65533, 1)
  unfold bt at h hl
  simp only [Utf8.decode, Nat.add_zero]
  have c1 : ((s.get! p).toNat / 32 == 6) = false := by simp; omega
  have c2 : ((s.get! p).toNat / 16 == 14) = false := by simp; omega
  have c3 : ((s.get! p).toNat / 8 == 30) = false := by simp; omega
  rw [if_neg (by omega)]
  simp [c1, c2, c3, Utf8.runeError]

theorem cont_yes {s : ByteArray} {p k : Nat} (h : co s (p + k)) : (decide (p + k < s.size) && (s.get! (p + k)).toNat / 64 == 2) = true := by
  have h1 := h.2
  unfold bt at h1
  rw [decide_eq_true h.1, show (s.get! (p + k)).toNat / 64 = 2 by omega]
  rfl
theorem cont_no {s : ByteArray} {p k : Nat} (h : ¬ co s (p + k)) : (decide (p + k < s.size) && (s.get! (p + k)).toNat / 64 == 2) = false := by
  by_cases h1 : p + k < s.size
  · have h2 : ¬ (s.get! (p + k)).toNat / 64 = 2 := by
      intro e
      refine h ⟨h1, ?_⟩
      unfold bt
      omega
    rw [decide_eq_true h1]
    simp [h2]
  · rw [decide_eq_false h1]
    rfl
theorem valid_iff (A : Nat) : Utf8.valid (A : Int) = true ↔ A ≤ 1114111 ∧ ¬ (55296 ≤ A ∧ A < 57344) := by
  unfold Utf8.valid
  simp only [Bool.or_eq_true, Bool.and_eq_true, decide_eq_true_eq]
  omega
def by' (Q : Prop) (x : Nat × Nat) (e : Nat × Nat) : Prop := (Q → e = x) ∧ (¬ Q → e = (65533, 1))
theorem by_wrong {Q : Prop} {x e : Nat × Nat} (hQ : ¬ Q) (h : e = (65533, 1)) : by' Q x e := ⟨fun q => absurd q hQ, fun _ => h⟩
theorem by_right {Q : Prop} {x e : Nat × Nat} (hQ : Q) (h : e = x) : by' Q x e := ⟨fun _ => h, fun n => absurd hQ n⟩

theorem end_of (K : Prop) (low n A : Nat) (hk : K) :
    by' (K ∧ good low A) (A, n) (if (decide (A ≥ low) && Utf8.valid (A : Int)) = true then (A, n) else (Utf8.runeError, 1)) := by
  have hv := valid_iff A
  by_cases hg : good low A
  · refine by_right ⟨hk, hg⟩ ?_
    rw [hv.2 hg.2, decide_eq_true hg.1]
    rfl
  · refine by_wrong (fun x => hg x.2) ?_
    by_cases l : low ≤ A
    · have v : Utf8.valid (A : Int) = false := by
        rw [← Bool.not_eq_true]
        exact fun x => hg ⟨l, hv.1 x⟩
      rw [v, Bool.and_false]
      rfl
    · rw [decide_eq_false l]
      rfl

theorem dec_two {s : ByteArray} {p : Nat} (h1 : 192 ≤ bt s p) (h2 : bt s p < 224) :
    by' (okc s p 1 ∧ good 128 (acc s p (bt s p - 192) 1)) (acc s p (bt s p - 192) 1, 2) (Utf8.decode s p) := by
  have e0 : (s.get! p).toNat = bt s p := rfl
  have c1 : (bt s p / 32 == 6) = true := by rw [show bt s p / 32 = 6 by omega]; rfl
  have c2 : (bt s p / 16 == 14) = false := by rw [beq_eq_false_iff_ne]; omega
  have c3 : (bt s p / 8 == 30) = false := by rw [beq_eq_false_iff_ne]; omega
  have n0 : ¬ bt s p < 128 := by omega
  simp only [Utf8.decode, Nat.add_zero, e0, c1, c2, c3, if_neg n0]
  by_cases h : co s (p + 1)
  · have e1 : (s.get! (p + 1)).toNat = bt s (p + 1) := rfl
    have hc := h.2
    have k1 := cont_yes h
    simp only [k1]
    simp only [e1]
    have ea : acc s p (bt s p - 192) 1 = bt s p % 32 * 64 + bt s (p + 1) % 64 := by
      show (bt s p - 192) * 64 + bt s (p + 1) - 128 = _
      omega
    rw [ea]
    have hb : bt s p % 32 * 64 + bt s (p + 1) % 64 ≤ 2047 := by omega
    generalize bt s p % 32 * 64 + bt s (p + 1) % 64 = A at hb ⊢
    by_cases hA : 128 ≤ A
    · refine by_right ⟨⟨trivial, h⟩, hA, by omega, by omega⟩ ?_
      simp [hA]
    · refine by_wrong (fun x => hA x.2.1) ?_
      simp [hA, Utf8.runeError]
  · have k1 := cont_no h
    refine by_wrong (fun x => h x.1.2) ?_
    simp only [k1]
    simp [Utf8.runeError]

theorem dec_three {s : ByteArray} {p : Nat} (h1 : 224 ≤ bt s p) (h2 : bt s p < 240) :
    by' (okc s p 2 ∧ good 2048 (acc s p (bt s p - 224) 2)) (acc s p (bt s p - 224) 2, 3) (Utf8.decode s p) := by
  have e0 : (s.get! p).toNat = bt s p := rfl
  have c1 : (bt s p / 32 == 6) = false := by rw [beq_eq_false_iff_ne]; omega
  have c2 : (bt s p / 16 == 14) = true := by rw [show bt s p / 16 = 14 by omega]; rfl
  have c3 : (bt s p / 8 == 30) = false := by rw [beq_eq_false_iff_ne]; omega
  have n0 : ¬ bt s p < 128 := by omega
  simp only [Utf8.decode, Nat.add_zero, e0, c1, c2, c3, if_neg n0]
  by_cases h : co s (p + 1)
  · have k1 := cont_yes h
    by_cases h' : co s (p + 2)
    · have k2 := cont_yes h'
      have e1 : (s.get! (p + 1)).toNat = bt s (p + 1) := rfl
      have e2 : (s.get! (p + 2)).toNat = bt s (p + 2) := rfl
      have hc := h.2
      have hc' := h'.2
      simp only [k1, k2]
      simp only [e1, e2]
      have ea : acc s p (bt s p - 224) 2 = bt s p % 16 * 4096 + bt s (p + 1) % 64 * 64 + bt s (p + 2) % 64 := by
        show ((bt s p - 224) * 64 + bt s (p + 1) - 128) * 64 + bt s (p + 2) - 128 = _
        omega
      rw [ea]
      simp only [Bool.false_and, Bool.and_true, if_true, Bool.false_eq_true, if_false]
      exact end_of _ 2048 3 _ ⟨⟨trivial, h⟩, h'⟩
    · have k2 := cont_no h'
      refine by_wrong (fun x => h' x.1.2) ?_
      simp only [k1, k2]
      simp [Utf8.runeError]
  · have k1 := cont_no h
    refine by_wrong (fun x => h x.1.1.2) ?_
    simp only [k1]
    simp [Utf8.runeError]

theorem dec_four {s : ByteArray} {p : Nat} (h1 : 240 ≤ bt s p) (h2 : bt s p < 248) :
    by' (okc s p 3 ∧ good 65536 (acc s p (bt s p - 240) 3)) (acc s p (bt s p - 240) 3, 4) (Utf8.decode s p) := by
  have e0 : (s.get! p).toNat = bt s p := rfl
  have c1 : (bt s p / 32 == 6) = false := by rw [beq_eq_false_iff_ne]; omega
  have c2 : (bt s p / 16 == 14) = false := by rw [beq_eq_false_iff_ne]; omega
  have c3 : (bt s p / 8 == 30) = true := by rw [show bt s p / 8 = 30 by omega]; rfl
  have n0 : ¬ bt s p < 128 := by omega
  simp only [Utf8.decode, Nat.add_zero, e0, c1, c2, c3, if_neg n0]
  by_cases h : co s (p + 1)
  · have k1 := cont_yes h
    by_cases h' : co s (p + 2)
    · have k2 := cont_yes h'
      by_cases h'' : co s (p + 3)
      · have k3 := cont_yes h''
        have e1 : (s.get! (p + 1)).toNat = bt s (p + 1) := rfl
        have e2 : (s.get! (p + 2)).toNat = bt s (p + 2) := rfl
        have e3 : (s.get! (p + 3)).toNat = bt s (p + 3) := rfl
        have hc := h.2
        have hc' := h'.2
        have hc'' := h''.2
        simp only [k1, k2, k3]
        simp only [e1, e2, e3]
        have ea : acc s p (bt s p - 240) 3 = bt s p % 8 * 262144 + bt s (p + 1) % 64 * 4096 + bt s (p + 2) % 64 * 64 + bt s (p + 3) % 64 := by
          show (((bt s p - 240) * 64 + bt s (p + 1) - 128) * 64 + bt s (p + 2) - 128) * 64 + bt s (p + 3) - 128 = _
          omega
        rw [ea]
        simp only [Bool.and_true, if_true, Bool.false_eq_true, if_false]
        exact end_of _ 65536 4 _ ⟨⟨⟨trivial, h⟩, h'⟩, h''⟩
      · have k3 := cont_no h''
        refine by_wrong (fun x => h'' x.1.2) ?_
        simp only [k1, k2, k3]
        simp [Utf8.runeError]
    · have k2 := cont_no h'
      refine by_wrong (fun x => h' x.1.1.2) ?_
      simp only [k1, k2]
      simp [Utf8.runeError]
  · have k1 := cont_no h
    refine by_wrong (fun x => h x.1.1.1.2) ?_
    simp only [k1]
    simp [Utf8.runeError]

/-- what a first byte of many asks: how many bytes, the least number, and what it holds itself -/
structure Many (s : ByteArray) (p n low b : Nat) : Prop where
  base : b ≤ bt s p
  dec : by' (okc s p (n - 1) ∧ good low (acc s p (bt s p - b) (n - 1))) (acc s p (bt s p - b) (n - 1), n) (Utf8.decode s p)
  small : bt s p - b < 32
  two : 2 ≤ n
  four : n ≤ 4
theorem many_two {s : ByteArray} {p : Nat} (h1 : 192 ≤ bt s p) (h2 : bt s p < 224) : Many s p 2 128 192 := ⟨h1, dec_two h1 h2, by omega, by omega, by omega⟩
theorem many_three {s : ByteArray} {p : Nat} (h1 : 224 ≤ bt s p) (h2 : bt s p < 240) : Many s p 3 2048 224 := ⟨h1, dec_three h1 h2, by omega, by omega, by omega⟩
theorem many_four {s : ByteArray} {p : Nat} (h1 : 240 ≤ bt s p) (h2 : bt s p < 248) : Many s p 4 65536 240 := ⟨h1, dec_four h1 h2, by omega, by omega, by omega⟩

theorem acc_bd (s : ByteArray) (p r : Nat) (h : r < 32) : ∀ m, m ≤ 3 → acc s p r m ≤ 20000000 := by
  intro m hm
  have a : acc s p r 0 = r := rfl
  have b : acc s p r 1 = acc s p r 0 * 64 + bt s (p + 1) - 128 := rfl
  have c : acc s p r 2 = acc s p r 1 * 64 + bt s (p + 2) - 128 := rfl
  have d : acc s p r 3 = acc s p r 2 * 64 + bt s (p + 3) - 128 := rfl
  have l1 := bt_lt s (p + 1)
  have l2 := bt_lt s (p + 2)
  have l3 := bt_lt s (p + 3)
  match m, hm with
  | 0, _ => omega
  | 1, _ => omega
  | 2, _ => omega
  | 3, _ => omega
theorem okc_more {s : ByteArray} {p m : Nat} (h : okc s p m) : ∀ k, k ≤ m → okc s p k := by
  induction m with
  | zero => intro k hk; rw [Nat.le_zero.1 hk]; exact h
  | succ m ih =>
    intro k hk
    by_cases e : k = m + 1
    · subst e; exact h
    · exact ih h.1 k (by omega)

theorem many_bad {s : ByteArray} {p n low b m : Nat} (M : Many s p n low b) (h1 : 1 ≤ m) (h2 : m < n) (h : ¬ co s (p + m)) : rn s p = -1 ∧ wd s p = 1 := by
  have hk : ¬ okc s p (n - 1) := fun x => by
    have y := okc_more x m (by omega)
    match m, h1, y, h with
    | m + 1, _, y, h => exact h y.2
  exact rn_bad (M.dec.2 (fun x => hk x.1))
theorem many_wrong {s : ByteArray} {p n low b A : Nat} (M : Many s p n low b) (hA : acc s p (bt s p - b) (n - 1) = A) (h : ¬ good low A) : rn s p = -1 ∧ wd s p = 1 := by
  subst hA
  exact rn_bad (M.dec.2 (fun x => h x.2))
theorem many_good {s : ByteArray} {p n low b A : Nat} (M : Many s p n low b) (hk : okc s p (n - 1)) (hA : acc s p (bt s p - b) (n - 1) = A) (h : good low A) : rn s p = A ∧ wd s p = n := by
  subst hA
  exact rn_good (M.dec.1 ⟨hk, h⟩) (.inr (by have := M.two; omega))

theorem first_of (s : ByteArray) (p : Nat) : bt s p < 128 ∨ ((128 ≤ bt s p ∧ bt s p < 192) ∨ 248 ≤ bt s p) ∨ ∃ n low b, Many s p n low b := by
  by_cases h1 : bt s p < 128
  · exact .inl h1
  by_cases h2 : bt s p < 192
  · exact .inr (.inl (.inl ⟨by omega, h2⟩))
  by_cases h3 : bt s p < 224
  · exact .inr (.inr ⟨_, _, _, many_two (by omega) h3⟩)
  by_cases h4 : bt s p < 240
  · exact .inr (.inr ⟨_, _, _, many_three (by omega) h4⟩)
  by_cases h5 : bt s p < 248
  · exact .inr (.inr ⟨_, _, _, many_four (by omega) h5⟩)
  exact .inr (.inl (.inr (by omega)))

/-- a rune has one to four bytes, all within the text -/
theorem wd_in (s : ByteArray) (p : Nat) (h : p < s.size) : 1 ≤ wd s p ∧ wd s p ≤ 4 ∧ p + wd s p ≤ s.size := by
  rcases first_of s p with h1 | h1 | ⟨n, low, b, M⟩
  · have : wd s p = 1 := by unfold wd; rw [dec_one h1]
    omega
  · have := (rn_bad (dec_none h1)).2
    omega
  · have h2 := M.two
    have h4 := M.four
    by_cases hk : okc s p (n - 1)
    · by_cases hg : good low (acc s p (bt s p - b) (n - 1))
      · have := (many_good M hk rfl hg).2
        have hin : p + (n - 1) < s.size := by
          obtain ⟨m, hm⟩ : ∃ m, n - 1 = m + 1 := ⟨n - 2, by omega⟩
          rw [hm] at hk ⊢
          exact hk.2.1
        omega
      · have := (many_wrong M rfl hg).2
        omega
    · have := (rn_bad (M.dec.2 (fun x => hk x.1))).2
      omega
end Go.Proofs.YtpehoakdhbicfaaDoor.Ru
