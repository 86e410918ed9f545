/- What was cleaned is cleaned to itself; what was made upper is made upper to itself: plain. -/
import Derived.Test.YtpehoakdhbicfaaDoorCl
import Derived.Test.YtpehoakdhbicfaaDoorPos
namespace Go.Proofs.YtpehoakdhbicfaaDoor.Ru
open Go.RowKit

theorem same_many {s t : ByteArray} {p q n low b : Nat} (M : Many s p n low b) (M' : Many t q n low b) (hb : ¬ bad s p) (hq : q + wd s p ≤ t.size)
    (e : ∀ i, i < wd s p → bt t (q + i) = bt s (p + i)) : Utf8.decode t q = Utf8.decode s p := by
  have Q : okc s p (n - 1) ∧ good low (acc s p (bt s p - b) (n - 1)) := Classical.byContradiction fun h => hb (M.dec.2 h)
  have hd := M.dec.1 Q
  have hn : wd s p = n := by unfold wd; rw [hd]
  rw [hn] at hq e
  have h2 := M.two
  have A : ∀ m, m < n → acc t q (bt t q - b) m = acc s p (bt s p - b) m := by
    intro m
    induction m with
    | zero => intro h; have h0 : bt t q = bt s p := e 0 h; show bt t q - b = bt s p - b; rw [h0]
    | succ m ih => intro h; show acc t q (bt t q - b) m * 64 + bt t (q + (m + 1)) - 128 = acc s p (bt s p - b) m * 64 + bt s (p + (m + 1)) - 128; rw [ih (by omega), e (m + 1) h]
  have K : ∀ m, m < n → okc s p m → okc t q m := by
    intro m
    induction m with
    | zero => intro _ _; trivial
    | succ m ih =>
      intro h hk
      refine ⟨ih (by omega) hk.1, by omega, ?_⟩
      rw [e (m + 1) h]
      exact hk.2.2
  have hA := A (n - 1) (by omega)
  rw [hd, M'.dec.1 ⟨K (n - 1) (by omega) Q.1, by rw [hA]; exact Q.2⟩, hA]

theorem dec_same {s t : ByteArray} {p q : Nat} (hb : ¬ bad s p) (hp : p < s.size) (hq : q + wd s p ≤ t.size)
    (e : ∀ i, i < wd s p → bt t (q + i) = bt s (p + i)) : Utf8.decode t q = Utf8.decode s p := by
  have hw := wd_in s p hp
  have e0 : bt t q = bt s p := by have := e 0 (by omega); simpa using this
  have hl := bt_lt s p
  by_cases h1 : bt s p < 128
  · rw [dec_one h1, dec_one (s := t) (p := q) (by omega), e0]
  by_cases h2 : bt s p < 192
  · exact absurd (dec_none (Or.inl ⟨by omega, h2⟩)) hb
  by_cases h3 : bt s p < 224
  · exact same_many (many_two (by omega) h3) (many_two (by omega) (by omega)) hb hq e
  by_cases h4 : bt s p < 240
  · exact same_many (many_three (by omega) h4) (many_three (by omega) (by omega)) hb hq e
  by_cases h5 : bt s p < 248
  · exact same_many (many_four (by omega) h5) (many_four (by omega) (by omega)) hb hq e
  · exact absurd (dec_none (Or.inr (by omega))) hb

/-- a piece that stays as it is -/
def T1 (x : List UInt8) : Prop := 0 < x.length ∧ ¬ bad ⟨x.toArray⟩ 0 ∧ wd ⟨x.toArray⟩ 0 = x.length ∧ (Utf8.decode ⟨x.toArray⟩ 0).1 ≠ 13 ∧ ¬ hid (Utf8.decode ⟨x.toArray⟩ 0).1
inductive Tidy : List UInt8 → Prop
  | nil : Tidy []
  | snoc {l x : List UInt8} : Tidy l → T1 x → Tidy (l ++ x)

theorem size_mk (l : List UInt8) : (⟨l.toArray⟩ : ByteArray).size = l.length := by simp [ByteArray.size]
theorem bt_mk (l : List UInt8) (i : Nat) (h : i < l.length) : bt ⟨l.toArray⟩ i = (l[i]).toNat := by
  rw [← bt_at _ i (by rw [size_mk]; exact h)]
  rfl
theorem bt_mid (l x post : List UInt8) (i : Nat) (h : i < x.length) : bt ⟨(l ++ x ++ post).toArray⟩ (l.length + i) = bt ⟨x.toArray⟩ i := by
  rw [bt_mk _ _ (by simp; omega), bt_mk _ _ h]
  congr 1
  rw [List.getElem_append_left (by simp; omega), List.getElem_append_right (by omega)]
  simp
theorem mk_self (b : ByteArray) : (⟨(b.data.toList).toArray⟩ : ByteArray) = b := by cases b; simp
theorem mk_ext (s : ByteArray) (p n : Nat) : (⟨((s.extract p n).data.toList).toArray⟩ : ByteArray) = s.extract p n := mk_self _
theorem bt_ext (s : ByteArray) (p n i : Nat) (h : p + n ≤ s.size) (hi : i < n) : bt (s.extract p (p + n)) i = bt s (p + i) := by
  rw [← bt_at _ i (by rw [ext_size s p n h]; exact hi), ← bt_at s (p + i) (by omega), ext_at s p n i h hi]

theorem cl_tidy (s : ByteArray) (p : Nat) (hp : p < s.size) : cl s p = [] ∨ T1 (cl s p) := by
  by_cases h : bad s p
  · rw [cl_bad h]; exact Or.inr (by unfold T1 bad hid wd; decide)
  by_cases h2 : (Utf8.decode s p).1 = 13
  · exact Or.inl (cl_cr h h2)
  by_cases h3 : hid (Utf8.decode s p).1
  · rw [cl_hid h h2 h3]; exact Or.inr (by unfold T1 bad hid wd; decide)
  · have hw := wd_in s p hp
    refine Or.inr ?_
    rw [cl_own h h2 h3]
    have hd : Utf8.decode (s.extract p (p + wd s p)) 0 = Utf8.decode s p := dec_same h hp (by rw [ext_size s p _ hw.2.2]; omega) fun i hi => by
      rw [Nat.zero_add, bt_ext s p _ i hw.2.2 hi]
    unfold T1
    rw [mk_ext]
    refine ⟨?_, ?_, ?_, ?_, ?_⟩
    · rw [len_data, ext_size s p _ hw.2.2]; omega
    · show ¬ Utf8.decode _ _ = _
      rw [hd]; exact h
    · rw [len_data, ext_size s p _ hw.2.2]
      show (Utf8.decode _ _).2 = _
      rw [hd]; rfl
    · rw [hd]; exact h2
    · rw [hd]; exact h3
theorem outs_tidy {s : ByteArray} {k : Nat} (h : lows s k) : Tidy (outs s k) := by
  induction k with
  | zero => exact Tidy.nil
  | succ k ih =>
    have a := ih fun j hj => h j (by omega)
    show Tidy (outs s k ++ cl s (pos s k))
    rcases cl_tidy s (pos s k) (h k (by omega)) with e | e
    · rw [e, List.append_nil]; exact a
    · exact Tidy.snoc a e
theorem ext_mid (l x post : List UInt8) : ((⟨(l ++ x ++ post).toArray⟩ : ByteArray).extract l.length (l.length + x.length)).data.toList = x := by
  simp

theorem tidy_out {l : List UInt8} (h : Tidy l) : ∀ post, ∃ m, lows ⟨(l ++ post).toArray⟩ m ∧ pos ⟨(l ++ post).toArray⟩ m = l.length ∧ outs ⟨(l ++ post).toArray⟩ m = l := by
  induction h with
  | nil => intro post; exact ⟨0, lows_zero _, rfl, rfl⟩
  | @snoc l x hl hx ih =>
    intro post
    obtain ⟨m, h1, h2, h3⟩ := ih (x ++ post)
    rw [← List.append_assoc] at h1 h2 h3
    obtain ⟨x0, xb, xw, x13, xh⟩ := hx
    have hd : Utf8.decode ⟨(l ++ x ++ post).toArray⟩ l.length = Utf8.decode ⟨x.toArray⟩ 0 :=
      dec_same xb (by rw [size_mk]; exact x0) (by rw [xw, size_mk]; simp only [List.length_append]; omega) fun i hi => by
        rw [Nat.zero_add]; exact bt_mid l x post i (by omega)
    have hw : wd ⟨(l ++ x ++ post).toArray⟩ l.length = x.length := by unfold wd; rw [hd]; exact xw
    refine ⟨m + 1, lows_succ h1 (by rw [h2, size_mk]; simp only [List.length_append]; omega), ?_, ?_⟩
    · show pos _ m + wd _ (pos _ m) = _
      rw [h2, hw, List.length_append]
    · show outs _ m ++ cl _ (pos _ m) = _
      rw [h2, h3, cl_own (by show ¬ Utf8.decode _ _ = _; rw [hd]; exact xb) (by rw [hd]; exact x13) (by rw [hd]; exact xh), hw, ext_mid]

theorem clean_again {s : ByteArray} {k m : Nat} (hk : Ends s k) (hm : Ends ⟨(outs s k).toArray⟩ m) : outs ⟨(outs s k).toArray⟩ m = outs s k := by
  obtain ⟨m', h1, h2, h3⟩ := tidy_out (outs_tidy hk.2) []
  rw [List.append_nil] at h1 h2 h3
  have : m = m' := ends_one hm ⟨by rw [h2, size_mk]; omega, h1⟩
  rw [this, h3]
theorem cl_le (s : ByteArray) (p : Nat) (hp : p < s.size) : (cl s p).length ≤ wd s p := by
  have hw := wd_in s p hp
  by_cases h : bad s p
  · rw [cl_bad h]; simp; omega
  by_cases h2 : (Utf8.decode s p).1 = 13
  · rw [cl_cr h h2]; simp
  by_cases h3 : hid (Utf8.decode s p).1
  · rw [cl_hid h h2 h3]; simp; omega
  · rw [cl_own h h2 h3, len_data, ext_size s p _ hw.2.2]; exact Nat.le_refl _
theorem outs_le {s : ByteArray} {k : Nat} (h : lows s k) : (outs s k).length ≤ pos s k := by
  induction k with
  | zero => simp [outs]
  | succ k ih =>
    have := cl_le s (pos s k) (h k (by omega))
    have := ih (fun j hj => h j (by omega))
    simp only [outs, List.length_append, pos]
    omega
end Go.Proofs.YtpehoakdhbicfaaDoor.Ru

namespace Go.Proofs.YtpehoakdhbicfaaDoor.Uq
open Go.Proofs.YtpehoakdhbicfaaDoor.Ru
open Go.RowKit

/-- a byte that stays as it is -/
def up1 (c : UInt8) : Prop := c.toNat < 128 ∧ ¬ (97 ≤ c.toNat ∧ c.toNat ≤ 122)
instance (c : UInt8) : Decidable (up1 c) := by unfold up1; infer_instance
theorem upb_up : ∀ c : Nat, c < 128 → up1 (upb c) := by
  intro c h
  unfold up1 upb
  by_cases k : 97 ≤ c ∧ c ≤ 122
  · rw [if_pos k]
    have : (UInt8.ofNat (c - 32)).toNat = c - 32 := by simp; omega
    omega
  · rw [if_neg k]
    have : (UInt8.ofNat c).toNat = c := by simp; omega
    omega
theorem plain_up (r : Nat) : ∀ c, c ∈ plain r → up1 c := by
  unfold plain
  repeat' split
  all_goals decide
theorem ol_up (s : ByteArray) (p : Nat) : ∀ c, c ∈ ol s p → up1 c := by
  intro c h
  unfold ol at h
  split at h
  · rename_i k
    simp at h
    rw [h]
    exact upb_up _ k
  · exact plain_up _ c h
theorem outs_up (s : ByteArray) (k : Nat) : ∀ c, c ∈ outs s k → up1 c := by
  induction k with
  | zero => intro c h; simp [outs] at h
  | succ k ih =>
    intro c h
    simp only [outs, List.mem_append] at h
    rcases h with h | h
    · exact ih c h
    · exact ol_up _ _ c h
theorem bt_in {l : List UInt8} (h : ∀ c, c ∈ l → up1 c) (i : Nat) (hi : i < l.length) : up1 (l[i]) := h _ (List.getElem_mem hi)
theorem upb_same {c : UInt8} (h : up1 c) : upb c.toNat = c := by
  unfold upb
  rw [if_neg h.2]
  simp
theorem up_take (l : List UInt8) (h : ∀ c, c ∈ l → up1 c) : ∀ m, m ≤ l.length → lows ⟨l.toArray⟩ m ∧ pos ⟨l.toArray⟩ m = m ∧ outs ⟨l.toArray⟩ m = l.take m := by
  intro m
  induction m with
  | zero => intro _; exact ⟨lows_zero _, rfl, by simp [outs]⟩
  | succ m ih =>
    intro hm
    obtain ⟨h1, h2, h3⟩ := ih (by omega)
    have hu := bt_in h m (by omega)
    have hb : bt ⟨l.toArray⟩ m = (l[m]'(by omega)).toNat := Ru.bt_mk l m (by omega)
    have hd : Utf8.decode ⟨l.toArray⟩ m = (bt ⟨l.toArray⟩ m, 1) := dec_one (by rw [hb]; exact hu.1)
    refine ⟨lows_succ h1 (by rw [h2, Ru.size_mk]; omega), ?_, ?_⟩
    · show pos _ m + wd _ (pos _ m) = _
      rw [h2]; unfold wd; rw [hd]
    · show outs _ m ++ ol _ (pos _ m) = _
      rw [h2, h3]
      unfold ol
      rw [if_pos (by rw [hb]; exact hu.1), hb, upb_same hu, List.take_succ_eq_append_getElem (by omega)]
theorem up_again {s : ByteArray} {k m : Nat} (hm : Ends ⟨(outs s k).toArray⟩ m) : outs ⟨(outs s k).toArray⟩ m = outs s k := by
  obtain ⟨h1, h2, h3⟩ := up_take (outs s k) (outs_up s k) (outs s k).length (Nat.le_refl _)
  have : m = (outs s k).length := ends_one hm ⟨by rw [h2, Ru.size_mk]; omega, h1⟩
  rw [this, h3, List.take_length]
theorem ol_le (s : ByteArray) (p : Nat) (hp : p < s.size) : (ol s p).length ≤ wd s p := by
  have hw := wd_in s p hp
  unfold ol
  split
  · simp; omega
  · rename_i h
    rcases wide_or_bad (s := s) (p := p) (by omega) with e | e
    · have : Utf8.decode s p = (65533, 1) := e
      rw [this]
      have h1 : (plain 65533).length = 1 := by decide
      show (plain 65533).length ≤ _
      omega
    · have := plain_size (Utf8.decode s p).1
      omega
theorem outs_le {s : ByteArray} {k : Nat} (h : lows s k) : (outs s k).length ≤ pos s k := by
  induction k with
  | zero => simp [outs]
  | succ k ih =>
    have := ol_le s (pos s k) (h k (by omega))
    have := ih (fun j hj => h j (by omega))
    simp only [outs, List.length_append, pos]
    omega
end Go.Proofs.YtpehoakdhbicfaaDoor.Uq
