/- A soil's text read again, plainly: pieces, figures, the library's own reading of a number. -/
import Derived.Test.YtgimdhdioigmiaaDoorStL
import Derived.Test.YtgimdhdioigmiaaDoorRhP
import Derived.Lib.ParseIntBCases
namespace Go.Proofs.YtgimdhdioigmiaaDoor.Rs
open Go.ChangeShapes Go.WideShapes Go.ChangeAt Go.RowKit
open Go.Proofs.YtgimdhdioigmiaaDoor.So Go.Proofs.YtgimdhdioigmiaaDoor.Dec Go.Proofs.YtgimdhdioigmiaaDoor.Head Go.Proofs.YtgimdhdioigmiaaDoor.Fig

def val (n : Nat) (l : List UInt8) : Nat := l.foldl (fun a b => a * 10 + (b.toNat - 48)) n
theorem val_app (n : Nat) (a b : List UInt8) : val n (a ++ b) = val (val n a) b := by simp [val, List.foldl_append]
theorem dec_val (n : Nat) : val 0 (Lib.decDigits n) = n ∧ (Lib.decDigits n).all isD = true := by
  induction n using Nat.strongRecOn with
  | _ n ih =>
    rw [Lib.decDigits]
    by_cases c : n < 10
    · rw [dif_pos c]
      have e : (UInt8.ofNat (48 + n)).toNat = 48 + n := by rw [UInt8.toNat_ofNat']; omega
      refine ⟨?_, ?_⟩
      · show 0 * 10 + ((UInt8.ofNat (48 + n)).toNat - 48) = n
        rw [e]; omega
      · simp [isD]; omega
    · rw [dif_neg c]
      obtain ⟨i1, i2⟩ := ih (n / 10) (by omega)
      have e : (UInt8.ofNat (48 + n % 10)).toNat = 48 + n % 10 := by rw [UInt8.toNat_ofNat']; omega
      refine ⟨?_, ?_⟩
      · rw [val_app, i1]
        show n / 10 * 10 + ((UInt8.ofNat (48 + n % 10)).toNat - 48) = n
        rw [e]; omega
      · rw [List.all_append, i2]
        simp [isD]; omega
theorem val_mono (l : List UInt8) : ∀ n, n ≤ val n l := by
  induction l with
  | nil => intro n; exact Nat.le_refl _
  | cons b l ih =>
    intro n
    show n ≤ val (n * 10 + (b.toNat - 48)) l
    have := ih (n * 10 + (b.toNat - 48))
    omega

/-- the model's reading, byte by byte: the number, and the places behind a point -/
theorem parseM (M : Nat) (hM : 1000000000000000 ≤ M) (l : List UInt8) : ∀ acc, l.all isD = true → val acc l ≤ 1000000000000000 → Lib.parseUintM M acc l = .ok (val acc l) := by
  induction l with
  | nil => intro acc _ _; rfl
  | cons b l ih =>
    intro acc h1 h2
    simp only [List.all_cons, Bool.and_eq_true] at h1
    have hb := h1.1
    unfold isD at hb
    simp at hb
    have hv : val acc (b :: l) = val (acc * 10 + (b.toNat - 48)) l := rfl
    rw [hv] at h2 ⊢
    have m := val_mono l (acc * 10 + (b.toNat - 48))
    unfold Lib.parseUintM
    rw [if_pos hb, if_neg (by omega), if_neg (by omega), ih _ h1.2 h2]
theorem parse_tz {z : Int} {S D : List UInt8} (hS : S = [] ∧ 0 ≤ z ∨ S = [45] ∧ z < 0) (hd : D.all isD = true) (hv : val 0 D = z.natAbs) (h0 : D ≠ []) (hz : z.natAbs ≤ 1000000000000000) : Lib.parseIntB 64 (S ++ D) = .ok z := by
  have hu : Lib.parseUintB 64 D = .ok z.natAbs := by
    unfold Lib.parseUintB
    rw [if_neg h0, parseM _ (by decide) D 0 hd (by omega), hv]
  have p1 : (2 : Nat) ^ (64 - 1) = 9223372036854775808 := by decide
  rcases hS with ⟨rfl, h⟩ | ⟨rfl, h⟩
  · cases D with
    | nil => exact absurd rfl h0
    | cons c r =>
      simp only [List.all_cons, Bool.and_eq_true] at hd
      have hb := hd.1
      unfold isD at hb
      simp at hb
      rw [List.nil_append]
      unfold Lib.parseIntB
      dsimp only
      rw [if_neg (show ¬ (c.toNat = 43 ∨ c.toNat = 45) by omega), hu]
      dsimp only
      rw [if_neg (by rw [p1]; omega), if_neg (by omega), if_neg (by omega)]
      congr 1
      omega
  · show Lib.parseIntB 64 (45 :: D) = _
    unfold Lib.parseIntB
    dsimp only
    rw [if_pos (.inr (by decide)), hu]
    dsimp only
    have e45 : (45 : UInt8).toNat = 45 := rfl
    rw [if_neg (by rw [e45]; simp), if_neg (by rw [p1]; omega), if_pos e45]
    congr 1
    omega

theorem dec_ne (n : Nat) : Lib.decDigits n ≠ [] := by
  rw [Lib.decDigits]
  split <;> simp
theorem parse_dd {x : Int} (h0 : 0 ≤ x) (h1 : x ≤ 1000000000000) : Lib.parseIntB 64 (dd x) = .ok x := by
  have := parse_tz (z := x) (S := []) (D := dd x) (.inl ⟨rfl, h0⟩) (dec_val x.toNat).2 (by rw [show val 0 (dd x) = x.toNat from (dec_val x.toNat).1]; omega) (dec_ne _) (by omega)
  simpa using this
theorem fold_val (l : List UInt8) : ∀ n : Nat, l.all isD = true → l.foldl stp (n : Int) = ((val n l : Nat) : Int) := by
  induction l with
  | nil => intro n _; rfl
  | cons b l ih =>
    intro n h
    simp only [List.all_cons, Bool.and_eq_true] at h
    have hb := h.1
    unfold isD at hb
    simp at hb
    show l.foldl stp (stp n b) = ((val (n * 10 + (b.toNat - 48)) l : Nat) : Int)
    rw [← ih _ h.2]
    congr 1
    unfold stp
    omega
theorem fig_dd {x : Int} (h0 : 0 ≤ x) : fig ⟨(dd x).toArray⟩ = x := by
  unfold fig upTo
  have e : (⟨(dd x).toArray⟩ : ByteArray).data.toList = dd x := by simp
  have hs : (⟨(dd x).toArray⟩ : ByteArray).size = (dd x).length := by show (dd x).toArray.size = _; simp
  rw [e, hs, if_pos (show (dd x).all isD = true from (dec_val x.toNat).2), List.take_length]
  have := fold_val (dd x) 0 (dec_val x.toNat).2
  rw [show ((0 : Nat) : Int) = 0 from rfl] at this
  rw [this, show val 0 (dd x) = x.toNat from (dec_val x.toNat).1]
  omega
/-- what the model reads of a piece -/
def num (s : ByteArray) : Int := if s.size = 0 ∨ 15 < s.size then -1 else fig s
theorem num_dd {x : Int} (h0 : 0 ≤ x) (h1 : x ≤ 1000000000000) : num ⟨(dd x).toArray⟩ = x := by
  have hl := dd_len h0 h1
  have hs : (⟨(dd x).toArray⟩ : ByteArray).size = (dd x).length := by show (dd x).toArray.size = _; simp
  have hp : 0 < (dd x).length := List.length_pos_iff.2 (dec_ne _)
  unfold num
  rw [if_neg (by omega), fig_dd h0]
theorem no_blank (x : Int) : ∀ b ∈ dd x, b ≠ 32 := by
  intro b hb e
  have := List.all_eq_true.1 (dec_val x.toNat).2 b hb
  rw [e] at this
  exact absurd this (by decide)
theorem cut_word (w r : List UInt8) : ∀ acc, (∀ b ∈ w, b ≠ 32) → cutB acc (w ++ 32 :: r) = (acc ++ w) :: cutB [] r := by
  induction w with
  | nil => intro acc _; simp [cutB]
  | cons b w ih =>
    intro acc h
    rw [List.cons_append, cutB, if_neg (h b (by simp)), ih _ (fun c hc => h c (by simp [hc]))]
    simp
theorem cut_last (w : List UInt8) : ∀ acc, (∀ b ∈ w, b ≠ 32) → cutB acc w = [acc ++ w] := by
  induction w with
  | nil => intro acc _; simp [cutB]
  | cons b w ih =>
    intro acc h
    rw [cutB, if_neg (h b (by simp)), ih _ (fun c hc => h c (by simp [hc]))]
    simp
theorem cut_tx (a b c d f : Int) : cutB [] (tx a b c d f) = [dd a, dd b, dd c, dd d, dd f] := by
  unfold tx
  simp only [List.singleton_append]
  rw [cut_word _ _ _ (no_blank a), cut_word _ _ _ (no_blank b), cut_word _ _ _ (no_blank c), cut_word _ _ _ (no_blank d), cut_last _ _ (no_blank f)]
  simp
theorem tx_len {a b c d f : Int} (h : okB a b c d f = true) : (tx a b c d f).length ≤ 100 := by
  obtain ⟨p1, p2, p3, p4, p5, _⟩ := okB_parts h
  have l1 := dd_len (x := a) (by omega) (by omega)
  have l2 := dd_len (x := b) (by omega) (by omega)
  have l3 := dd_len (x := c) (by omega) (by omega)
  have l4 := dd_len (x := d) (by omega) (by omega)
  have l5 := dd_len (x := f) (by omega) (by omega)
  unfold tx
  simp only [List.length_append, List.length_cons, List.length_nil]
  omega
/-- A text that tells a soil. -/
def Tells (s : ByteArray) (a b c d f : Int) : Prop := okB a b c d f = true ∧ s.data.toList = tx a b c d f
theorem Tells.pcs {s : ByteArray} {a b c d f : Int} (h : Tells s a b c d f) : Head.pcs s = [⟨(dd a).toArray⟩, ⟨(dd b).toArray⟩, ⟨(dd c).toArray⟩, ⟨(dd d).toArray⟩, ⟨(dd f).toArray⟩] := by
  unfold Head.pcs
  rw [h.2, cut_tx]
  rfl
theorem Tells.size {s : ByteArray} {a b c d f : Int} (h : Tells s a b c d f) : s.size ≤ 100 := by
  have := tx_len h.1
  rw [← h.2] at this
  simpa using this
theorem Tells.one {s : ByteArray} {a b c d f a' b' c' d' f' : Int} (h : Tells s a b c d f) (g : Tells s a' b' c' d' f') : a = a' ∧ b = b' ∧ c = c' ∧ d = d' ∧ f = f' := by
  have e := h.pcs.symm.trans g.pcs
  obtain ⟨p1, p2, p3, p4, p5, _⟩ := okB_parts h.1
  obtain ⟨q1, q2, q3, q4, q5, _⟩ := okB_parts g.1
  simp only [List.cons.injEq, and_true] at e
  obtain ⟨e1, e2, e3, e4, e5⟩ := e
  have k : ∀ x y : Int, 0 ≤ x → x ≤ 1000000000000 → 0 ≤ y → y ≤ 1000000000000 → (⟨(dd x).toArray⟩ : ByteArray) = ⟨(dd y).toArray⟩ → x = y := fun x y h1 h2 h3 h4 h => by
    rw [← num_dd h1 h2, h, num_dd h3 h4]
  exact ⟨k _ _ p1.1 p1.2 q1.1 q1.2 e1, k _ _ (by omega) (by omega) (by omega) (by omega) e2, k _ _ (by omega) (by omega) (by omega) (by omega) e3, k _ _ p4.1 p4.2 q4.1 q4.2 e4, k _ _ p5.1 p5.2 q5.1 q5.2 e5⟩
end Go.Proofs.YtgimdhdioigmiaaDoor.Rs
