/- ReadPhrase of the program at any tongue. -/
import Derived.Test.YtnbhfjcpimdnlaaDoorRs
namespace Go.Proofs.YtnbhfjcpimdnlaaDoor.Ph
open Go.ChangeShapes Go.WideShapes Go.ChangeAt Go.RowKit
open Go.Proofs.YtnbhfjcpimdnlaaDoor.Rd (Turn)
/-- does a text tell something -/
def tell (t : Int) (X : List UInt8) : Bool := inn t 1 3 && (sok (rdp t X).1 (rdp t X).2.1 (rdp t X).2.2.1 (rdp t X).2.2.2.1 (rdp t X).2.2.2.2 && decide (phr t (rdp t X).1 (rdp t X).2.1 (rdp t X).2.2.1 (rdp t X).2.2.2.1 (rdp t X).2.2.2.2 = X))
def sayV (q : Int × Int × Int × Int × Int) : Value := .agg #[.int .i64 q.1, .int .i64 q.2.1, .int .i64 q.2.2.1, .int .i64 q.2.2.2.1, .int .i64 q.2.2.2.2]
/-- what it tells -/
def told (t : Int) (X : List UInt8) : Int × Int × Int × Int × Int := if tell t X = true then rdp t X else (0, 0, 0, 0, 0)
theorem inn3 {t : Int} : inn t 1 3 = true ↔ (t = 1 ∨ t = 2 ∨ t = 3) := by
  unfold inn; simp only [Bool.and_eq_true, decide_eq_true_eq]; omega
theorem tell_T5 {t : Int} {X : List UInt8} (h : tell t X = true) : (t = 1 ∨ t = 2 ∨ t = 3) ∧ T5 t X (rdp t X).1 (rdp t X).2.1 (rdp t X).2.2.1 (rdp t X).2.2.2.1 (rdp t X).2.2.2.2 := by
  unfold tell at h
  simp only [Bool.and_eq_true, decide_eq_true_eq] at h
  exact ⟨inn3.1 h.1, h.2.1, h.2.2⟩
theorem T5_tell {t : Int} {X : List UInt8} {d f l r p : Int} (ht : t = 1 ∨ t = 2 ∨ t = 3) (h : T5 t X d f l r p) : tell t X = true ∧ told t X = (d, f, l, r, p) := by
  have e := h.rd ht
  have q : tell t X = true := by
    unfold tell
    rw [e]
    simp only [Bool.and_eq_true, decide_eq_true_eq]
    exact ⟨inn3.2 ht, h.1, h.2⟩
  exact ⟨q, by unfold told; rw [if_pos q, e]⟩
theorem no_tell {t : Int} {X : List UInt8} (h : (t = 1 ∨ t = 2 ∨ t = 3) → ∀ d f l r p, ¬ T5 t X d f l r p) : tell t X = false ∧ told t X = (0, 0, 0, 0, 0) := by
  have q : tell t X = false := by
    cases e : tell t X with
    | false => rfl
    | true => exact absurd (tell_T5 e).2 (h (tell_T5 e).1 _ _ _ _ _)
  exact ⟨q, by unfold told; rw [if_neg (by rw [q]; decide)]⟩
theorem nil_ok (t : Int) (ht : t = 1 ∨ t = 2 ∨ t = 3) : sok (rdp t []).1 (rdp t []).2.1 (rdp t []).2.2.1 (rdp t []).2.2.2.1 (rdp t []).2.2.2.2 = true := by
  rcases ht with rfl | rfl | rfl <;> decide +kernel
theorem ans_tell (t : Int) (X : List UInt8) (ht : t = 1 ∨ t = 2 ∨ t = 3) : decide ((⟨(ans (rdp t X).1 (rdp t X).2.1 (rdp t X).2.2.1 (rdp t X).2.2.2.1 (rdp t X).2.2.2.2 t).toArray⟩ : ByteArray) = ⟨X.toArray⟩) = tell t X := by
  have e1 : ((⟨(ans (rdp t X).1 (rdp t X).2.1 (rdp t X).2.2.1 (rdp t X).2.2.2.1 (rdp t X).2.2.2.2 t).toArray⟩ : ByteArray) = ⟨X.toArray⟩) ↔ ans (rdp t X).1 (rdp t X).2.1 (rdp t X).2.2.1 (rdp t X).2.2.2.1 (rdp t X).2.2.2.2 t = X := by
    constructor
    · intro h
      have := congrArg (fun b : ByteArray => b.data.toList) h
      simpa using this
    · intro h; rw [h]
  have e2 : tell t X = true ↔ ans (rdp t X).1 (rdp t X).2.1 (rdp t X).2.2.1 (rdp t X).2.2.2.1 (rdp t X).2.2.2.2 t = X := by
    have hi := inn3.2 ht
    cases hs : sok (rdp t X).1 (rdp t X).2.1 (rdp t X).2.2.1 (rdp t X).2.2.2.1 (rdp t X).2.2.2.2 with
    | true =>
      have ha : ans (rdp t X).1 (rdp t X).2.1 (rdp t X).2.2.1 (rdp t X).2.2.2.1 (rdp t X).2.2.2.2 t = phr t (rdp t X).1 (rdp t X).2.1 (rdp t X).2.2.1 (rdp t X).2.2.2.1 (rdp t X).2.2.2.2 := by
        unfold ans; rw [if_pos]; rw [hs, hi]; rfl
      rw [ha]
      constructor
      · intro h; exact (tell_T5 h).2.2
      · intro h; exact (T5_tell ht ⟨hs, h⟩).1
    | false =>
      have ha : ans (rdp t X).1 (rdp t X).2.1 (rdp t X).2.2.1 (rdp t X).2.2.2.1 (rdp t X).2.2.2.2 t = [] := by
        unfold ans; rw [if_neg]; rw [hs]; simp
      rw [ha]
      constructor
      · intro h; have := (tell_T5 h).2.1; rw [hs] at this; exact absurd this (by decide)
      · intro h; rw [← h, nil_ok t ht] at hs; exact absurd hs (by decide)
  cases hq : tell t X with
  | true => exact decide_eq_true (e1.2 (e2.1 hq))
  | false => exact decide_eq_false (fun h => by rw [e2.2 (e1.1 h)] at hq; exact absurd hq (by decide))
set_option maxHeartbeats 400000 in
theorem iread_any (X : List UInt8) (t : Int) (w : World) (hT : Tb w) (ht0 : okn t) (hX : X.length ≤ 2000000) :
    Calls Tryd.prog 6 #[.string ⟨X.toArray⟩, .int .i64 t] w fun e w' => e = .returned (.tuple #[sayV (told t X), .bool (tell t X)]) ∧ Below w.heap.size w w' := by
  have TC := fun X => tongues_any t ht0 X
  have eq : (decide (t = 1) || (decide (t = 2) || decide (t = 3))) = inn t 1 3 := by
    unfold inn
    rw [Bool.eq_iff_iff]
    simp only [Bool.or_eq_true, Bool.and_eq_true, decide_eq_true_eq]
    omega
  rw [eq] at TC
  cases ht : inn t 1 3 with
  | false =>
    rw [ht] at TC
    have n := no_tell (t := t) (X := X) (fun h3 => by rw [inn3.2 h3] at ht; exact absurd ht (by decide))
    rw [n.1, n.2]
    exact iread_none _ ⟨X.toArray⟩ t w (lxs_len t) (lex_one (lxs t)) TC
  | true =>
    rw [ht] at TC
    have t3 := inn3.1 ht
    have at3 := ans_tell t X t3
    have cl := cutp_len X [46, 32]
    have tl : (Lib.trimSuffix (cutp X [46, 32]).2.1 [46]).length ≤ 2000000 := by
      unfold Lib.trimSuffix
      split
      · simp; omega
      · omega
    have CT : ∀ W, Tb W → Calls Tryd.prog 19 #[.string ⟨X.toArray⟩, .string ⟨#[46, 32]⟩] W fun e w' => e = .returned (.tuple #[.string ⟨(cutp X [46, 32]).1.toArray⟩, .string ⟨(cutp X [46, 32]).2.1.toArray⟩, .bool (cutp X [46, 32]).2.2]) ∧ Below W.heap.size W w' := fun W h => cut_any X [46, 32] W h hX
    have TS : ∀ W, Calls Tryd.prog 22 #[.string ⟨(cutp X [46, 32]).2.1.toArray⟩, .string ⟨#[46]⟩] W fun e w' => e = .returned (.string ⟨(Lib.trimSuffix (cutp X [46, 32]).2.1 [46]).toArray⟩) ∧ w' = W := fun W => Tryd.strings_TrimSuffix ⟨(cutp X [46, 32]).2.1.toArray⟩ ⟨#[46]⟩ W (by simp [ByteArray.size]; omega)
    have WC : ∀ W b, Tb W → 1 < b → SY W b 0 0 0 0 0 → Calls Tryd.prog 20 #[lex (lxs t), .string ⟨(cutp X [46, 32]).1.toArray⟩, .pointer (some ⟨b, 0, none⟩)] W fun e w' => (∃ v, e = .returned v) ∧ SY w' b (rdp t X).1 (rdp t X).2.1 (rdp t X).2.2.1 0 0 ∧ Turn b W w' := fun W b h1 h2 h3 => by
      rw [lex_gL t t3]
      exact rwind (gL t) (lens t) (cutp X [46, 32]).1 (by omega) b 0 0 W h1 h2 h3
    have RC : ∀ W b, Tb W → 1 < b → SY W b (rdp t X).1 (rdp t X).2.1 (rdp t X).2.2.1 0 0 → Calls Tryd.prog 21 #[lex (lxs t), .string ⟨(Lib.trimSuffix (cutp X [46, 32]).2.1 [46]).toArray⟩, .pointer (some ⟨b, 0, none⟩)] W fun e w' => (∃ v, e = .returned v) ∧ SY w' b (rdp t X).1 (rdp t X).2.1 (rdp t X).2.2.1 (rdp t X).2.2.2.1 (rdp t X).2.2.2.2 ∧ Turn b W w' := fun W b h1 h2 h3 => by
      rw [lex_gL t t3]
      exact rrain (gL t) (lens t) _ tl b (rdp t X).1 (rdp t X).2.1 (rdp t X).2.2.1 W h1 h2 h3
    have R := iread_some _ ⟨X.toArray⟩ ⟨(ans (rdp t X).1 (rdp t X).2.1 (rdp t X).2.2.1 (rdp t X).2.2.2.1 (rdp t X).2.2.2.2 t).toArray⟩ _ _ _ _ t (rdp t X).1 (rdp t X).2.1 (rdp t X).2.2.1 (rdp t X).2.2.2.1 (rdp t X).2.2.2.2 w hT (lxs_len t) (lex_one (lxs t)) (show Hid _ from TC) (show Hid _ from CT) (show Hid _ from TS) (show Hid _ from WC) (show Hid _ from RC) (show Hid _ from fun W hW => iphrase_any _ _ _ _ _ t W hW ht0)
    refine R.mono ?_
    rintro e w' ⟨rfl, hb⟩
    refine ⟨?_, hb⟩
    rw [at3]
    congr 3
    unfold told
    cases hq : tell t X with
    | true => rw [if_pos rfl, if_pos (of_decide_eq_true (at3.trans hq))]; rfl
    | false => rw [if_neg (of_decide_eq_false (at3.trans hq))]; rfl
end Go.Proofs.YtnbhfjcpimdnlaaDoor.Ph
