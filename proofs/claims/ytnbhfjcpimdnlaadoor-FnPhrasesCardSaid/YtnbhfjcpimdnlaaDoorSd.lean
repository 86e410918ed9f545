/- Phrases: another tongue tells nothing; the law. -/
import Derived.Test.YtnbhfjcpimdnlaaDoorSb
import Derived.Test.YtnbhfjcpimdnlaaDoorSc
namespace Go.Proofs.YtnbhfjcpimdnlaaDoor.Ph
open Go.ChangeShapes Go.WideShapes Go.ChangeAt Go.RowKit
theorem other1 : ∀ r : Fin 4, ∀ p : Fin 101, rtx 2 (rrn (gL 2) (rtx 1 r.val p.val) 3).1 (rrn (gL 2) (rtx 1 r.val p.val) 3).2 ≠ rtx 1 r.val p.val := by decide +kernel
theorem other2 : ∀ r : Fin 4, ∀ p : Fin 101, rtx 3 (rrn (gL 3) (rtx 2 r.val p.val) 3).1 (rrn (gL 3) (rtx 2 r.val p.val) 3).2 ≠ rtx 2 r.val p.val := by decide +kernel
theorem other3 : ∀ r : Fin 4, ∀ p : Fin 101, rtx 1 (rrn (gL 1) (rtx 3 r.val p.val) 3).1 (rrn (gL 1) (rtx 3 r.val p.val) 3).2 ≠ rtx 3 r.val p.val := by decide +kernel
theorem other (t r p : Int) (ht : t = 1 ∨ t = 2 ∨ t = 3) (hr : 0 ≤ r ∧ r ≤ 3) (hp : 0 ≤ p ∧ p ≤ 100) : rtx (t % 3 + 1) (rrn (gL (t % 3 + 1)) (rtx t r p) 3).1 (rrn (gL (t % 3 + 1)) (rtx t r p) 3).2 ≠ rtx t r p := by
  obtain ⟨r', rfl⟩ : ∃ x : Nat, r = x := ⟨r.toNat, by omega⟩
  obtain ⟨p', rfl⟩ : ∃ x : Nat, p = x := ⟨p.toNat, by omega⟩
  rcases ht with rfl | rfl | rfl
  · exact other1 ⟨r', by omega⟩ ⟨p', by omega⟩
  · exact other2 ⟨r', by omega⟩ ⟨p', by omega⟩
  · exact other3 ⟨r', by omega⟩ ⟨p', by omega⟩
/-- another tongue tells nothing of what was said -/
theorem no_other (t d f l r p : Int) (ht : t = 1 ∨ t = 2 ∨ t = 3) (hs : sok d f l r p = true) : ∀ d' f' l' r' p', ¬ T5 (t % 3 + 1) (phr t d f l r p) d' f' l' r' p' := by
  intro d' f' l' r' p' h
  have ht' : t % 3 + 1 = 1 ∨ t % 3 + 1 = 2 ∨ t % 3 + 1 = 3 := by omega
  have k := sok_sk hs
  have z := sok_z hs
  have k' := h.sk
  have z' := sok_z h.1
  have c := cut_phr t d f l r p (winds t d f l ht k.d k.f k.l z.1).2
  have c' := cut_phr (t % 3 + 1) d' f' l' r' p' (winds (t % 3 + 1) d' f' l' ht' k'.d k'.f k'.l z'.1).2
  rw [h.2, c] at c'
  have e : rtx t r p = rtx (t % 3 + 1) r' p' := List.append_cancel_right (congrArg (fun x => x.2.1) c')
  have q := rains (t % 3 + 1) r' p' ht' k'.r k'.p z'.2
  have o := other t r p ht k.r k.p
  rw [e, q] at o
  exact o rfl
end Go.Proofs.YtnbhfjcpimdnlaaDoor.Ph
