/- Deal: the law at every argument. -/
import Derived.Test.YtniejbefkijenaaDs
import Derived.Test.YtniejbefkijenaaDlL
import Derived.Test.YtniejbefkijenaaEnArg
namespace Go.Proofs.Ytniejbefkijenaa.Dl
open Go.ChangeShapes Go.WideShapes Go.ChangeAt Go.RowKit
open Al Eo
open Go.Proofs.Ytniejbefkijenaa.Lists (ints)

theorem fit_of {L : En.Ls} (h : En.FitA L) : En.Fit L := fun i hi => by
  have := h (L[i]) (List.getElem_mem hi)
  have e : En.c0 L i = (L[i]).1 := by simp [En.c0, List.getD_eq_getElem?_getD, hi]
  rw [e]
  exact this
theorem okD_eq (L : En.Ls) (B S : Int) : okD L B S = ((decide (L.length ≤ 300) && (inn B 0 1000000000000 && inn S 1 100)) && okE L) := by
  unfold okD okE
  cases decide (L.length ≤ 300) <;> cases inn B 0 1000000000000 <;> cases inn S 1 100 <;> simp

theorem ideal_any (L : En.Ls) (v : Value) (B S : Int) (w : World) (h : En.Reads w v L) (hf : Ft L) (X : List Int) (hX : X = if okD L B S then dls L B S.toNat L.length else []) :
    Calls Try.prog 16 #[v, .int .i64 B, .int .i64 S] w fun e w' => ∃ u0, e = .returned (.tuple #[u0, .bool (okD L B S)]) ∧ w'.ownsRow w.heap.size 2 1 u0 (List.length X) (ints X) ∧ Below w.heap.size w w' := by
  cases hk : okD L B S
  · rw [hk] at hX
    subst hX
    exact ideal_no L v B S w h hf hk
  · rw [hk] at hX
    subst hX
    have := hk
    unfold okD at this
    simp only [Bool.and_eq_true] at this
    have s := (inn_iff _ _ _).1 this.2.2
    obtain ⟨n, rfl⟩ : ∃ n : Nat, S = (n : Int) := ⟨S.toNat, by omega⟩
    exact ideal_yes L v B n w h hf hk
theorem sdeal_all (L : En.Ls) (v : Value) (B S : Int) (w : World) (h : En.Reads w v L) (hf : Ft L) (X : List Int) (hX : X = if okD L B S then dls L B S.toNat L.length else []) :
    Calls Try.prog 15 #[v, .int .i64 B, .int .i64 S] w fun e w' => ∃ u0, e = .returned (.tuple #[u0, .bool (okD L B S)]) ∧ w'.ownsRow w.heap.size 2 1 u0 (List.length X) (ints X) ∧ Below w.heap.size w w' := by
  have oe := okD_eq L B S
  cases hp : (decide (L.length ≤ 300) && (inn B 0 1000000000000 && inn S 1 100))
  · rw [hp] at oe
    have oe : okD L B S = false := oe
    rw [oe] at hX ⊢
    subst hX
    exact sdeal_no L v B S w h hp
  · rw [hp] at oe
    have oe : okD L B S = okE L := by rw [oe]; simp
    simp only [Bool.and_eq_true, decide_eq_true_eq] at hp
    have s := (inn_iff _ _ _).1 hp.2.2
    obtain ⟨n, rfl⟩ : ∃ n : Nat, S = (n : Int) := ⟨S.toNat, by omega⟩
    rw [oe] at hX ⊢
    exact sdeal_any L v B n w h hf hp.1 hp.2.1 hp.2.2 X hX
theorem dealAll (w : World) (v : Value) (L : En.Ls) (h : En.Reads w v L) (hf : En.FitA L) (B S : Int) :
    Calls Try.prog 4 #[v, .int .i64 B, .int .i64 S] w fun e w' => e = .returned (.bool true) ∧ Below w.heap.size w w' := by
  obtain ⟨X, hX⟩ : ∃ X, X = if okD L B S then dls L B S.toNat L.length else [] := ⟨_, rfl⟩
  have lX : X.length ≤ 1000 := by
    rw [hX]
    cases hk : okD L B S
    · simp
    · rw [if_pos rfl, dls_len]
      unfold okD at hk
      simp only [Bool.and_eq_true] at hk
      have := okE_len hk.1
      omega
  exact LawDlL.dealLaw w v L h (fit_of hf) B S X lX (okD L B S) (fun hF w t hr => sdeal_all L t B S w hr hF.2 X hX) (fun hF w t hr => ideal_any L t B S w hr hF.2 X hX)
end Go.Proofs.Ytniejbefkijenaa.Dl
