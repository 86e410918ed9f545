/- Store, plainly; the program. -/
import Derived.Test.YtniejbefkijenaaBs
import Derived.Test.YtniejbefkijenaaCc
namespace Go.Proofs.Ytniejbefkijenaa.Ky
open Go.ChangeShapes Go.WideShapes Go.ChangeAt Go.RowKit
open Al Eo

def stL (L : En.Ls) (e : En1) : En.Ls := L.filter (fun x => decide (ky x e < 0)) ++ [e] ++ L.filter (fun x => decide (ky e x < 0))
def okS (L : En.Ls) (e : En1) : Bool := (okA L && eok e.1 e.2.1 e.2.2.1 e.2.2.2.1 e.2.2.2.2) && decide ((stL L e).length ≤ 300)
theorem en_get (L : En.Ls) (i : Nat) (h : i < L.length) : en L i = L[i] := by
  simp [en, En.c0, En.c1, En.c2, En.c3, En.c4, List.getD_eq_getElem?_getD, h]
theorem filter_take {α : Type} (P : α → Bool) (L : List α) (q : Nat) (h1 : ∀ i, (h : i < L.length) → i < q → P L[i] = true) (h2 : ∀ i, (h : i < L.length) → q ≤ i → P L[i] = false) : L.filter P = L.take q := by
  have e := List.take_append_drop q L
  have f1 : (L.take q).filter P = L.take q := by
    rw [List.filter_eq_self]
    intro x hx
    obtain ⟨i, hi, rfl⟩ := List.mem_iff_getElem.1 hx
    rw [List.getElem_take]
    rw [List.length_take] at hi
    exact h1 i (by omega) (by omega)
  have f2 : (L.drop q).filter P = [] := by
    rw [List.filter_eq_nil_iff]
    intro x hx
    obtain ⟨i, hi, rfl⟩ := List.mem_iff_getElem.1 hx
    rw [List.getElem_drop]
    rw [List.length_drop] at hi
    rw [h2 (q + i) (by omega) (by omega)]
    simp
  calc L.filter P = (L.take q ++ L.drop q).filter P := by rw [e]
    _ = L.take q := by rw [List.filter_append, f1, f2, List.append_nil]
theorem filter_drop {α : Type} (P : α → Bool) (L : List α) (q : Nat) (h1 : ∀ i, (h : i < L.length) → i < q → P L[i] = false) (h2 : ∀ i, (h : i < L.length) → q ≤ i → P L[i] = true) : L.filter P = L.drop q := by
  have e := List.take_append_drop q L
  have f1 : (L.take q).filter P = [] := by
    rw [List.filter_eq_nil_iff]
    intro x hx
    obtain ⟨i, hi, rfl⟩ := List.mem_iff_getElem.1 hx
    rw [List.getElem_take]
    rw [List.length_take] at hi
    rw [h1 i (by omega) (by omega)]
    simp
  have f2 : (L.drop q).filter P = L.drop q := by
    rw [List.filter_eq_self]
    intro x hx
    obtain ⟨i, hi, rfl⟩ := List.mem_iff_getElem.1 hx
    rw [List.getElem_drop]
    rw [List.length_drop] at hi
    exact h2 (q + i) (by omega) (by omega)
  calc L.filter P = (L.take q ++ L.drop q).filter P := by rw [e]
    _ = L.drop q := by rw [List.filter_append, f1, f2, List.nil_append]
def bh (L : En.Ls) (e : En1) (q : Nat) : Nat := if thr L e q then q + 1 else q
theorem thr_iff {L : En.Ls} {e : En1} {q : Nat} : thr L e q = true ↔ q < L.length ∧ ky (en L q) e = 0 := by
  unfold thr; simp
theorem bh_le {L : En.Ls} {e : En1} {q : Nat} (h : Ps L e q) : q ≤ bh L e q ∧ bh L e q ≤ L.length := by
  unfold bh
  cases ht : thr L e q
  · exact ⟨Nat.le_refl _, h.le⟩
  · have := (thr_iff.1 ht).1
    exact ⟨Nat.le_succ _, this⟩
theorem st_eq {L : En.Ls} {e : En1} {q : Nat} (hr : riss L L.length = true) (h : Ps L e q) : stL L e = L.take q ++ [e] ++ L.drop (bh L e q) := by
  unfold stL
  rw [filter_take _ L q, filter_drop _ L (bh L e q)]
  · intro i hi hq
    have a := ky_cmp.anti (en L i) e
    rw [en_get L i hi] at a
    apply decide_eq_false
    unfold bh at hq
    cases ht : thr L e q
    · rw [ht] at hq
      have := h.lo i hq
      rw [en_get L i hi] at this
      omega
    · rw [ht] at hq
      have hq : i < q + 1 := hq
      by_cases c : i < q
      · have := h.lo i c
        rw [en_get L i hi] at this
        omega
      · have e1 : i = q := by omega
        subst e1
        have := (thr_iff.1 ht).2
        rw [en_get L i hi] at this
        omega
  · intro i hi hq
    have a := ky_cmp.anti (en L i) e
    rw [en_get L i hi] at a
    apply decide_eq_true
    unfold bh at hq
    cases ht : thr L e q
    · rw [ht] at hq
      have hq : q ≤ i := hq
      have h0 := h.hi i hq hi
      by_cases c : i = q
      · subst c
        have : ¬ ky (en L i) e = 0 := fun hz => by rw [thr_iff.2 ⟨hi, hz⟩] at ht; cases ht
        rw [en_get L i hi] at h0 this
        omega
      · have h1 := h.hi q (Nat.le_refl _) (by omega)
        have h2 := rises hr i hi q (by omega)
        have h3 := ky_cmp.anti (en L q) e
        have h4 := ky_cmp.anti (en L q) (en L i)
        have t := ky_cmp.trans e (en L q) (en L i) (by omega) (by omega)
        rw [en_get L i hi] at t h2
        by_cases zz : ky e L[i] = 0
        · have := (t.2 zz).2; omega
        · have := t.1; omega
    · rw [ht] at hq
      have hq : q + 1 ≤ i := hq
      have h1 := (thr_iff.1 ht).2
      have h2 := rises hr i hi q (by omega)
      have h3 := ky_cmp.eqv (en L q) e (en L i) h1
      rw [en_get L i hi] at h3 h2
      omega
  · intro i hi hq
    apply decide_eq_true
    have := h.lo i hq
    rw [en_get L i hi] at this
    exact this
  · intro i hi hq
    apply decide_eq_false
    have := h.hi i hq hi
    rw [en_get L i hi] at this
    omega
theorem st_len {L : En.Ls} {e : En1} {q : Nat} (hr : riss L L.length = true) (h : Ps L e q) : (stL L e).length = if thr L e q then L.length else L.length + 1 := by
  rw [st_eq hr h]
  have := bh_le h
  have hl := h.le
  simp only [List.length_append, List.length_take, List.length_drop, List.length_cons, List.length_nil]
  unfold bh at *
  cases ht : thr L e q
  · rw [ht] at this
    simp at this ⊢
    omega
  · rw [ht] at this
    have this : q ≤ q + 1 ∧ q + 1 ≤ L.length := this
    simp
    omega

theorem slice_h (a : Option Addr) (n cap q : Nat) (h : q ≤ cap) (w : World) : (Instr.slice 27 (.slice a n cap) none (some (.int .i64 (q : Int))) none).run Try.prog w = .ok (.slice a q cap) w := by
  rw [run_slice_h w 27 a n cap Try.underlying27 .i64 (q : Int) (by omega) (by omega)]
  simp [sliced, go_sem]
theorem slice_l (a : Option Addr) (n cap q : Nat) (h : q ≤ n) (w : World) : (Instr.slice 27 (.slice a n cap) (some (.int .i64 (q : Int))) none none).run Try.prog w = .ok (.slice (if cap = q then a else a.map (fun x : Addr => x.add (q * 5))) (n - q) (cap - q)) w := by
  rw [run_slice_l w 27 a n cap Try.underlying27 .i64 (q : Int) (by omega) (by omega)]
  simp [sliced, go_sem]
theorem c_take (L : En.Ls) (q i : Nat) (h : i < q) : (L.take q).getD i (⟨#[]⟩, 0, 0, 0, 0) = L.getD i (⟨#[]⟩, 0, 0, 0, 0) := by
  simp [List.getD_eq_getElem?_getD, h]
theorem c_drop (L : En.Ls) (q i : Nat) : (L.drop q).getD i (⟨#[]⟩, 0, 0, 0, 0) = L.getD (q + i) (⟨#[]⟩, 0, 0, 0, 0) := by
  simp [List.getD_eq_getElem?_getD, List.getElem?_drop]
theorem reads_take {w : World} {a : Option Addr} {cap : Nat} {L : En.Ls} (h : En.Reads w (.slice a L.length cap) L) (q : Nat) (hq : q ≤ L.length) : En.Reads w (.slice a q cap) (L.take q) := by
  have hl : (L.take q).length = q := by rw [List.length_take]; omega
  rcases h with ⟨rfl, a', c', e⟩ | ⟨b, o, c, e, h1, h2, h3, h4⟩
  · simp at hq
    subst hq
    exact Or.inl ⟨rfl, a, cap, rfl⟩
  · simp at e
    obtain ⟨rfl, rfl⟩ := e
    refine Or.inr ⟨b, o, cap, by rw [hl], by rw [hl]; omega, h2, h3, fun i hi => ?_⟩
    rw [hl] at hi
    have := h4 i (by omega)
    unfold En.Cs En.c0 En.c1 En.c2 En.c3 En.c4 at *
    rw [c_take L q i hi]
    exact this
theorem reads_drop {w : World} {a : Option Addr} {cap : Nat} {L : En.Ls} (h : En.Reads w (.slice a L.length cap) L) (q : Nat) (hq : q ≤ L.length) : En.Reads w (.slice (if cap = q then a else a.map (fun x : Addr => x.add (q * 5))) (L.length - q) (cap - q)) (L.drop q) := by
  have hl : (L.drop q).length = L.length - q := by rw [List.length_drop]
  by_cases hz : L.length - q = 0
  · have e : L.drop q = [] := List.eq_nil_of_length_eq_zero (by rw [hl]; exact hz)
    rw [e, hz]
    exact Or.inl ⟨rfl, _, _, rfl⟩
  · rcases h with ⟨rfl, a', c', e⟩ | ⟨b, o, c, e, h1, h2, h3, h4⟩
    · simp at hz
    · simp at e
      obtain ⟨rfl, rfl⟩ := e
      rw [if_neg (by omega)]
      have ea : (Option.map (fun x : Addr => x.add (q * 5)) (some (⟨b, o, none⟩ : Addr))) = some ⟨b, o + q * 5, none⟩ := by
        show some _ = some _
        unfold Addr.add
        split
        · rename_i h; rw [h]; rfl
        · rfl
      rw [ea]
      refine Or.inr ⟨b, o + q * 5, cap - q, by rw [hl], by rw [hl]; omega, by omega, h3, fun i hi => ?_⟩
      rw [hl] at hi
      have := h4 (q + i) (by omega)
      unfold En.Cs En.c0 En.c1 En.c2 En.c3 En.c4 at *
      rw [c_drop L q i]
      have ez : o + (q + i) * 5 = o + q * 5 + i * 5 := by omega
      rw [ez] at this
      exact this
theorem nil_rowE (w : World) (base : Nat) : En.Row w base (.slice none 0 0) [] := ⟨[], ⟨rfl, .inl ⟨rfl, rfl⟩⟩, fun i hi => by simp at hi⟩
theorem reads_one {w : World} (b : Nat) (p : ByteArray) (t s l z : Int) (hb : b < w.heap.size) (h0 : w.cell? ⟨b, 0, none⟩ = some (.string p)) (h1 : w.cell? ⟨b, 1, none⟩ = some (.int .i64 t)) (h2 : w.cell? ⟨b, 2, none⟩ = some (.int .i64 s)) (h3 : w.cell? ⟨b, 3, none⟩ = some (.int .i64 l)) (h4 : w.cell? ⟨b, 4, none⟩ = some (.int .i64 z)) : En.Reads w (.slice (some ⟨b, 0, none⟩) 1 1) [(p, t, s, l, z)] := by
  refine Or.inr ⟨b, 0, 1, rfl, by simp, by unfold maxLen; omega, hb, fun i hi => ?_⟩
  simp at hi
  subst hi
  exact ⟨h0, h1, h2, h3, h4⟩
end Go.Proofs.Ytniejbefkijenaa.Ky
