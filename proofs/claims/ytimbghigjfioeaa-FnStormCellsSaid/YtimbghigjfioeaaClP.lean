/- What hangs together, plain: however a heap of cells is worked off, the same cells are marked. -/
import Derived.WalkKit
namespace Go.Proofs.Ytimbghigjfioeaa.Cl

theorem getD_set (O : List Int) (d x : Nat) (v : Int) (hd : d < O.length) : (O.set d v).getD x 0 = if x = d then v else O.getD x 0 := by
  simp only [List.getD_eq_getElem?_getD, List.getElem?_set]
  by_cases e : d = x
  · subst e; simp [hd]
  · rw [if_neg e, if_neg (by omega)]
theorem list_eq {A B : List Int} (hl : A.length = B.length) (h : ∀ x, x < A.length → A.getD x 0 = B.getD x 0) : A = B := by
  apply List.ext_getElem hl
  intro i h1 h2
  have := h i h1
  simpa [List.getD_eq_getElem?_getD, h1, h2] using this

variable (nbs : Nat → List Nat) (hi : Nat → Bool)
inductive Rch (A : List Int) (c : Nat) : Nat → Prop
  | base : Rch A c c
  | step {x y : Nat} : Rch A c x → y ∈ nbs x → hi y = true → A.getD y 0 = 0 → Rch A c y
def Fill (A : List Int) (c : Nat) (m : Int) (A' : List Int) : Prop := A'.length = A.length ∧ ∀ x, x < A.length → (Rch nbs hi A c x → A'.getD x 0 = m) ∧ (¬ Rch nbs hi A c x → A'.getD x 0 = A.getD x 0)
theorem fill_unique {A : List Int} {c : Nat} {m : Int} {A' A'' : List Int} (h : Fill nbs hi A c m A') (h' : Fill nbs hi A c m A'') : A' = A'' := by
  refine list_eq (h.1.trans h'.1.symm) fun x hx => ?_
  rw [h.1] at hx
  by_cases r : Rch nbs hi A c x
  · rw [(h.2 x hx).1 r, (h'.2 x hx).1 r]
  · rw [(h.2 x hx).2 r, (h'.2 x hx).2 r]
theorem fill_exists (A : List Int) (c : Nat) (m : Int) : ∃ A', Fill nbs hi A c m A' := by
  classical
  refine ⟨(List.range A.length).map fun x => if Rch nbs hi A c x then m else A.getD x 0, by simp, fun x hx => ?_⟩
  have e : ((List.range A.length).map fun x => if Rch nbs hi A c x then m else A.getD x 0).getD x 0 = if Rch nbs hi A c x then m else A.getD x 0 := by simp [List.getD_eq_getElem?_getD, hx]
  rw [e]
  exact ⟨fun r => if_pos r, fun r => if_neg r⟩

/-- The outer loop: cell by cell. -/
def Run : Nat → List Int → Int → List Int → Prop
  | 0, Z, n, A => n = 0 ∧ A = Z
  | k + 1, Z, n, A => ∃ n' A', Run k Z n' A' ∧ if A'.getD k 0 = 0 ∧ hi k = true then n = n' + 1 ∧ Fill nbs hi A' k (n' + 1) A else n = n' ∧ A = A'
theorem run_unique {Z : List Int} : ∀ {k : Nat} {n n' : Int} {A A' : List Int}, Run nbs hi k Z n A → Run nbs hi k Z n' A' → n = n' ∧ A = A'
  | 0, _, _, _, _, h, h' => ⟨h.1.trans h'.1.symm, h.2.trans h'.2.symm⟩
  | k + 1, _, _, _, _, h, h' => by
    obtain ⟨n1, A1, h1, h2⟩ := h
    obtain ⟨n2, A2, h3, h4⟩ := h'
    obtain ⟨rfl, rfl⟩ := run_unique h1 h3
    by_cases e : A1.getD k 0 = 0 ∧ hi k = true
    · rw [if_pos e] at h2 h4
      exact ⟨h2.1.trans h4.1.symm, fill_unique nbs hi h2.2 h4.2⟩
    · rw [if_neg e] at h2 h4
      exact ⟨h2.1.trans h4.1.symm, h2.2.trans h4.2.symm⟩
theorem run_exists (Z : List Int) : ∀ k, ∃ n A, Run nbs hi k Z n A
  | 0 => ⟨0, Z, rfl, rfl⟩
  | k + 1 => by
    obtain ⟨n, A, h⟩ := run_exists Z k
    by_cases e : A.getD k 0 = 0 ∧ hi k = true
    · obtain ⟨A', h'⟩ := fill_exists nbs hi A k (n + 1)
      exact ⟨n + 1, A', n, A, h, by rw [if_pos e]; exact ⟨rfl, h'⟩⟩
    · exact ⟨n, A, n, A, h, by rw [if_neg e]; exact ⟨rfl, rfl⟩⟩
/-- Lengths, numbers. -/
theorem run_ok {Z : List Int} (hZ : ∀ x, x < Z.length → Z.getD x 0 = 0) : ∀ {k : Nat} {n : Int} {A : List Int}, Run nbs hi k Z n A → A.length = Z.length ∧ 0 ≤ n ∧ n ≤ k ∧ ∀ x, x < A.length → 0 ≤ A.getD x 0 ∧ A.getD x 0 ≤ n
  | 0, _, _, h => by
    obtain ⟨rfl, rfl⟩ := h
    exact ⟨rfl, Int.le_refl _, Int.le_refl _, fun x hx => by rw [hZ x hx]; omega⟩
  | k + 1, n, A, h => by
    obtain ⟨n1, A1, h1, h2⟩ := h
    obtain ⟨a, b, b', c⟩ := run_ok hZ h1
    by_cases e : A1.getD k 0 = 0 ∧ hi k = true
    · rw [if_pos e] at h2
      obtain ⟨rfl, f1, f2⟩ := h2
      refine ⟨f1.trans a, by omega, by omega, fun x hx => ?_⟩
      rw [f1] at hx
      by_cases r : Rch nbs hi A1 k x
      · rw [(f2 x hx).1 r]; omega
      · rw [(f2 x hx).2 r]; have := c x hx; omega
    · rw [if_neg e] at h2
      obtain ⟨rfl, rfl⟩ := h2
      exact ⟨a, b, by omega, c⟩

/-- A heap of marked cells that are still to be looked round. -/
structure WI (A0 : List Int) (c : Nat) (m : Int) (A : List Int) (T : List Nat) : Prop where
  len : A.length = A0.length
  lo : ∀ x, x < A0.length → A.getD x 0 = A0.getD x 0 ∨ (A0.getD x 0 = 0 ∧ A.getD x 0 = m)
  re : ∀ x, x < A0.length → A.getD x 0 = m → Rch nbs hi A0 c x
  st : A.getD c 0 = m
  tl : ∀ t ∈ T, t < A0.length ∧ A.getD t 0 = m
  cl : ∀ x, x < A0.length → A.getD x 0 = m → x ∉ T → ∀ y ∈ nbs x, hi y = true → A0.getD y 0 = 0 → A.getD y 0 = m
/-- .. and one of them, of whose neighbours so many have been looked at. -/
structure CI (A0 : List Int) (c : Nat) (m : Int) (x k : Nat) (A : List Int) (T : List Nat) : Prop where
  len : A.length = A0.length
  lo : ∀ x, x < A0.length → A.getD x 0 = A0.getD x 0 ∨ (A0.getD x 0 = 0 ∧ A.getD x 0 = m)
  re : ∀ x, x < A0.length → A.getD x 0 = m → Rch nbs hi A0 c x
  st : A.getD c 0 = m
  tl : ∀ t ∈ T, t < A0.length ∧ A.getD t 0 = m
  cl : ∀ z, z < A0.length → A.getD z 0 = m → z ∉ T → z ≠ x → ∀ y ∈ nbs z, hi y = true → A0.getD y 0 = 0 → A.getD y 0 = m
  me : x < A0.length ∧ A.getD x 0 = m
  ms : ∀ y ∈ (nbs x).take k, hi y = true → A0.getD y 0 = 0 → A.getD y 0 = m
variable {nbs hi}
theorem wi_start {A0 : List Int} {c : Nat} {m : Int} (hc : c < A0.length) (h0 : A0.getD c 0 = 0) (hm : ∀ x, x < A0.length → A0.getD x 0 ≠ m) : WI nbs hi A0 c m (A0.set c m) [c] := by
  have g := fun x => getD_set A0 c x m hc
  refine ⟨by simp, fun x _ => ?_, fun x hx h => ?_, by rw [g, if_pos rfl], fun t ht => ?_, fun x hx h hn => ?_⟩
  · rw [g]; by_cases e : x = c
    · subst e; rw [if_pos rfl]; exact .inr ⟨h0, rfl⟩
    · rw [if_neg e]; exact .inl rfl
  · rw [g] at h; by_cases e : x = c
    · subst e; exact .base
    · rw [if_neg e] at h; exact absurd h (hm x hx)
  · simp at ht; subst ht; exact ⟨hc, by rw [g, if_pos rfl]⟩
  · rw [g] at h; by_cases e : x = c
    · subst e; simp at hn
    · rw [if_neg e] at h; exact absurd h (hm x hx)
theorem ci_start {A0 : List Int} {c : Nat} {m : Int} {A : List Int} {T T' : List Nat} {x : Nat} (h : WI nbs hi A0 c m A T) (hx : x ∈ T) (hT : ∀ z, z ∈ T → z = x ∨ z ∈ T') (hT' : ∀ z, z ∈ T' → z ∈ T) : CI nbs hi A0 c m x 0 A T' :=
  ⟨h.len, h.lo, h.re, h.st, fun t ht => h.tl t (hT' t ht), fun z hz hm hn hne => h.cl z hz hm (fun q => by rcases hT z q with q | q; exact hne q; exact hn q), h.tl x hx, fun y hy => by simp at hy⟩
theorem ci_skip {A0 : List Int} {c : Nat} {m : Int} {A : List Int} {T : List Nat} {x k y : Nat} (h : CI nbs hi A0 c m x k A T) (hy : (nbs x)[k]? = some y) (hb : y < A0.length) (hc : ¬ (A.getD y 0 = 0 ∧ hi y = true)) : CI nbs hi A0 c m x (k + 1) A T := by
  refine ⟨h.len, h.lo, h.re, h.st, h.tl, h.cl, h.me, fun z hz hh h0 => ?_⟩
  rw [List.take_add_one, hy] at hz
  simp at hz
  rcases hz with hz | rfl
  · exact h.ms z hz hh h0
  · rcases h.lo z hb with q | q
    · exact absurd ⟨q.trans h0, hh⟩ hc
    · exact q.2
theorem ci_take {A0 : List Int} {c : Nat} {m : Int} {A : List Int} {T T' : List Nat} {x k y : Nat} (h : CI nbs hi A0 c m x k A T) (hy : (nbs x)[k]? = some y) (hb : y < A0.length) (h0 : A.getD y 0 = 0) (hh : hi y = true) (hT : ∀ z, z ∈ T' ↔ z ∈ T ∨ z = y) : CI nbs hi A0 c m x (k + 1) (A.set y m) T' := by
  have g := fun z => getD_set A y z m (by rw [h.len]; exact hb)
  have z0 : A0.getD y 0 = 0 := by
    rcases h.lo y hb with q | q
    · rw [← q]; exact h0
    · exact q.1
  have up : ∀ z, A.getD z 0 = m → (A.set y m).getD z 0 = m := fun z hz => by rw [g]; split; rfl; exact hz
  have ym : y ∈ nbs x := List.mem_of_getElem? hy
  refine ⟨by rw [List.length_set]; exact h.len, fun z hz => ?_, fun z hz hm => ?_, up c h.st, fun t ht => ?_, fun z hz hm hn hne w hw hhw h0w => ?_, ⟨h.me.1, up x h.me.2⟩, fun z hz hhz h0z => ?_⟩
  · rw [g]; by_cases e : z = y
    · subst e; rw [if_pos rfl]; exact .inr ⟨z0, rfl⟩
    · rw [if_neg e]; exact h.lo z hz
  · rw [g] at hm; by_cases e : z = y
    · subst e; exact .step (h.re x h.me.1 h.me.2) ym hh z0
    · rw [if_neg e] at hm; exact h.re z hz hm
  · rcases (hT t).1 ht with ht | rfl
    · exact ⟨(h.tl t ht).1, up t (h.tl t ht).2⟩
    · exact ⟨hb, by rw [g, if_pos rfl]⟩
  · have nz : z ≠ y := fun e => hn ((hT z).2 (.inr e))
    rw [g, if_neg nz] at hm
    exact up w (h.cl z hz hm (fun q => hn ((hT z).2 (.inl q))) hne w hw hhw h0w)
  · rw [List.take_add_one, hy] at hz
    simp at hz
    rcases hz with hz | rfl
    · exact up z (h.ms z hz hhz h0z)
    · rw [g, if_pos rfl]
theorem ci_end {A0 : List Int} {c : Nat} {m : Int} {A : List Int} {T : List Nat} {x : Nat} (h : CI nbs hi A0 c m x (nbs x).length A T) : WI nbs hi A0 c m A T := by
  refine ⟨h.len, h.lo, h.re, h.st, h.tl, fun z hz hm hn y hy hh h0 => ?_⟩
  by_cases e : z = x
  · subst e; exact h.ms y (by rw [List.take_length]; exact hy) hh h0
  · exact h.cl z hz hm hn e y hy hh h0
theorem wi_end {A0 : List Int} {c : Nat} {m : Int} {A : List Int} (hn : ∀ x, x < A0.length → ∀ y ∈ nbs x, y < A0.length) (hc : c < A0.length) (h : WI nbs hi A0 c m A []) : Fill nbs hi A0 c m A := by
  have key : ∀ x, Rch nbs hi A0 c x → x < A0.length ∧ A.getD x 0 = m := by
    intro x r
    induction r with
    | base => exact ⟨hc, h.st⟩
    | step _ hy hh h0 ih => exact ⟨hn _ ih.1 _ hy, h.cl _ ih.1 ih.2 (by simp) _ hy hh h0⟩
  refine ⟨h.len, fun x hx => ⟨fun r => (key x r).2, fun r => ?_⟩⟩
  rcases h.lo x hx with q | q
  · exact q
  · exact absurd (h.re x hx q.2) r

/-- How many are not marked. -/
def zc (A : List Int) : Nat → Nat
  | 0 => 0
  | n + 1 => zc A n + if A.getD n 0 = 0 then 1 else 0
theorem zc_set {A : List Int} {y : Nat} {m : Int} (hm : m ≠ 0) (hy : y < A.length) (h0 : A.getD y 0 = 0) : ∀ n, zc (A.set y m) n + (if y < n then 1 else 0) = zc A n
  | 0 => rfl
  | n + 1 => by
    have ih := zc_set hm hy h0 n
    unfold zc
    rw [getD_set A y n m hy]
    by_cases e : n = y
    · subst e
      rw [if_pos rfl, if_neg hm, if_pos h0, if_pos (by omega)]
      rw [if_neg (by omega)] at ih
      omega
    · rw [if_neg e]
      by_cases q : y < n
      · rw [if_pos q] at ih; rw [if_pos (show y < n + 1 by omega)]; omega
      · rw [if_neg q] at ih; rw [if_neg (show ¬ y < n + 1 by omega)]; omega
end Go.Proofs.Ytimbghigjfioeaa.Cl
