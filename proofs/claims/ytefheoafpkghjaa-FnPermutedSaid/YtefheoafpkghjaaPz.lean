/- All ways to choose so many of a list: how many there are, and how many reach a sum, plainly. -/
import Derived.Test.YtefheoafpkghjaaPk
namespace Go.Proofs.Ytefheoafpkghjaa.Pe
open Go.Proofs.Ytefheoafpkghjaa.Al

def ch : Nat → Nat → Nat
  | _, 0 => 1
  | 0, _ + 1 => 0
  | n + 1, c + 1 => ch n c + ch n (c + 1)
theorem ch_zero (n : Nat) : ch n 0 = 1 := by cases n <;> rfl
theorem ch_few (n : Nat) : ∀ c, n < c → ch n c = 0 := by
  induction n with
  | zero =>
    intro c h
    cases c with
    | zero => omega
    | succ c => rfl
  | succ n ih =>
    intro c h
    cases c with
    | zero => omega
    | succ c =>
      show ch n c + ch n (c + 1) = 0
      rw [ih c (by omega), ih (c + 1) (by omega)]
theorem ch_pos (n : Nat) : ∀ c, c ≤ n → 1 ≤ ch n c := by
  induction n with
  | zero =>
    intro c h
    have : c = 0 := by omega
    subst this
    exact Nat.le_refl _
  | succ n ih =>
    intro c h
    cases c with
    | zero => exact Nat.le_refl _
    | succ c =>
      show 1 ≤ ch n c + ch n (c + 1)
      have := ih c (by omega)
      omega
theorem wy_all (L : List Int) : ∀ c m, (wy L c m).2 = (ch L.length c : Int) := by
  induction L with
  | nil =>
    intro c m
    cases c with
    | zero => rfl
    | succ c => rfl
  | cons z t ih =>
    intro c m
    cases c with
    | zero => rw [wy_zero, ch_zero]; rfl
    | succ c =>
      by_cases h : t.length < c
      · rw [wy_few m (by simpa using h), ch_few _ _ (by simpa using h)]; rfl
      · rw [wy_step m h]
        show (wy t c (m - z)).2 + (wy t (c + 1) m).2 = ((ch t.length c + ch t.length (c + 1) : Nat) : Int)
        rw [ih, ih]
        omega
theorem wy_le (L : List Int) : ∀ c m, (wy L c m).1 ≤ (wy L c m).2 := by
  induction L with
  | nil =>
    intro c m
    cases c with
    | zero => rw [wy_zero]; show (if m ≤ 0 then (1 : Int) else 0) ≤ 1; split <;> omega
    | succ c => exact Int.le_refl _
  | cons z t ih =>
    intro c m
    cases c with
    | zero => rw [wy_zero]; show (if m ≤ 0 then (1 : Int) else 0) ≤ 1; split <;> omega
    | succ c =>
      by_cases h : t.length < c
      · rw [wy_few m (by simpa using h)]; exact Int.le_refl _
      · rw [wy_step m h]
        have a := ih c (m - z)
        have b := ih (c + 1) m
        show (wy t c (m - z)).1 + (wy t (c + 1) m).1 ≤ (wy t c (m - z)).2 + (wy t (c + 1) m).2
        omega
def ng (L : List Int) : List Int := L.map fun z => -z
theorem ng_len (L : List Int) : (ng L).length = L.length := by simp [ng]
theorem ng_cons (z : Int) (t : List Int) : ng (z :: t) = -z :: ng t := rfl
theorem ng_app (A B : List Int) : ng (A ++ B) = ng A ++ ng B := by simp [ng]
theorem wy_pair (L : List Int) : ∀ c m, (wy L c m).2 ≤ (wy L c m).1 + (wy (ng L) c (-m)).1 := by
  induction L with
  | nil =>
    intro c m
    cases c with
    | zero => rw [wy_zero, wy_zero]; show (1 : Int) ≤ (if m ≤ 0 then (1 : Int) else 0) + (if -m ≤ 0 then (1 : Int) else 0); split <;> split <;> omega
    | succ c => exact Int.le_refl _
  | cons z t ih =>
    intro c m
    cases c with
    | zero => rw [wy_zero, wy_zero]; show (1 : Int) ≤ (if m ≤ 0 then (1 : Int) else 0) + (if -m ≤ 0 then (1 : Int) else 0); split <;> split <;> omega
    | succ c =>
      by_cases h : t.length < c
      · rw [wy_few m (by simpa using h), wy_few (-m) (by rw [ng_len]; simpa using h)]; exact Int.le_refl _
      · rw [ng_cons, wy_step m h, wy_step (-m) (by rw [ng_len]; exact h)]
        have a := ih c (m - z)
        have b := ih (c + 1) m
        rw [show -m - -z = -(m - z) by omega]
        show (wy t c (m - z)).2 + (wy t (c + 1) m).2 ≤ (wy t c (m - z)).1 + (wy t (c + 1) m).1 + ((wy (ng t) c (-(m - z))).1 + (wy (ng t) (c + 1) (-m)).1)
        omega
def sm : List Int → Int
  | [] => 0
  | z :: t => z + sm t
theorem tot_cons (z : Int) (t : List Int) (k : Nat) : tot (z :: t) (k + 1) = z + tot t k := by
  induction k with
  | zero => simp [tot]
  | succ k ih =>
    show tot (z :: t) (k + 1) + (z :: t).getD (k + 1) 0 = z + (tot t k + t.getD k 0)
    rw [ih]
    simp
    omega
theorem tot_sm (L : List Int) : tot L L.length = sm L := by
  induction L with
  | nil => rfl
  | cons z t ih => rw [List.length_cons, tot_cons, ih]; rfl
theorem sm_ng (L : List Int) : sm (ng L) = -sm L := by
  induction L with
  | nil => rfl
  | cons z t ih => rw [ng_cons]; show -z + sm (ng t) = -(z + sm t); rw [ih]; omega
theorem wy_own (B : List Int) (A : List Int) : ∀ m, m ≤ sm A → 1 ≤ (wy (A ++ B) A.length m).1 := by
  induction A with
  | nil =>
    intro m h
    have h' : m ≤ 0 := h
    rw [List.length_nil, wy_zero]
    show 1 ≤ (if m ≤ 0 then (1 : Int) else 0)
    rw [if_pos h']
    omega
  | cons z t ih =>
    intro m h
    have h' : m ≤ z + sm t := h
    rw [List.cons_append, List.length_cons, wy_step m (by rw [List.length_append]; omega)]
    have a := ih (m - z) (by omega)
    have b := (wy_bd (t ++ B) (t.length + 1) m).1.1
    show 1 ≤ (wy (t ++ B) t.length (m - z)).1 + (wy (t ++ B) (t.length + 1) m).1
    omega
theorem inn_ng (d : Int) : inn (-d) (-1000000) 1000000 = inn d (-1000000) 1000000 := by
  unfold inn
  have a : decide (-1000000 ≤ -d) = decide (d ≤ 1000000) := decide_eq_decide.mpr (by omega)
  have b : decide (-d ≤ 1000000) = decide (-1000000 ≤ d) := decide_eq_decide.mpr (by omega)
  rw [a, b, Bool.and_comm]
theorem okU_ng (L : List Int) (m : Int) : okU (ng L) m = okU L m := by
  unfold okU
  rw [ng_len]
  congr 1
  unfold ng
  rw [List.all_map]
  congr 1
  funext d
  exact inn_ng d

set_option maxRecDepth 100000 in
theorem steps : ∀ m : Fin 9, ∀ i : Fin 8, ((ch (m.val + i.val) i.val : Int) * ((m.val : Int) + ((i.val : Int) + 1))).tdiv ((i.val : Int) + 1) = (ch (m.val + (i.val + 1)) (i.val + 1) : Int) := by decide +kernel
theorem step_at (m i : Nat) (hm : m ≤ 8) (hi : i < 8) : ((ch (m + i) i : Int) * ((m : Int) + ((i : Int) + 1))).tdiv ((i : Int) + 1) = (ch (m + (i + 1)) (i + 1) : Int) := steps ⟨m, by omega⟩ ⟨i, hi⟩
set_option maxRecDepth 100000 in
theorem ch_tops : ∀ m : Fin 9, ∀ i : Fin 9, ch (m.val + i.val) i.val ≤ 12870 := by decide +kernel
theorem ch_top (m i : Nat) (hm : m ≤ 8) (hi : i ≤ 8) : ch (m + i) i ≤ 12870 := ch_tops ⟨m, by omega⟩ ⟨i, by omega⟩

/-- What the law asks of two samples that are right. -/
theorem perm_holds {A B : List Int} (h : (okU A 8 && okU B 8) = true) :
    (pm A B).2 = (ch (B.length + A.length) A.length : Int) ∧ (pm (ng A) (ng B)).2 = (ch (B.length + A.length) A.length : Int) ∧ 1 ≤ (pm A B).1 ∧ (pm A B).1 ≤ (pm A B).2 ∧ 1 ≤ (pm (ng A) (ng B)).1 ∧ (pm A B).2 ≤ (pm A B).1 + (pm (ng A) (ng B)).1 := by
  have e1 : pm A B = wy (A ++ B) A.length (sm A) := by unfold pm; rw [h, tot_sm]; rfl
  have e2 : pm (ng A) (ng B) = wy (ng (A ++ B)) A.length (-sm A) := by
    unfold pm
    rw [okU_ng, okU_ng, h, tot_sm, sm_ng, ng_len, ng_app]
    rfl
  have l : (A ++ B).length = B.length + A.length := by rw [List.length_append]; omega
  refine ⟨?_, ?_, ?_, ?_, ?_, ?_⟩
  · rw [e1, wy_all, l]
  · rw [e2, wy_all, ng_len, l]
  · rw [e1]; exact wy_own B A _ (Int.le_refl _)
  · rw [e1]; exact wy_le _ _ _
  · rw [e2, ng_app, ← sm_ng, ← ng_len A]; exact wy_own (ng B) (ng A) _ (Int.le_refl _)
  · rw [e1, e2]; exact wy_pair _ _ _
theorem perm_no {A B : List Int} (h : (okU A 8 && okU B 8) = false) : pm A B = (0, 0) := by unfold pm; rw [h]; rfl
end Go.Proofs.Ytefheoafpkghjaa.Pe
