/- Drained boxes, plainly: the cell that leaves the front, what it reaches, how it ends. -/
import Derived.Test.YtagkbglgdmajhaaSd
import Derived.Test.YtagkbglgdmajhaaHp
namespace Go.Proofs.Ytagkbglgdmajhaa.Dp
open Go.Proofs.Ytagkbglgdmajhaa.Gd

structure S3 where
  F : List Int
  N : List Int
  H : List Int
def edB (r c : Int) (x : Nat) : Bool := (x : Int) / c == 0 || (x : Int) % c == 0 || (x : Int) / c == r - 1 || (x : Int) % c == c - 1
def H0 (r c : Int) (n k : Nat) : List Int := (List.range n).map fun (x : Nat) => if x < k && edB r c x then (1 : Int) else 0
def cnt (v : Int) : List Int → Nat
  | [] => 0
  | x :: L => (if x = v then 1 else 0) + cnt v L
theorem cnt_le (v : Int) : ∀ L, cnt v L ≤ L.length
  | [] => Nat.le_refl _
  | x :: L => by have := cnt_le v L; simp only [cnt, List.length_cons]; split <;> omega
theorem cnt_set (v u : Int) : ∀ (L : List Int) (i : Nat), i < L.length → cnt v (L.set i u) + (if L.getD i 0 = v then 1 else 0) = cnt v L + (if u = v then 1 else 0)
  | x :: L, 0, _ => by simp only [List.set_cons_zero, cnt, List.getD_cons_zero]; omega
  | x :: L, i + 1, h => by
    have := cnt_set v u L i (by simpa using h)
    simp only [List.set_cons_succ, cnt, List.getD_cons_succ]
    omega
theorem cnt_zero {v : Int} : ∀ {L : List Int}, cnt v L = 0 → ∀ i, i < L.length → L.getD i 0 ≠ v
  | x :: L, h, 0, _ => by simp only [cnt] at h; simp only [List.getD_cons_zero]; intro e; rw [if_pos e] at h; omega
  | x :: L, h, i + 1, hi => by
    simp only [cnt] at h
    simp only [List.getD_cons_succ]
    exact cnt_zero (by omega) i (by simpa using hi)
theorem set_get {L : List Int} {i : Nat} (hi : i < L.length) (u : Int) (x : Nat) : (L.set i u).getD x 0 = if x = i then u else L.getD x 0 := by
  by_cases e : x = i
  · subst e; rw [if_pos rfl]; simp [List.getD_eq_getElem?_getD, hi]
  · rw [if_neg e]; simp [List.getD_eq_getElem?_getD, List.getElem?_set_ne (show i ≠ x by omega)]
theorem H0_len (r c : Int) (n k : Nat) : (H0 r c n k).length = n := by simp [H0]
theorem H0_get (r c : Int) {n k x : Nat} (h : x < n) : (H0 r c n k).getD x 0 = if x < k && edB r c x then 1 else 0 := by
  simp [H0, List.getD_eq_getElem?_getD, h]
theorem list_ext {A B : List Int} (hl : A.length = B.length) (h : ∀ x, x < A.length → A.getD x 0 = B.getD x 0) : A = B := by
  apply List.ext_getElem hl
  intro i h1 h2
  have := h i h1
  simpa [List.getD_eq_getElem?_getD, h1, h2] using this
theorem H0_next (r c : Int) {n k : Nat} (hk : k < n) : H0 r c n (k + 1) = if edB r c k then (H0 r c n k).set k 1 else H0 r c n k := by
  cases e : edB r c k
  · rw [if_neg (by simp)]
    refine list_ext (by rw [H0_len, H0_len]) (fun x hx => ?_)
    rw [H0_len] at hx
    rw [H0_get r c hx, H0_get r c hx]
    by_cases q : x = k
    · subst q; simp [e]
    · have : (decide (x < k + 1)) = decide (x < k) := by rw [decide_eq_decide]; omega
      rw [this]
  · rw [if_pos rfl]
    refine list_ext (by rw [List.length_set, H0_len, H0_len]) (fun x hx => ?_)
    rw [H0_len] at hx
    rw [set_get (by rw [H0_len]; exact hk), H0_get r c hx, H0_get r c hx]
    by_cases q : x = k
    · subst q; simp [e]
    · rw [if_neg q]
      have : (decide (x < k + 1)) = decide (x < k) := by rw [decide_eq_decide]; omega
      rw [this]
theorem H0_none (r c : Int) (n : Nat) : cnt 1 (H0 r c n 0) = 0 := by
  have e : ∀ L : List Int, (∀ i, i < L.length → L.getD i 0 ≠ 1) → cnt 1 L = 0 := by
    intro L
    induction L with
    | nil => intro _; rfl
    | cons x L ih =>
      intro h
      simp only [cnt]
      rw [if_neg (by have := h 0 (by simp); simpa using this), ih (fun i hi => by have := h (i + 1) (by simpa using hi); simpa using this)]
  refine e _ (fun i hi => ?_)
  rw [H0_len] at hi
  rw [H0_get r c hi]
  simp

/-- the front: its keys -/
structure HK (n : Nat) (F H P : List Int) : Prop where
  len : P.length = cnt 1 H
  nod : P.Nodup
  mem : ∀ K, K ∈ P ↔ ∃ x, x < n ∧ H.getD x 0 = 1 ∧ K = F.getD x 0 * 1000 + x
theorem HK.le {n : Nat} {F H P : List Int} (h : HK n F H P) (hn : H.length = n) : P.length ≤ n := by rw [h.len, ← hn]; exact cnt_le _ _
theorem HK.push {n : Nat} {F H P Q : List Int} (h : HK n F H P) (hF : F.length = n) (hH : H.length = n) (hn : n ≤ 1000) {y : Nat} (hy : y < n) (h0 : H.getD y 0 = 0) (u : Int) (p : Q.Perm (P ++ [u * 1000 + y])) : HK n (F.set y u) (H.set y 1) Q := by
  have gH := set_get (L := H) (by rw [hH]; exact hy) 1
  have gF := set_get (L := F) (by rw [hF]; exact hy) u
  have nm : u * 1000 + (y : Int) ∉ P := fun e => by
    obtain ⟨x, hx, h1, e⟩ := (h.mem _).1 e
    have : x = y := by omega
    subst this
    rw [h0] at h1
    omega
  refine ⟨?_, ?_, fun K => ?_⟩
  · rw [p.length_eq, List.length_append, h.len]
    have := cnt_set 1 1 H y (by omega)
    rw [h0] at this
    simp at this
    simpa using this.symm
  · rw [p.nodup_iff, (List.perm_append_singleton _ _).nodup_iff, List.nodup_cons]
    exact ⟨nm, h.nod⟩
  · rw [p.mem_iff, List.mem_append, h.mem]
    constructor
    · rintro (⟨x, hx, h1, e⟩ | e)
      · have ne : x ≠ y := fun q => by subst q; rw [h0] at h1; omega
        exact ⟨x, hx, by rw [gH, if_neg ne]; exact h1, by rw [gF, if_neg ne]; exact e⟩
      · simp at e
        exact ⟨y, hy, by rw [gH, if_pos rfl], by rw [gF, if_pos rfl]; exact e⟩
    · rintro ⟨x, hx, h1, e⟩
      by_cases q : x = y
      · subst q
        rw [gF, if_pos rfl] at e
        exact .inr (by simp [e])
      · rw [gH, if_neg q] at h1
        rw [gF, if_neg q] at e
        exact .inl ⟨x, hx, h1, e⟩
def IsMin (n : Nat) (F H : List Int) (t : Nat) : Prop := t < n ∧ H.getD t 0 = 1 ∧ ∀ k, k < n → H.getD k 0 = 1 → F.getD t 0 * 1000 + t ≤ F.getD k 0 * 1000 + k
theorem IsMin.uniq {n : Nat} {F H : List Int} {t u : Nat} (hn : n ≤ 1000) (h : IsMin n F H t) (k : IsMin n F H u) : t = u := by
  have := h.2.2 u k.1 k.2.1
  have := k.2.2 t h.1 h.2.1
  have := h.1
  have := k.1
  omega
theorem HK.pop {n : Nat} {F H P Q : List Int} (h : HK n F H P) (hH : H.length = n) (hn : n ≤ 1000) (h0 : 0 < P.length) (least : ∀ k, k < P.length → P.getD 0 0 ≤ P.getD k 0) (p : P.Perm (P.getD 0 0 :: Q)) :
    ∃ t, IsMin n F H t ∧ P.getD 0 0 = F.getD t 0 * 1000 + t ∧ HK n F (H.set t 2) Q := by
  have m0 : P.getD 0 0 ∈ P := by
    rw [List.getD_eq_getElem?_getD, List.getElem?_eq_getElem h0]; exact List.getElem_mem _
  obtain ⟨t, ht, h1, e⟩ := (h.mem _).1 m0
  have gH := set_get (L := H) (show t < H.length by omega) 2
  have nd := (p.nodup_iff.1 h.nod)
  rw [List.nodup_cons] at nd
  refine ⟨t, ⟨ht, h1, fun k hk hk1 => ?_⟩, e, ?_, nd.2, fun K => ?_⟩
  · obtain ⟨i, hi, ei⟩ := List.getElem_of_mem ((h.mem (F.getD k 0 * 1000 + k)).2 ⟨k, hk, hk1, rfl⟩)
    have := least i hi
    rw [e] at this
    rw [show P.getD i 0 = F.getD k 0 * 1000 + k by simp [List.getD_eq_getElem?_getD, hi, ei]] at this
    exact this
  · have a := p.length_eq
    have b := cnt_set 1 2 H t (by omega)
    rw [h1] at b
    simp at a b
    have := h.len
    omega
  · have q : K ∈ P ↔ K = P.getD 0 0 ∨ K ∈ Q := by rw [p.mem_iff]; simp
    constructor
    · intro hK
      obtain ⟨x, hx, x1, ex⟩ := (h.mem K).1 (q.2 (.inr hK))
      refine ⟨x, hx, ?_, ex⟩
      rw [gH]
      by_cases xt : x = t
      · subst xt
        exact absurd hK (by rw [ex, ← e]; exact nd.1)
      · rw [if_neg xt]; exact x1
    · rintro ⟨x, hx, x1, ex⟩
      rw [gH] at x1
      by_cases xt : x = t
      · rw [if_pos xt] at x1; omega
      · rw [if_neg xt] at x1
        rcases q.1 ((h.mem K).2 ⟨x, hx, x1, ex⟩) with y | y
        · rw [e] at y
          omega
        · exact y
end Go.Proofs.Ytagkbglgdmajhaa.Dp
