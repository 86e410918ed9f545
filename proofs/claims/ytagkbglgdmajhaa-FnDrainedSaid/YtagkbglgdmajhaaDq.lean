/- Drained boxes, plainly: the steps from the edge on, the end of them all. -/
import Derived.Test.YtagkbglgdmajhaaDp
namespace Go.Proofs.Ytagkbglgdmajhaa.Dp
open Go.Proofs.Ytagkbglgdmajhaa.Gd

def ini (r c : Int) (L : List Int) : S3 := ⟨L, List.replicate L.length (-1), H0 r c L.length L.length⟩
def nb (L : List Int) (t : Nat) (s : S3) (y : Nat) : S3 := if s.H.getD y 0 = 0 then ⟨s.F.set y (max (L.getD y 0) (s.F.getD t 0)), s.N.set y t, s.H.set y 1⟩ else s
def mk (s : S3) (t : Nat) : S3 := ⟨s.F, s.N, s.H.set t 2⟩
def ys (r c : Int) (t : Nat) : List Nat := (s4 r c t).map Int.toNat
def stp (r c : Int) (L : List Int) (s : S3) (t : Nat) : S3 := (ys r c t).foldl (nb L t) (mk s t)
def Rch (r c : Int) (L : List Int) : Nat → S3 → Prop
  | 0, s => s = ini r c L
  | k + 1, s => ∃ s0 t, Rch r c L k s0 ∧ IsMin L.length s0.F s0.H t ∧ s = stp r c L s0 t
theorem rch_det {r c : Int} {L : List Int} (hn : L.length ≤ 1000) : ∀ {k : Nat} {s u : S3}, Rch r c L k s → Rch r c L k u → s = u
  | 0, _, _, h, g => h.trans g.symm
  | k + 1, _, _, ⟨s0, t, h1, h2, h3⟩, ⟨u0, v, g1, g2, g3⟩ => by
    have e := rch_det hn h1 g1
    subst e
    have := h2.uniq hn g2
    subst this
    rw [h3, g3]
def Fin (n : Nat) (s : S3) : Prop := ∀ x, x < n → s.H.getD x 0 ≠ 1
theorem rch_back {r c : Int} {L : List Int} : ∀ {k : Nat} {s : S3}, Rch r c L k s → ∀ j, j < k → ∃ s0 t, Rch r c L j s0 ∧ IsMin L.length s0.F s0.H t
  | k + 1, _, ⟨s0, t, h1, h2, _⟩, j, hj => by
    by_cases e : j = k
    · subst e; exact ⟨s0, t, h1, h2⟩
    · exact rch_back h1 j (by omega)
theorem fin_uniq {r c : Int} {L : List Int} (hn : L.length ≤ 1000) {j k : Nat} {s u : S3} (h : Rch r c L j s) (hf : Fin L.length s) (g : Rch r c L k u) (gf : Fin L.length u) : s = u := by
  rcases Nat.lt_trichotomy j k with e | e | e
  · obtain ⟨s0, t, h1, h2⟩ := rch_back g j e
    rw [rch_det hn h1 h] at h2
    exact absurd h2.2.1 (hf t h2.1)
  · subst e; exact rch_det hn h g
  · obtain ⟨s0, t, h1, h2⟩ := rch_back h k e
    rw [rch_det hn h1 g] at h2
    exact absurd h2.2.1 (gf t h2.1)

/-- what holds of each state, halfway too -/
structure Inv (r c : Int) (L : List Int) (s : S3) : Prop where
  lf : s.F.length = L.length
  ln : s.N.length = L.length
  lh : s.H.length = L.length
  vals : ∀ x, x < L.length → s.H.getD x 0 = 0 ∨ s.H.getD x 0 = 1 ∨ s.H.getD x 0 = 2
  un : ∀ x, x < L.length → s.H.getD x 0 = 0 → s.F.getD x 0 = L.getD x 0
  ed : ∀ x, x < L.length → edB r c x = true → s.H.getD x 0 ≠ 0
def Nbs (r c : Int) (n : Nat) (s : S3) (t : Nat) : Prop := ∀ x, x < n → x ≠ t → s.H.getD x 0 = 2 → ∀ y ∈ ys r c x, s.H.getD y 0 ≠ 0
theorem Inv.ini (r c : Int) (L : List Int) : Inv r c L (Dp.ini r c L) := by
  refine ⟨rfl, by simp [Dp.ini], H0_len _ _ _ _, fun x hx => ?_, fun x _ _ => rfl, fun x hx he => ?_⟩
  · show (H0 r c L.length L.length).getD x 0 = 0 ∨ (H0 r c L.length L.length).getD x 0 = 1 ∨ (H0 r c L.length L.length).getD x 0 = 2
    rw [H0_get r c hx]
    split
    · exact .inr (.inl rfl)
    · exact .inl rfl
  · show (H0 r c L.length L.length).getD x 0 ≠ 0
    rw [H0_get r c hx]
    simp [hx, he]
theorem Inv.mkk {r c : Int} {L : List Int} {s : S3} (h : Inv r c L s) {t : Nat} (ht : t < L.length) : Inv r c L (Dp.mk s t) := by
  have g := set_get (L := s.H) (show t < s.H.length by rw [h.lh]; exact ht) 2
  refine ⟨h.lf, h.ln, by show (s.H.set t 2).length = _; rw [List.length_set]; exact h.lh, fun x hx => ?_, fun x hx e => ?_, fun x hx he => ?_⟩
  · show (s.H.set t 2).getD x 0 = 0 ∨ (s.H.set t 2).getD x 0 = 1 ∨ (s.H.set t 2).getD x 0 = 2
    rw [g]
    by_cases q : x = t
    · rw [if_pos q]; omega
    · rw [if_neg q]; exact h.vals x hx
  · change (s.H.set t 2).getD x 0 = 0 at e
    rw [g] at e
    by_cases q : x = t
    · rw [if_pos q] at e; omega
    · rw [if_neg q] at e; exact h.un x hx e
  · show (s.H.set t 2).getD x 0 ≠ 0
    rw [g]
    by_cases q : x = t
    · rw [if_pos q]; omega
    · rw [if_neg q]; exact h.ed x hx he
theorem nb_no {L : List Int} {t : Nat} {s : S3} {y : Nat} (h : s.H.getD y 0 ≠ 0) : nb L t s y = s := if_neg h
theorem nb_yes {L : List Int} {t : Nat} {s : S3} {y : Nat} (h : s.H.getD y 0 = 0) : nb L t s y = ⟨s.F.set y (max (L.getD y 0) (s.F.getD t 0)), s.N.set y t, s.H.set y 1⟩ := if_pos h
theorem Inv.nb {r c : Int} {L : List Int} {s : S3} (h : Inv r c L s) {t y : Nat} (hy : y < L.length) : Inv r c L (Dp.nb L t s y) := by
  by_cases e : s.H.getD y 0 = 0
  · rw [nb_yes e]
    have g := set_get (L := s.H) (show y < s.H.length by rw [h.lh]; exact hy) 1
    have gF := set_get (L := s.F) (show y < s.F.length by rw [h.lf]; exact hy) (max (L.getD y 0) (s.F.getD t 0))
    refine ⟨by show (s.F.set _ _).length = _; rw [List.length_set]; exact h.lf, by show (s.N.set _ _).length = _; rw [List.length_set]; exact h.ln, by show (s.H.set _ _).length = _; rw [List.length_set]; exact h.lh, fun x hx => ?_, fun x hx q => ?_, fun x hx he => ?_⟩
    · show (s.H.set y 1).getD x 0 = 0 ∨ (s.H.set y 1).getD x 0 = 1 ∨ (s.H.set y 1).getD x 0 = 2
      rw [g]
      by_cases q : x = y
      · rw [if_pos q]; omega
      · rw [if_neg q]; exact h.vals x hx
    · change (s.H.set y 1).getD x 0 = 0 at q
      show (s.F.set y _).getD x 0 = _
      rw [g] at q
      by_cases xy : x = y
      · rw [if_pos xy] at q; omega
      · rw [if_neg xy] at q
        rw [gF, if_neg xy]
        exact h.un x hx q
    · show (s.H.set y 1).getD x 0 ≠ 0
      rw [g]
      by_cases q : x = y
      · rw [if_pos q]; omega
      · rw [if_neg q]; exact h.ed x hx he
  · rw [nb_no e]; exact h
/-- a neighbour more: what was not 0 stays so, what was 2 stays so, none becomes 2 -/
theorem nb_keep {L : List Int} {t y : Nat} {s : S3} (hy : y < s.H.length) : (∀ x, s.H.getD x 0 ≠ 0 → (nb L t s y).H.getD x 0 = s.H.getD x 0) ∧ (∀ x, (nb L t s y).H.getD x 0 = 2 → s.H.getD x 0 = 2) ∧ (nb L t s y).H.getD y 0 ≠ 0 ∧ (nb L t s y).H.length = s.H.length ∧ (∀ x, s.H.getD x 0 ≠ 0 → (nb L t s y).F.getD x 0 = s.F.getD x 0) := by
  by_cases e : s.H.getD y 0 = 0
  · rw [nb_yes e]
    have g := set_get hy 1
    refine ⟨fun x hx => ?_, fun x hx => ?_, ?_, by simp, fun x hx => ?_⟩
    · show (s.H.set y 1).getD x 0 = _
      rw [g, if_neg (fun q => by subst q; exact hx e)]
    · change (s.H.set y 1).getD x 0 = 2 at hx
      rw [g] at hx
      by_cases q : x = y
      · rw [if_pos q] at hx; omega
      · rw [if_neg q] at hx; exact hx
    · show (s.H.set y 1).getD y 0 ≠ 0
      rw [g, if_pos rfl]; omega
    · have : x ≠ y := fun q => by subst q; exact hx e
      show (s.F.set y _).getD x 0 = _
      simp [List.getD_eq_getElem?_getD, List.getElem?_set_ne (show y ≠ x by omega)]
  · rw [nb_no e]
    exact ⟨fun _ _ => rfl, fun _ h => h, e, rfl, fun _ _ => rfl⟩
theorem fold_keep {L : List Int} {t : Nat} : ∀ (Y : List Nat) (s : S3), (∀ y ∈ Y, y < s.H.length) → (∀ x, s.H.getD x 0 ≠ 0 → (Y.foldl (nb L t) s).H.getD x 0 = s.H.getD x 0) ∧ (∀ x, (Y.foldl (nb L t) s).H.getD x 0 = 2 → s.H.getD x 0 = 2) ∧ (∀ y ∈ Y, (Y.foldl (nb L t) s).H.getD y 0 ≠ 0)
  | [], s, _ => ⟨fun _ _ => rfl, fun _ h => h, fun y h => by simp at h⟩
  | y :: Y, s, h => by
    obtain ⟨a1, a2, a3, a4, _⟩ := nb_keep (L := L) (t := t) (h y (by simp))
    obtain ⟨b1, b2, b3⟩ := fold_keep (L := L) (t := t) Y (nb L t s y) (fun z hz => by rw [a4]; exact h z (by simp [hz]))
    refine ⟨fun x hx => ?_, fun x hx => a2 x (b2 x hx), fun z hz => ?_⟩
    · rw [List.foldl_cons, b1 x (by rw [a1 x hx]; exact hx), a1 x hx]
    · rw [List.foldl_cons]
      rcases List.mem_cons.1 hz with rfl | hz
      · rw [b1 _ a3]; exact a3
      · exact b3 z hz
theorem Inv.fold {r c : Int} {L : List Int} {t : Nat} : ∀ (Y : List Nat) (s : S3), (∀ y ∈ Y, y < L.length) → Inv r c L s → Inv r c L (Y.foldl (Dp.nb L t) s)
  | [], _, _, h => h
  | y :: Y, s, hy, h => by
    rw [List.foldl_cons]
    exact Inv.fold Y _ (fun z hz => hy z (by simp [hz])) (h.nb (hy y (by simp)))
structure Good (r c : Int) (L : List Int) (s : S3) : Prop where
  inv : Inv r c L s
  nbs : ∀ x, x < L.length → s.H.getD x 0 = 2 → ∀ y ∈ ys r c x, s.H.getD y 0 ≠ 0
/-- the neighbours lie within -/
theorem s4_in {r c x : Int} (hc : 1 ≤ c) (hx : 0 ≤ x ∧ x < r * c) : (s4 r c x).length ≤ 4 ∧ ∀ y ∈ s4 r c x, 0 ≤ y ∧ y < r * c := by
  have i1 : 0 ≤ x / c ∧ x / c < r := ⟨Int.ediv_nonneg hx.1 (by omega), (Int.ediv_lt_iff_lt_mul (by omega)).2 hx.2⟩
  have j1 : 0 ≤ x % c ∧ x % c < c := ⟨Int.emod_nonneg _ (by omega), Int.emod_lt_of_pos _ (by omega)⟩
  have e : x = x / c * c + x % c := by have := Int.mul_ediv_add_emod x c; rw [Int.mul_comm] at this; omega
  have t : ∀ a b : Int, a ≤ b → a * c ≤ b * c := fun a b h => Int.mul_le_mul_of_nonneg_right h (by omega)
  have k1 : x / c < r - 1 → x + c < r * c := fun h => by have := t (x / c + 2) r (by omega); rw [Int.add_mul] at this; omega
  have k2 : x % c < c - 1 → x + 1 < r * c := fun h => by have := t (x / c + 1) r (by omega); rw [Int.add_mul] at this; omega
  have k3 : 0 < x / c → 0 ≤ x - c := fun h => by have := t 1 (x / c) (by omega); omega
  have k4 : 0 < x % c → 0 ≤ x - 1 := fun h => by have := t 0 (x / c) (by omega); omega
  unfold s4 s3 s2 s1
  generalize x / c = i at *
  generalize x % c = j at *
  constructor
  · simp only [List.length_append]
    split <;> split <;> split <;> split <;> simp
  · intro y hy
    simp only [List.mem_append] at hy
    rcases hy with ((h | h) | h) | h
    · by_cases q : i < r - 1
      · rw [if_pos q] at h; simp at h; have := k1 q; omega
      · rw [if_neg q] at h; simp at h
    · by_cases q : j < c - 1
      · rw [if_pos q] at h; simp at h; have := k2 q; omega
      · rw [if_neg q] at h; simp at h
    · by_cases q : 0 < i
      · rw [if_pos q] at h; simp at h; have := k3 q; omega
      · rw [if_neg q] at h; simp at h
    · by_cases q : 0 < j
      · rw [if_pos q] at h; simp at h; have := k4 q; omega
      · rw [if_neg q] at h; simp at h
theorem ys_in {r c : Int} {L : List Int} (hc : 1 ≤ c) (hn : (L.length : Int) = r * c) {t : Nat} (ht : t < L.length) : ∀ y ∈ ys r c t, y < L.length := by
  intro y hy
  obtain ⟨z, hz, rfl⟩ := List.mem_map.1 hy
  have := (s4_in hc (show 0 ≤ (t : Int) ∧ (t : Int) < r * c by omega)).2 z hz
  omega
theorem Good.ini (r c : Int) (L : List Int) : Good r c L (Dp.ini r c L) := by
  refine ⟨Inv.ini r c L, fun x hx h => ?_⟩
  have : (H0 r c L.length L.length).getD x 0 = 2 := h
  rw [H0_get r c hx] at this
  split at this <;> omega
theorem Good.stp {r c : Int} {L : List Int} {s : S3} (h : Good r c L s) (hc : 1 ≤ c) (hn : (L.length : Int) = r * c) {t : Nat} (ht : IsMin L.length s.F s.H t) : Good r c L (Dp.stp r c L s t) := by
  have hy := ys_in hc hn ht.1
  have hm := h.inv.mkk ht.1
  obtain ⟨a1, a2, a3⟩ := fold_keep (L := L) (t := t) (ys r c t) (Dp.mk s t) (fun y q => by rw [hm.lh]; exact hy y q)
  refine ⟨Inv.fold _ _ hy hm, fun x hx e y q => ?_⟩
  have g := set_get (L := s.H) (show t < s.H.length by rw [h.inv.lh]; exact ht.1) 2
  by_cases xt : x = t
  · subst xt; exact a3 y q
  · have e2 : (s.H.set t 2).getD x 0 = 2 := a2 x e
    rw [g, if_neg xt] at e2
    have nz := h.nbs x hx e2 y q
    have nz2 : (Dp.mk s t).H.getD y 0 ≠ 0 := by
      show (s.H.set t 2).getD y 0 ≠ 0
      rw [g]
      by_cases yt : y = t
      · rw [if_pos yt]; omega
      · rw [if_neg yt]; exact nz
    show ((ys r c t).foldl (nb L t) (Dp.mk s t)).H.getD y 0 ≠ 0
    rw [a1 y nz2]; exact nz2
theorem rch_good {r c : Int} {L : List Int} (hc : 1 ≤ c) (hn : (L.length : Int) = r * c) : ∀ {k : Nat} {s : S3}, Rch r c L k s → Good r c L s
  | 0, _, h => by rw [h]; exact Good.ini r c L
  | k + 1, _, ⟨s0, t, h1, h2, h3⟩ => by rw [h3]; exact (rch_good hc hn h1).stp hc hn h2
/-- at the end every cell has left the front -/
theorem all_two {r c : Int} {L : List Int} {s : S3} (hc : 1 ≤ c) (hn : (L.length : Int) = r * c) (h : Good r c L s) (hf : Fin L.length s) : ∀ x, x < L.length → s.H.getD x 0 = 2 := by
  intro x
  induction x using Nat.strongRecOn with
  | _ x ih =>
    intro hx
    have nz : s.H.getD x 0 ≠ 0 := by
      by_cases e : (x : Int) < c
      · refine h.inv.ed x hx ?_
        unfold edB
        rw [Int.ediv_eq_zero_of_lt (by omega) e]
        simp
      · obtain ⟨y, hy⟩ : ∃ y : Nat, (y : Int) = x - c := ⟨((x : Int) - c).toNat, by omega⟩
        have y2 := ih y (by omega) (by omega)
        refine h.nbs y (by omega) y2 x ?_
        unfold ys s4 s3 s2 s1
        have q : (y : Int) / c < r - 1 := by
          have : ((y : Int) + c) / c < r := (Int.ediv_lt_iff_lt_mul (by omega)).2 (by omega)
          rw [Int.add_ediv_of_dvd_right ⟨1, by omega⟩, Int.ediv_self (by omega)] at this
          omega
        rw [if_pos q]
        refine List.mem_map.2 ⟨(y : Int) + c, by simp, by omega⟩
    rcases h.inv.vals x hx with e | e | e
    · exact absurd e nz
    · exact absurd e (hf x hx)
    · exact e
/-- the program's next -/
def NX (n : Nat) (s : S3) (X : List Int) : Prop := X.length = n ∧ ∀ x, x < n → X.getD x 0 = if s.H.getD x 0 = 0 then -2 else s.N.getD x 0
theorem nx_fin {r c : Int} {L X : List Int} {s : S3} (h : NX L.length s X) (g : Good r c L s) (a : ∀ x, x < L.length → s.H.getD x 0 = 2) : X = s.N := by
  refine list_ext (h.1.trans g.inv.ln.symm) (fun x hx => ?_)
  rw [h.1] at hx
  rw [h.2 x hx, a x hx]
  rfl
theorem nx_mk {n : Nat} {s : S3} {X : List Int} {t : Nat} (h : NX n s X) (ht : t < n) (hH : s.H.length = n) (h1 : s.H.getD t 0 ≠ 0) : NX n (mk s t) X := by
  have g := set_get (L := s.H) (show t < s.H.length by omega) 2
  refine ⟨h.1, fun x hx => ?_⟩
  rw [h.2 x hx]
  show _ = if (s.H.set t 2).getD x 0 = 0 then -2 else s.N.getD x 0
  rw [g]
  by_cases q : x = t
  · subst q; rw [if_neg h1, if_pos rfl]; rfl
  · rw [if_neg q]
theorem nx_nb {n : Nat} {s : S3} {X : List Int} {y : Nat} (h : NX n s X) (hy : y < n) (hH : s.H.length = n) (hN : s.N.length = n) (t : Int) (F : List Int) : NX n ⟨F, s.N.set y t, s.H.set y 1⟩ (X.set y t) := by
  have g := set_get (L := s.H) (show y < s.H.length by omega) 1
  have gN := set_get (L := s.N) (show y < s.N.length by omega) t
  have gX := set_get (L := X) (show y < X.length by rw [h.1]; exact hy) t
  refine ⟨by rw [List.length_set]; exact h.1, fun x hx => ?_⟩
  show (X.set y t).getD x 0 = if (s.H.set y 1).getD x 0 = 0 then -2 else (s.N.set y t).getD x 0
  rw [g, gN, gX]
  by_cases q : x = y
  · rw [if_pos q, if_pos q, if_pos q]; rfl
  · rw [if_neg q, if_neg q, if_neg q]; exact h.2 x hx
end Go.Proofs.Ytagkbglgdmajhaa.Dp
