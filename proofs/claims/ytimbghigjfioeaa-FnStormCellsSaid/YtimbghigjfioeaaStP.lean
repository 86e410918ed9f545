/- Storm cells, plain: what the run gives. -/
import Derived.Test.YtimbghigjfioeaaClP
namespace Go.Proofs.Ytimbghigjfioeaa.Cl

structure RI (nbs : Nat → List Nat) (hi : Nat → Bool) (N k : Nat) (n : Int) (A : List Int) : Prop where
  len : A.length = N
  nn : 0 ≤ n
  up : ∀ x, x < N → 0 ≤ A.getD x 0 ∧ A.getD x 0 ≤ n
  hg : ∀ x, x < N → A.getD x 0 ≠ 0 → hi x = true
  dn : ∀ x, x < k → hi x = true → A.getD x 0 ≠ 0
  cl : ∀ x, x < N → A.getD x 0 ≠ 0 → ∀ y ∈ nbs x, hi y = true → A.getD y 0 = A.getD x 0
  fs : ∀ t : Int, 1 ≤ t → t ≤ n → ∃ c, c < k ∧ A.getD c 0 = t ∧ ∀ x, x < N → t ≤ A.getD x 0 → c ≤ x
theorem rch_is {nbs : Nat → List Nat} {hi : Nat → Bool} {A : List Int} {N k x : Nat} (hb : ∀ x, x < N → ∀ y ∈ nbs x, y < N) (hk : k < N) (h0 : A.getD k 0 = 0) (hh : hi k = true) (r : Rch nbs hi A k x) : x < N ∧ hi x = true ∧ A.getD x 0 = 0 := by
  induction r with
  | base => exact ⟨hk, hh, h0⟩
  | step _ hy h1 h2 ih => exact ⟨hb _ ih.1 _ hy, h1, h2⟩
theorem ri_take {nbs : Nat → List Nat} {hi : Nat → Bool} {N k : Nat} {n : Int} {A A' : List Int} (hb : ∀ x, x < N → ∀ y ∈ nbs x, y < N) (hs : ∀ x, x < N → ∀ y ∈ nbs x, x ∈ nbs y) (hk : k < N) (h : RI nbs hi N k n A) (h0 : A.getD k 0 = 0) (hh : hi k = true) (f : Fill nbs hi A k (n + 1) A') : RI nbs hi N (k + 1) (n + 1) A' := by
  obtain ⟨f1, f2⟩ := f
  rw [h.len] at f2
  have nn := h.nn
  have R := fun x (r : Rch nbs hi A k x) => rch_is (N := N) hb hk h0 hh r
  have lo : ∀ x, Rch nbs hi A k x → k ≤ x := fun x r => by
    by_cases q : x < k
    · exact absurd (R x r).2.2 (h.dn x q (R x r).2.1)
    · omega
  refine ⟨f1.trans h.len, by omega, fun x hx => ?_, fun x hx hm => ?_, fun x hx hm => ?_, fun x hx hm y hy hhy => ?_, fun t t1 t2 => ?_⟩
  · by_cases r : Rch nbs hi A k x
    · rw [(f2 x hx).1 r]; omega
    · rw [(f2 x hx).2 r]; have := h.up x hx; omega
  · by_cases r : Rch nbs hi A k x
    · exact (R x r).2.1
    · rw [(f2 x hx).2 r] at hm; exact h.hg x hx hm
  · have hxN : x < N := by omega
    by_cases r : Rch nbs hi A k x
    · rw [(f2 x hxN).1 r]; omega
    · rw [(f2 x hxN).2 r]
      by_cases e : x = k
      · subst e; exact absurd Rch.base r
      · exact h.dn x (by omega) hm
  · have hyN := hb x hx y hy
    by_cases r : Rch nbs hi A k x
    · by_cases z : A.getD y 0 = 0
      · rw [(f2 y hyN).1 (.step r hy hhy z), (f2 x hx).1 r]
      · have := h.cl y hyN z x (hs x hx y hy) (R x r).2.1
        rw [(R x r).2.2] at this
        exact absurd this.symm z
    · rw [(f2 x hx).2 r] at hm ⊢
      have e := h.cl x hx hm y hy hhy
      have nr : ¬ Rch nbs hi A k y := fun q => by rw [(R y q).2.2] at e; exact hm e.symm
      rw [(f2 y hyN).2 nr, e]
  · by_cases e : t = n + 1
    · refine ⟨k, by omega, by rw [(f2 k hk).1 .base, e], fun x hx hle => ?_⟩
      by_cases r : Rch nbs hi A k x
      · exact lo x r
      · rw [(f2 x hx).2 r] at hle
        have := h.up x hx
        omega
    · obtain ⟨c, c1, c2, c3⟩ := h.fs t t1 (by omega)
      refine ⟨c, by omega, ?_, fun x hx hle => ?_⟩
      · have nr : ¬ Rch nbs hi A k c := fun q => by rw [(R c q).2.2] at c2; omega
        rw [(f2 c (by omega)).2 nr]
        exact c2
      · by_cases r : Rch nbs hi A k x
        · have := lo x r; omega
        · rw [(f2 x hx).2 r] at hle
          exact c3 x hx hle
theorem ri_skip {nbs : Nat → List Nat} {hi : Nat → Bool} {N k : Nat} {n : Int} {A : List Int} (h : RI nbs hi N k n A) (h0 : ¬ (A.getD k 0 = 0 ∧ hi k = true)) : RI nbs hi N (k + 1) n A :=
  ⟨h.len, h.nn, h.up, h.hg, fun x hx hh => by
    by_cases e : x = k
    · subst e; exact fun q => h0 ⟨q, hh⟩
    · exact h.dn x (by omega) hh, h.cl, fun t t1 t2 => by
    obtain ⟨c, c1, c2⟩ := h.fs t t1 t2
    exact ⟨c, by omega, c2⟩⟩
theorem ri_run {nbs : Nat → List Nat} {hi : Nat → Bool} {N : Nat} {Z : List Int} (hZ : Z.length = N) (hz : ∀ x, Z.getD x 0 = 0) (hb : ∀ x, x < N → ∀ y ∈ nbs x, y < N) (hs : ∀ x, x < N → ∀ y ∈ nbs x, x ∈ nbs y) : ∀ {k : Nat} {n : Int} {A : List Int}, k ≤ N → Run nbs hi k Z n A → RI nbs hi N k n A
  | 0, _, _, _, h => by
    obtain ⟨rfl, rfl⟩ := h
    exact ⟨hZ, Int.le_refl _, fun x _ => by rw [hz]; omega, fun x _ h => absurd (hz x) h, fun x hx => absurd hx (by omega), fun x _ h => absurd (hz x) h, fun t t1 t2 => by omega⟩
  | k + 1, n, A, hk, h => by
    obtain ⟨n1, A1, h1, h2⟩ := h
    have ih := ri_run hZ hz hb hs (Nat.le_of_succ_le hk) h1
    by_cases e : A1.getD k 0 = 0 ∧ hi k = true
    · rw [if_pos e] at h2
      obtain ⟨rfl, f⟩ := h2
      exact ri_take hb hs hk ih e.1 e.2 f
    · rw [if_neg e] at h2
      obtain ⟨rfl, rfl⟩ := h2
      exact ri_skip ih e
/-- The most of the first so many. -/
def mx (A : List Int) : Nat → Int
  | 0 => 0
  | k + 1 => max (mx A k) (A.getD k 0)
theorem mx_ge (A : List Int) : ∀ k, 0 ≤ mx A k
  | 0 => Int.le_refl _
  | k + 1 => by have := mx_ge A k; unfold mx; omega
theorem mx_at (A : List Int) (c : Nat) : ∀ k : Nat, c < k → A.getD c 0 ≤ mx A k
  | 0, h => absurd h (by omega)
  | k + 1, h => by
    unfold mx
    by_cases e : c = k
    · subst e; omega
    · have := mx_at A c k (by omega); omega
theorem mx_le {A : List Int} {m : Int} (hm : 0 ≤ m) : ∀ {k : Nat}, (∀ x, x < k → A.getD x 0 ≤ m) → mx A k ≤ m
  | 0, _ => hm
  | k + 1, h => by
    unfold mx
    have := mx_le hm (k := k) (fun x hx => h x (by omega))
    have := h k (by omega)
    omega
theorem ri_next {nbs : Nat → List Nat} {hi : Nat → Bool} {N : Nat} {n : Int} {A : List Int} (h : RI nbs hi N N n A) {x : Nat} (hx : x < N) : A.getD x 0 ≤ mx A x + 1 := by
  have := mx_ge A x
  by_cases e : A.getD x 0 ≤ 1
  · omega
  · obtain ⟨c, c1, c2, c3⟩ := h.fs (A.getD x 0 - 1) (by omega) (by have := h.up x hx; omega)
    have c4 := c3 x hx (by omega)
    have c5 : c ≠ x := fun q => by rw [q] at c2; omega
    have := mx_at A c x (by omega)
    omega
theorem ri_high {nbs : Nat → List Nat} {hi : Nat → Bool} {N : Nat} {n : Int} {A : List Int} (h : RI nbs hi N N n A) {x : Nat} (hx : x < N) : decide (0 < A.getD x 0) = hi x := by
  rw [Bool.eq_iff_iff, decide_eq_true_eq]
  have := h.up x hx
  exact ⟨fun q => h.hg x hx (by omega), fun q => by have := h.dn x hx q; omega⟩
end Go.Proofs.Ytimbghigjfioeaa.Cl
