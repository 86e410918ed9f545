/- Storm cells of a box, plain. -/
import Derived.Test.YtimbghigjfioeaaStP
import Derived.Test.YtimbghigjfioeaaClC
import Derived.Test.YtimbghigjfioeaaMvO
namespace Go.Proofs.Ytimbghigjfioeaa.Cl
open Go.ChangeShapes Go.WideShapes Go.ChangeAt Go.RowKit
open Go.Proofs.Ytimbghigjfioeaa.Lists

theorem nbi_mem {r c x y : Int} (hc : 1 ≤ c) (hx : 0 ≤ x ∧ x < r * c) : y ∈ Gd.nbi r c x ↔ (y = x + c ∧ x / c < r - 1) ∨ (y = x + 1 ∧ x % c < c - 1) ∨ (y = x - c ∧ 0 < x / c) ∨ (y = x - 1 ∧ 0 < x % c) := by
  rw [Gd.nbi_is hc hx]
  unfold Gd.s4 Gd.s3 Gd.s2 Gd.s1
  simp only [List.mem_append]
  constructor
  · rintro (((h | h) | h) | h)
    · split at h
      · simp at h; exact .inl ⟨h, by assumption⟩
      · simp at h
    · split at h
      · simp at h; exact .inr (.inl ⟨h, by assumption⟩)
      · simp at h
    · split at h
      · simp at h; exact .inr (.inr (.inl ⟨h, by assumption⟩))
      · simp at h
    · split at h
      · simp at h; exact .inr (.inr (.inr ⟨h, by assumption⟩))
      · simp at h
  · rintro (⟨rfl, h⟩ | ⟨rfl, h⟩ | ⟨rfl, h⟩ | ⟨rfl, h⟩)
    · exact .inl (.inl (.inl (by rw [if_pos h]; simp)))
    · exact .inl (.inl (.inr (by rw [if_pos h]; simp)))
    · exact .inl (.inr (by rw [if_pos h]; simp))
    · exact .inr (by rw [if_pos h]; simp)
theorem dm {c y q m : Int} (hc : 1 ≤ c) (h : y = q * c + m) (h0 : 0 ≤ m) (h1 : m < c) : y / c = q ∧ y % c = m := by
  refine (Int.ediv_emod_unique (by omega)).2 ⟨?_, h0, h1⟩
  rw [Int.mul_comm]
  omega
theorem nbi_symm {r c x y : Int} (hc : 1 ≤ c) (hx : 0 ≤ x ∧ x < r * c) (h : y ∈ Gd.nbi r c x) : x ∈ Gd.nbi r c y := by
  have hy := nbi_in hc h
  rw [nbi_mem hc hx] at h
  rw [nbi_mem hc hy]
  have i1 : 0 ≤ x / c ∧ x / c < r := ⟨Int.ediv_nonneg hx.1 (by omega), (Int.ediv_lt_iff_lt_mul (by omega)).2 hx.2⟩
  have j1 : 0 ≤ x % c ∧ x % c < c := ⟨Int.emod_nonneg _ (by omega), Int.emod_lt_of_pos _ (by omega)⟩
  have e : x = x / c * c + x % c := by have := Int.mul_ediv_add_emod x c; rw [Int.mul_comm] at this; omega
  generalize x / c = i at *
  generalize x % c = j at *
  rcases h with ⟨h, h'⟩ | ⟨h, h'⟩ | ⟨h, h'⟩ | ⟨h, h'⟩
  · have := dm (c := c) (y := y) (q := i + 1) (m := j) hc (by rw [Int.add_mul]; omega) j1.1 j1.2
    exact .inr (.inr (.inl ⟨by omega, by omega⟩))
  · have := dm (c := c) (y := y) (q := i) (m := j + 1) hc (by omega) (by omega) (by omega)
    exact .inr (.inr (.inr ⟨by omega, by omega⟩))
  · have := dm (c := c) (y := y) (q := i - 1) (m := j) hc (by rw [Int.sub_mul]; omega) j1.1 j1.2
    exact .inl ⟨by omega, by omega⟩
  · have := dm (c := c) (y := y) (q := i) (m := j - 1) hc (by omega) (by omega) (by omega)
    exact .inr (.inl ⟨by omega, by omega⟩)
theorem nbs_symm {r c : Int} {n : Nat} (hc : 1 ≤ c) (hn : (n : Int) = r * c) (x : Nat) (hx : x < n) (y : Nat) (h : y ∈ nbs r c x) : x ∈ nbs r c y := by
  unfold nbs at h ⊢
  obtain ⟨e, he, rfl⟩ := List.mem_map.1 h
  have hb := nbi_in hc he
  have := nbi_symm hc (by omega) he
  have ee : ((e.toNat : Nat) : Int) = e := by omega
  rw [ee]
  exact List.mem_map.2 ⟨(x : Int), this, by omega⟩
theorem nbs_left {r c : Int} {n k : Nat} (hc : 1 ≤ c) (hn : (n : Int) = r * c) (hk : k < n) (h : 0 < (k : Int) % c) : (k - 1) ∈ nbs r c k ∧ 1 ≤ k := by
  have hk1 : 1 ≤ k := by
    by_cases e : k = 0
    · subst e; simp at h
    · omega
  refine ⟨?_, hk1⟩
  unfold nbs
  exact List.mem_map.2 ⟨(k : Int) - 1, (nbi_mem hc (by omega)).2 (.inr (.inr (.inr ⟨rfl, h⟩))), by omega⟩
theorem nbs_over {r c : Int} {n k : Nat} (hc : 1 ≤ c) (hn : (n : Int) = r * c) (hk : k < n) (h : c ≤ (k : Int)) : (k - c.toNat) ∈ nbs r c k := by
  unfold nbs
  refine List.mem_map.2 ⟨(k : Int) - c, (nbi_mem hc (by omega)).2 (.inr (.inr (.inl ⟨rfl, ?_⟩))), by omega⟩
  have := (Int.le_ediv_iff_mul_le (show 0 < c by omega)).2 (show 1 * c ≤ (k : Int) by omega)
  omega
end Go.Proofs.Ytimbghigjfioeaa.Cl
namespace Go.Proofs.Ytimbghigjfioeaa.Mv
theorem cj_mono (r c : Int) (L : List Int) (lv a b : Int) (i m : Nat) : cj r c L L lv a b i m ≤ cj r c L L lv 0 0 i m := by
  induction m with
  | zero => simp [cj]
  | succ m ih =>
    unfold cj
    have : bt r c L L lv a b i m = true → bt r c L L lv 0 0 i m = true := by
      unfold bt
      simp only [Bool.and_eq_true, Int.add_zero]
      exact fun h => ⟨h.1, h.1⟩
    split <;> split <;> first | omega | simp_all
theorem ci_mono (r c : Int) (L : List Int) (lv a b : Int) (n : Nat) : ci r c L L lv a b n ≤ ci r c L L lv 0 0 n := by
  induction n with
  | zero => simp [ci]
  | succ n ih => have := cj_mono r c L lv a b n c.toNat; unfold ci; omega
theorem best_self {r c lv : Int} {L : List Int} {x y : Int} (h : Best (both r c L L lv) x y) : x = 0 ∧ y = 0 := by
  refine best_unique h ⟨by unfold In; omega, fun a b hi => ?_⟩
  have h1 := ci_mono r c L lv a b r.toNat
  have h2 := D_le hi
  have h3 := ix_in hi
  have h4 : D 0 0 = 0 := rfl
  have h5 : ix 0 0 = 24 := rfl
  unfold key both
  rw [h4, h5]
  by_cases e : D a b = 0
  · obtain ⟨rfl, rfl⟩ := h2.2.2 e
    rw [h4, h5]
    omega
  · omega
end Go.Proofs.Ytimbghigjfioeaa.Mv
