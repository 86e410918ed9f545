/- A sum of two known numbers lies on the same side of every known number as the exact sum does. -/
import Derived.Test.YtgnnmepjdmcecaaFltM
namespace Go.Proofs.Ytgnnmepjdmcecaa.Flt
open Ieee

theorem key_near (t : Bool) (m a : Nat) : key (double.nearest t m (-1074 + (a : Int))) = sg t (rng (double.nearest t m (-1074 + (a : Int)))) := by
  have hs : sgn (double.nearest t m (-1074 + (a : Int))) = t := by
    unfold Format.nearest
    split
    · exact (sgn_word t 0 (by omega)).1
    · exact (sgn_word t _ (by have e : double.infRung = 9218868437227405312 := rfl; rw [e]; omega)).1
  unfold key
  rw [hs]

theorem sg_f (v : Nat) : sg false v = (v : Int) := rfl
theorem sg_t (v : Nat) : sg true v = -(v : Int) := rfl
theorem val_nul (r : Nat) (h : val r = 0) : r = 0 := by
  by_cases c : r = 0
  · exact c
  · have := val_lt (show 0 < r by omega)
    rw [val_zero] at this
    omega

theorem side_ge (t : Bool) (m a l : Nat) (hl : rng l ≤ 9218868437227405312) (h : num l ≤ sg t (m * 2 ^ a)) : key l ≤ key (double.nearest t m (-1074 + (a : Int))) := by
  rw [key_near]
  unfold num at h
  unfold key
  have g1 := fun h => near_ge t m a (rng l) h hl
  have g2 := near_le t m a (rng l)
  have g3 := near_le t m a 0
  rw [val_zero] at g3
  have vz := val_nul (rng l)
  generalize rng (double.nearest t m (-1074 + (a : Int))) = R at *
  generalize m * 2 ^ a = V at *
  generalize rng l = L at *
  cases t
  · cases hs : sgn l
    · rw [hs, sg_f, sg_f] at h
      have := g1 (by omega)
      rw [sg_f, sg_f]; omega
    · rw [sg_f, sg_t]; omega
  · cases hs : sgn l
    · rw [hs, sg_f, sg_t] at h
      have h1 := vz (by omega)
      have h2 := g3 (by omega)
      rw [sg_f, sg_t]; omega
    · rw [hs, sg_t, sg_t] at h
      have := g2 (by omega)
      rw [sg_t, sg_t]; omega

theorem side_le (t : Bool) (m a l : Nat) (hl : rng l ≤ 9218868437227405312) (h : sg t (m * 2 ^ a) ≤ num l) : key (double.nearest t m (-1074 + (a : Int))) ≤ key l := by
  rw [key_near]
  unfold num at h
  unfold key
  have g1 := fun h => near_ge t m a (rng l) h hl
  have g2 := near_le t m a (rng l)
  have g3 := near_le t m a 0
  rw [val_zero] at g3
  have vz := val_nul (rng l)
  generalize rng (double.nearest t m (-1074 + (a : Int))) = R at *
  generalize m * 2 ^ a = V at *
  generalize rng l = L at *
  cases t
  · cases hs : sgn l
    · rw [hs, sg_f, sg_f] at h
      have := g2 (by omega)
      rw [sg_f, sg_f]; omega
    · rw [hs, sg_f, sg_t] at h
      have h1 := vz (by omega)
      have h2 := g3 (by omega)
      rw [sg_f, sg_t]; omega
  · cases hs : sgn l
    · rw [sg_t, sg_f]; omega
    · rw [hs, sg_t, sg_t] at h
      have := g1 (by omega)
      rw [sg_t, sg_t]; omega

/-- The sum of two known numbers: the exact sum, rounded once. -/
theorem add_form (x y : Nat) (hx : rng x < 9218868437227405312) (hy : rng y < 9218868437227405312) :
    ∃ t m a, double.add x y = some (double.nearest t m (-1074 + ((a : Nat) : Int))) ∧ sg t (m * 2 ^ a) = num x + num y := by
  obtain ⟨m, a, e, hv⟩ := read_fin x hx
  obtain ⟨n, b, e', hw⟩ := read_fin y hy
  have key : ∀ c : Nat, c ≤ a → c ≤ b → (sg (sgn x) (m * 2 ^ (a - c)) + sg (sgn y) (n * 2 ^ (b - c))) * 2 ^ c = num x + num y := by
    intro c h1 h2
    unfold num
    rw [← hv, ← hw, Int.add_mul, ← sg_mul, ← sg_mul, Nat.mul_assoc, ← Nat.pow_add, Nat.mul_assoc, ← Nat.pow_add, show a - c + c = a by omega, show b - c + c = b by omega]
  have fin : ∀ c : Nat, min (-1074 + (a : Int)) (-1074 + (b : Int)) = -1074 + (c : Int) → c ≤ a → c ≤ b → ∃ t m a, double.add x y = some (double.nearest t m (-1074 + ((a : Nat) : Int))) ∧ sg t (m * 2 ^ a) = num x + num y := by
    intro c hc h1 h2
    have k := key c h1 h2
    refine ⟨if (signed (sgn x) m (a - c) + signed (sgn y) n (b - c)) = 0 then sgn x && sgn y else decide ((signed (sgn x) m (a - c) + signed (sgn y) n (b - c)) < 0), (signed (sgn x) m (a - c) + signed (sgn y) n (b - c)).natAbs, c, ?_, ?_⟩
    · unfold Format.add
      rw [e, e']
      have a1 : (-1074 + (a : Int) - (-1074 + (c : Int))).toNat = a - c := by omega
      have a2 : (-1074 + (b : Int) - (-1074 + (c : Int))).toNat = b - c := by omega
      simp only [Datum.sum, hc, a1, a2]
      rfl
    · rw [← k, sg_mul]
      congr 1
      rw [← signed_eq, ← signed_eq]
      generalize signed (sgn x) m (a - c) + signed (sgn y) n (b - c) = S
      by_cases hS : S = 0
      · subst hS; rw [if_pos rfl]; cases (sgn x && sgn y) <;> rfl
      · rw [if_neg hS]
        by_cases hn : S < 0
        · rw [decide_eq_true hn, sg_t]; omega
        · rw [decide_eq_false hn, sg_f]; omega
  by_cases h : a ≤ b
  · exact fin a (by omega) (Nat.le_refl _) h
  · exact fin b (by omega) (by omega) (Nat.le_refl _)

theorem add_ge (x y l r : Nat) (hx : rng x < 9218868437227405312) (hy : rng y < 9218868437227405312) (hl : rng l ≤ 9218868437227405312) (h : double.add x y = some r) (hs : num l ≤ num x + num y) : key l ≤ key r := by
  obtain ⟨t, m, a, e, k⟩ := add_form x y hx hy
  rw [e] at h
  cases h
  exact side_ge t m a l hl (by rw [k]; exact hs)
theorem add_le (x y l r : Nat) (hx : rng x < 9218868437227405312) (hy : rng y < 9218868437227405312) (hl : rng l ≤ 9218868437227405312) (h : double.add x y = some r) (hs : num x + num y ≤ num l) : key r ≤ key l := by
  obtain ⟨t, m, a, e, k⟩ := add_form x y hx hy
  rw [e] at h
  cases h
  exact side_le t m a l hl (by rw [k]; exact hs)
end Go.Proofs.Ytgnnmepjdmcecaa.Flt
