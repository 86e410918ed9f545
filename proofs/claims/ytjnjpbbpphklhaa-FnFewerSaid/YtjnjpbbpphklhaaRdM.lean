/- What is rebuilt departs by no more than tol. -/
import Derived.Test.YtjnjpbbpphklhaaRdL
namespace Go.Proofs.Ytjnjpbbpphklhaa.Rd
open Go.ChangeShapes Go.WideShapes Go.ChangeAt Go.RowKit
open Flt

theorem rng_neg (x : Nat) : rng (Op.negFloat .f64 x) = rng x := by
  show (x ^^^ 2 ^ 63) % 2 ^ 63 = x % 2 ^ 63
  rw [Nat.xor_mod_two_pow]
  simp
theorem key_le (x : Nat) : key x ≤ (rng x : Int) := by
  unfold key sg
  cases sgn x
  · exact Int.le_refl _
  · show -(rng x : Int) ≤ rng x; omega
theorem leq_of {z tol : Nat} {R : Nat} (hz : rng z = R) (hn : R ≤ 9218868437227405312) (ht : nan tol = false) (h : (R : Int) ≤ key tol) : (ord z tol == some .lt || ord z tol == some .eq) = true := by
  have rt : rng tol ≤ 9218868437227405312 := by unfold nan at ht; simpa using ht
  have k := key_le z
  rw [hz] at k
  rw [ord_key z tol (by omega) rt]
  by_cases c : key z = key tol
  · rw [c_eq c]; rfl
  · rw [c_lt (by omega)]; rfl
theorem depart {L : Lv} {tol a b i : Nat} (hok : ∀ q, q < L.length → okAt L q = true) (ht : nan tol = false) (h0 : 0 ≤ key tol) (h1 : a ≤ i) (h2 : i ≤ b) (h3 : a < b) (h4 : b < L.length) (nx : Nx L tol a b) :
    ((rng (df L a b i) : Nat) : Int) ≤ key tol := by
  obtain ⟨nE, hsub, nD⟩ := df_ex hok h1 h2 h4
  have fin := (okAt_ex (hok i (by omega))).2
  have zero : bet (pOf L a) (tOf L a) (pOf L b) (tOf L b) (pOf L i) = tOf L i → ((rng (df L a b i) : Nat) : Int) ≤ key tol := by
    intro e
    rw [e] at hsub
    have s := sub_self (tOf L i) fin
    have s' : floatBits .sub .f64 (tOf L i) (tOf L i) = some 0 := s
    rw [s'] at hsub
    have : df L a b i = 0 := by injection hsub with x; exact x.symm
    rw [this]
    exact h0
  by_cases c1 : i = a
  · subst c1
    exact zero (by unfold bet; rw [if_pos rfl, cn_num (fin_nan fin)])
  · by_cases c2 : i = b
    · subst c2
      have := press_lt hok (i := a) (j := i) (by omega) h4
      exact zero (by unfold bet; rw [if_neg (by omega), if_pos rfl, cn_num (fin_nan fin)])
    · have g := nx.2.2 i (by omega) (by omega)
      rw [Int.toNat_natCast, Int.toNat_natCast] at g
      have ed : dp L a b i = rng (df L a b i) := by unfold dp; rw [nD]; rfl
      rw [ed] at g
      by_cases c : key tol < key (rng (df L a b i))
      · have := (gt_key _ _).2 ⟨by rw [nan_rng]; exact nD, ht, c⟩
        rw [g] at this; cases this
      · rw [key_rng] at c; omega
end Go.Proofs.Ytjnjpbbpphklhaa.Rd
