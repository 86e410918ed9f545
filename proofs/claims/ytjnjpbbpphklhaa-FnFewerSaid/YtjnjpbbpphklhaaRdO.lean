/- What the law FnSignificant asks of the places that are chosen, plain. -/
import Derived.Test.YtjnjpbbpphklhaaRdM
import Derived.Test.YtjnjpbbpphklhaaSgH
namespace Go.Proofs.Ytjnjpbbpphklhaa.Rd
open Go.ChangeShapes Go.WideShapes Go.ChangeAt Go.RowKit
open Flt
attribute [local go_sem] run_store_float

set_option maxHeartbeats 400000 in
theorem big_yes (a : Option Addr) (n cap : Nat) (w : World) (h : 1048576 < n) (hn : n < 9223372036854775808) : Calls Try.prog 5 #[.slice a n cap] w fun e w' => e = .returned (.bool true) ∧ w' = w := by
  have h' : (1048576 : Int) < (n : Int) := by omega
  go_enter Try.func5, Try.ntmps5
  go_wp2
  go_ret
  exact ⟨rfl, rfl⟩
set_option maxHeartbeats 400000 in
theorem big_no (a : Option Addr) (n cap : Nat) (w : World) (h : n ≤ 1048576) : Calls Try.prog 5 #[.slice a n cap] w fun e w' => e = .returned (.bool false) ∧ w' = w := by
  have h' : ¬ ((1048576 : Int) < (n : Int)) := by omega
  go_enter Try.func5, Try.ntmps5
  go_wp2
  go_ret
  exact ⟨rfl, rfl⟩
theorem tol_or (L : Lv) (tol : Nat) : sgs L tol = [] ∨ (lok L = true ∧ kn tol = true ∧ (ord tol 0 == some .lt) = false) := by
  cases hk : lok L
  · exact .inl (sgs_no1 hk)
  · cases h2 : kn tol
    · exact .inl (sgs_no2 h2)
    · cases h3 : (ord tol 0 == some .lt)
      · exact .inr ⟨rfl, rfl, rfl⟩
      · exact .inl (sgs_no3 h3)

theorem facts (L : Lv) (tol : Nat) (hk : lok L = true) (h2 : kn tol = true) (h3 : (ord tol 0 == some .lt) = false) :
    lok (pick L (sgs L tol)) = true ∧ (∀ i, i < L.length → ∃ x : Nat, (∀ y, cn y = rebF (pick L (sgs L tol)) (pOf L i) ((pick L (sgs L tol)).length - 1) 0 → y = x) ∧ ∃ D : Nat, (∀ w, (binOp .sub 25 (.float .f64 (tOf L i)) (.float .f64 x)).run Try.prog w = .ok (.float .f64 D) w) ∧ (ord D tol == some .lt || ord D tol == some .eq) = true ∧ (ord (Op.negFloat .f64 D) tol == some .lt || ord (Op.negFloat .f64 D) tol == some .eq) = true) ∧
    (∀ k, k < (sgs L tol).length → 0 ≤ (sgs L tol).getD k 0 ∧ (sgs L tol).getD k 0 < (L.length : Int)) ∧ (∀ k, k + 1 < (sgs L tol).length → (sgs L tol).getD k 0 < (sgs L tol).getD (k + 1) 0) ∧
    ((sgs L tol).getD 0 0 = 0 ∧ (sgs L tol).getD ((sgs L tol).length - 1) 0 = ((L.length - 1 : Nat) : Int)) ∧ 2 ≤ (sgs L tol).length ∧ (sgs L tol).length ≤ 400 := by
  obtain ⟨l2, l4, hok⟩ := lok_size hk
  obtain ⟨ht, h0⟩ := tol_key h2 h3
  have hch := sg2_chain L tol ht h0 (L.length - 1) 0 (L.length - 1) (by omega) (by omega)
  have hle := sg2_len L tol h0 (L.length - 1) 0 (L.length - 1) (by omega)
  have eA : sgs L tol = 0 :: (sg2 L tol (L.length - 1) 0 (L.length - 1) ++ [((L.length - 1 : Nat) : Int)]) := sgs_yes hk h2 h3
  generalize sg2 L tol (L.length - 1) 0 (L.length - 1) = l at hch hle eA
  have LK : Hid (lok (pick L (sgs L tol)) = true) := (by show _ = _; rw [eA]; exact pick_lok hk hch (by omega))
  have hN : (sgs L tol).length = l.length + 2 := by rw [eA]; simp
  have RB : Hid (∀ i, i < L.length → ∃ x : Nat, (∀ y, cn y = rebF (pick L (sgs L tol)) (pOf L i) ((pick L (sgs L tol)).length - 1) 0 → y = x) ∧ ∃ D : Nat, (∀ w, (binOp .sub 25 (.float .f64 (tOf L i)) (.float .f64 x)).run Try.prog w = .ok (.float .f64 D) w) ∧ (ord D tol == some .lt || ord D tol == some .eq) = true ∧ (ord (Op.negFloat .f64 D) tol == some .lt || ord (Op.negFloat .f64 D) tol == some .eq) = true) := (by
    intro i hi
    obtain ⟨a, b, p1, p2, p3, p4, p5, p6⟩ := rebuilt hk hch i hi
    obtain ⟨nE, hsub, nD⟩ := df_ex hok p1 p2 p4
    have dep := depart hok ht h0 p1 p2 p3 p4 p5
    have rD : rng (df L a b i) ≤ 9218868437227405312 := by unfold nan at nD; simpa using nD
    refine ⟨bet (pOf L a) (tOf L a) (pOf L b) (tOf L b) (pOf L i), fun y hy => ?_, df L a b i, fun w => run_float_arith w .sub 25 .f64 _ _ _ hsub, leq_of rfl rD ht dep, leq_of (rng_neg _) rD ht dep⟩
    rw [pick_len, hN, show l.length + 2 - 1 = l.length + 1 by omega, eA, p6] at hy
    exact bet_bits hy nE)
  have IN : Hid (∀ k, k < (sgs L tol).length → 0 ≤ (sgs L tol).getD k 0 ∧ (sgs L tol).getD k 0 < (L.length : Int)) := (by
    intro k hk'
    rw [hN] at hk'
    rw [eA]
    cases k with
    | zero => exact ⟨Int.le_refl _, by show (0 : Int) < _; omega⟩
    | succ k =>
      have := Ch.last hch k (by simp; omega)
      show 0 ≤ (l ++ [((L.length - 1 : Nat) : Int)]).getD k 0 ∧ (l ++ [((L.length - 1 : Nat) : Int)]).getD k 0 < (L.length : Int)
      omega)
  have UP : Hid (∀ k, k + 1 < (sgs L tol).length → (sgs L tol).getD k 0 < (sgs L tol).getD (k + 1) 0) := (by
    intro k hk'
    rw [hN] at hk'
    rw [eA]
    exact (Ch.at hch k (by simp; omega)).2.1)
  have LA : Hid ((sgs L tol).getD 0 0 = 0 ∧ (sgs L tol).getD ((sgs L tol).length - 1) 0 = ((L.length - 1 : Nat) : Int)) := (by
    show _ ∧ _
    rw [hN, eA]
    refine ⟨rfl, ?_⟩
    show (l ++ [((L.length - 1 : Nat) : Int)]).getD l.length 0 = _
    simp)
  have hNl : 2 ≤ (sgs L tol).length ∧ (sgs L tol).length ≤ 400 := by omega
  exact ⟨LK.out, RB.out, IN.out, UP.out, LA.out, hNl⟩
end Go.Proofs.Ytjnjpbbpphklhaa.Rd
