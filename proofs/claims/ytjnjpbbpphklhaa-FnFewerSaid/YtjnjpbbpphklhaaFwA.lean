/- A tolerance and some tenths more, plain. -/
import Derived.Test.YtjnjpbbpphklhaaFltS
import Derived.Test.YtjnjpbbpphklhaaRdO
namespace Go.Proofs.Ytjnjpbbpphklhaa.Flt
open Go.ChangeShapes Go.WideShapes Go.ChangeAt Go.RowKit
open Ieee

def tenthOk (k : Nat) : Bool := match double.div (floatOfInt .f64 (k : Int)) 4621819117588971520 with
  | some q => decide (rng q < 9218868437227405312) && (decide (0 ≤ num q) && decide (num q ≤ num 4617315517961601024))
  | none => false
theorem tenths : ((List.range 50).all tenthOk) = true := by decide +kernel
theorem tenth_at (k : Nat) (h : k < 50) : ∃ q, double.div (floatOfInt .f64 (k : Int)) 4621819117588971520 = some q ∧ rng q < 9218868437227405312 ∧ 0 ≤ num q ∧ num q ≤ num 4617315517961601024 := by
  have := List.all_eq_true.1 tenths k (List.mem_range.2 h)
  unfold tenthOk at this
  cases hd : double.div (floatOfInt .f64 (k : Int)) 4621819117588971520 with
  | none => rw [hd] at this; cases this
  | some q =>
    rw [hd] at this
    simp at this
    exact ⟨q, rfl, this.1, this.2.1, this.2.2⟩
theorem milli : num 4696837146684686336 + num 4617315517961601024 ≤ num 4701340746312056832 := by decide +kernel
theorem two_key : key 4701340746312056832 = 4701340746312056832 := by decide +kernel

theorem wide_of {tol q : Nat} (h2 : kn tol = true) (h3 : (ord tol 0 == some .lt) = false) (h4 : (ord tol 4696837146684686336 == some .gt) = false) (q1 : rng q < 9218868437227405312) (q2 : 0 ≤ num q) (q3 : num q ≤ num 4617315517961601024) :
    ∃ r, double.add tol q = some r ∧ kn r = true ∧ (ord r 0 == some .lt) = false ∧ key tol ≤ key r ∧ r < 18446744073709551616 := by
  have hr := kn_lt h2
  obtain ⟨ht, h0⟩ := tol_key h2 h3
  obtain ⟨r, e, r1, r2⟩ := add_some tol q (by omega) q1
  have g1 := add_ge tol q tol r hr q1 (by omega) e (by omega)
  have l1 : num tol ≤ num 4696837146684686336 := by
    have h6 : ord tol 4696837146684686336 = some (compare (num tol) (num 4696837146684686336)) := ord_num tol 4696837146684686336 (by omega) (by decide +kernel)
    rw [h6] at h4
    simp at h4
    have h5 : compare (num tol) (num 4696837146684686336) ≠ .gt := h4
    rcases Int.lt_or_le (num 4696837146684686336) (num tol) with h | h
    · exact absurd (Int.compare_eq_gt.2 h) h5
    · exact h
  have m := milli
  have g2 := add_le tol q 4701340746312056832 r hr q1 (by decide +kernel) e (by omega)
  rw [two_key] at g2
  have hk : rng r < 9218868437227405312 := by
    have hk : key r = sg (sgn r) (rng r) := rfl
    cases hs : sgn r
    · rw [hs] at hk
      have : key r = (rng r : Int) := hk
      omega
    · rw [hs] at hk
      have : key r = -(rng r : Int) := hk
      omega
  refine ⟨r, e, by unfold kn; exact decide_eq_true hk, ?_, g1, r2⟩
  rw [ord_key r 0 (by omega) (by decide +kernel)]
  have e0 : key 0 = 0 := by decide +kernel
  rw [e0]
  cases hc : compare (key r) 0
  · have := Int.compare_eq_lt.1 hc; omega
  · rfl
  · rfl

theorem fewer {L : Lv} {tol r : Nat} (hk : lok L = true) (h2 : kn tol = true) (h3 : (ord tol 0 == some .lt) = false) (r2 : kn r = true) (r3 : (ord r 0 == some .lt) = false) (hr : key tol ≤ key r) :
    (∀ i, i < (sgs L r).length → (sgs L tol).any (fun x => x == (sgs L r).getD i 0) = true) ∧ 2 ≤ (sgs L r).length ∧ (sgs L r).length ≤ 400 ∧ (sgs L tol).length ≤ 400 ∧ 2 ≤ (sgs L tol).length := by
  obtain ⟨l2, l4, hok⟩ := lok_size hk
  obtain ⟨ht, h0⟩ := tol_key h2 h3
  obtain ⟨ht', h0'⟩ := tol_key r2 r3
  have hle := sg2_len L tol h0 (L.length - 1) 0 (L.length - 1) (by omega)
  have hle' := sg2_len L r h0' (L.length - 1) 0 (L.length - 1) (by omega)
  rw [sgs_yes hk h2 h3, sgs_yes hk r2 r3]
  refine ⟨fun i hi => ?_, by simp, by simp; omega, by simp; omega, by simp⟩
  rw [List.any_eq_true]
  have hm : ([0] ++ sg2 L r (L.length - 1) 0 (L.length - 1) ++ [((L.length - 1 : Nat) : Int)]).getD i 0 ∈ [0] ++ sg2 L r (L.length - 1) 0 (L.length - 1) ++ [((L.length - 1 : Nat) : Int)] := by
    rw [List.getD_eq_getElem?_getD, List.getElem?_eq_getElem hi]
    exact List.getElem_mem hi
  refine ⟨_, ?_, beq_self_eq_true _⟩
  revert hm
  generalize ([0] ++ sg2 L r (L.length - 1) 0 (L.length - 1) ++ [((L.length - 1 : Nat) : Int)]).getD i 0 = z
  intro hm
  simp only [List.mem_append] at hm ⊢
  rcases hm with (hm | hm) | hm
  · exact .inl (.inl hm)
  · exact .inl (.inr (sg2_fewer L tol r ht hr _ _ _ z hm))
  · exact .inr hm
end Go.Proofs.Ytjnjpbbpphklhaa.Flt
