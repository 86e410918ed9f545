/- The cost of a point, plain: sums, bounds. -/
import Derived.Test.YtaakiemmodncpaaSuA
import Derived.Test.YtaakiemmodncpaaPo
namespace Go.Proofs.Ytaakiemmodncpaa.Cs
open Go.Proofs.Ytaakiemmodncpaa.Al Go.Proofs.Ytaakiemmodncpaa.Su Go.Proofs.Ytaakiemmodncpaa.Po

/-- so many numbers, none above a million without its sign -/
structure Pt (n : Nat) (X : List Int) : Prop where
  len : X.length = n
  b : ∀ j, j < n → -1000000 ≤ X.getD j 0 ∧ X.getD j 0 ≤ 1000000
def hx (H X : List Int) (n : Nat) : Int := sm n fun i => H.getD i 0 * X.getD i 0
def dev (R : Rw.Ls) (X : List Int) (n k : Nat) : Int := hx (Rw.cl R k) X n - Rw.cz R k 1
def ctm (G T X : List Int) (i : Nat) : Int := T.getD i 0 * ((X.getD i 0 - G.getD i 0) * (X.getD i 0 - G.getD i 0))
def ct (G T X : List Int) (n : Nat) : Int := sm n (ctm G T X)
def crm (R : Rw.Ls) (X : List Int) (n k : Nat) : Int := Rw.cz R k 2 * (dev R X n k * dev R X n k)
def cr (R : Rw.Ls) (X : List Int) (n m : Nat) : Int := sm m (crm R X n)
def cost (G T : List Int) (R : Rw.Ls) (X : List Int) (n : Nat) : Int := ct G T X n + cr R X n R.length
theorem mul_abs {a b A B : Int} (ha : -A ≤ a ∧ a ≤ A) (hb : -B ≤ b ∧ b ≤ B) : -(A * B) ≤ a * b ∧ a * b ≤ A * B := by
  have hA : 0 ≤ A := by omega
  have hB : 0 ≤ B := by omega
  by_cases h : 0 ≤ b
  · have h1 : a * b ≤ A * b := Int.mul_le_mul_of_nonneg_right ha.2 h
    have h2 : A * b ≤ A * B := Int.mul_le_mul_of_nonneg_left hb.2 hA
    have h3 : -A * b ≤ a * b := Int.mul_le_mul_of_nonneg_right ha.1 h
    rw [Int.neg_mul] at h3
    omega
  · have h1 : a * (-b) ≤ A * (-b) := Int.mul_le_mul_of_nonneg_right ha.2 (by omega)
    have h2 : A * (-b) ≤ A * B := Int.mul_le_mul_of_nonneg_left (by omega) hA
    have h3 : -A * (-b) ≤ a * (-b) := Int.mul_le_mul_of_nonneg_right ha.1 (by omega)
    rw [Int.neg_mul] at h3
    rw [Int.mul_neg] at h1 h3 h2
    rw [Int.mul_neg] at h1 h3
    omega
theorem sq_bound {a A : Int} (ha : -A ≤ a ∧ a ≤ A) : 0 ≤ a * a ∧ a * a ≤ A * A := by
  refine ⟨?_, (mul_abs ha ha).2⟩
  by_cases h : 0 ≤ a
  · exact Int.mul_nonneg h h
  · exact Int.mul_nonneg_of_nonpos_of_nonpos (by omega) (by omega)
section
variable {nn : Nat} {G T : List Int} {R : Rw.Ls} {X : List Int}
theorem hx_b (O : Ok nn G T R) (PX : Pt nn X) {k : Nat} (hk : k < R.length) (j : Nat) (hj : j < nn) : -5000000 ≤ (Rw.cl R k).getD j 0 * X.getD j 0 ∧ (Rw.cl R k).getD j 0 * X.getD j 0 ≤ 5000000 := by
  have a := O.hb k hk j (by have := O.nH k hk; omega)
  have := mul_abs (A := 5) (B := 1000000) a (PX.b j hj)
  omega
theorem hxs_b (O : Ok nn G T R) (PX : Pt nn X) {k : Nat} (hk : k < R.length) (j : Nat) (hj : j ≤ nn) : -30000000 ≤ hx (Rw.cl R k) X j ∧ hx (Rw.cl R k) X j ≤ 30000000 := by
  have a := sm_bound (n := nn) (f := fun i => (Rw.cl R k).getD i 0 * X.getD i 0) (M := 5000000) (hx_b O PX hk) j hj
  have := O.n6
  unfold hx
  omega
theorem dev_b (O : Ok nn G T R) (PX : Pt nn X) {k : Nat} (hk : k < R.length) : -30000500 ≤ dev R X nn k ∧ dev R X nn k ≤ 30000500 := by
  have a := hxs_b O PX hk nn (Nat.le_refl _)
  have b := O.yb k hk
  unfold dev
  omega
theorem ctm_b (O : Ok nn G T R) (PX : Pt nn X) (j : Nat) (hj : j < nn) : 0 ≤ ctm G T X j ∧ ctm G T X j ≤ 6000000000000 := by
  have a := O.gb j (by have := O.nG; omega)
  have b := O.tb j (by have := O.nT; omega)
  have c := PX.b j hj
  have d := sq_bound (a := X.getD j 0 - G.getD j 0) (A := 1000500) (by omega)
  have e := mul_abs (a := T.getD j 0) (b := (X.getD j 0 - G.getD j 0) * (X.getD j 0 - G.getD j 0)) (A := 5) (B := 1001000250000) (by omega) (by omega)
  unfold ctm
  have f : 0 ≤ T.getD j 0 * ((X.getD j 0 - G.getD j 0) * (X.getD j 0 - G.getD j 0)) := Int.mul_nonneg (by omega) d.1
  omega
theorem ct_b (O : Ok nn G T R) (PX : Pt nn X) (j : Nat) (hj : j ≤ nn) : 0 ≤ ct G T X j ∧ ct G T X j ≤ 36000000000000 := by
  have a := sm_bound (n := nn) (f := ctm G T X) (M := 6000000000000) (fun i hi => by have := ctm_b O PX i hi; omega) j hj
  have := O.n6
  unfold ct
  refine ⟨?_, by omega⟩
  clear a
  induction j with
  | zero => exact Int.le_refl _
  | succ j ih => unfold sm; have := ih (by omega); have := ctm_b O PX j (by omega); omega
theorem crm_b (O : Ok nn G T R) (PX : Pt nn X) {k : Nat} (hk : k < R.length) : 0 ≤ crm R X nn k ∧ crm R X nn k ≤ 5000000000000000 := by
  have a := dev_b O PX hk
  have b := O.wb k hk
  have d := sq_bound (a := dev R X nn k) (A := 30000500) (by omega)
  have e := mul_abs (a := Rw.cz R k 2) (b := dev R X nn k * dev R X nn k) (A := 5) (B := 900030000250000) (by omega) (by omega)
  have f : 0 ≤ Rw.cz R k 2 * (dev R X nn k * dev R X nn k) := Int.mul_nonneg (by omega) d.1
  unfold crm
  omega
theorem cr_b (O : Ok nn G T R) (PX : Pt nn X) (m : Nat) (hm : m ≤ R.length) : 0 ≤ cr R X nn m ∧ cr R X nn m ≤ 100000000000000000 := by
  have a := sm_bound (n := R.length) (f := crm R X nn) (M := 5000000000000000) (fun i hi => by have := crm_b O PX hi; omega) m hm
  have := O.nR
  unfold cr
  refine ⟨?_, by omega⟩
  clear a
  induction m with
  | zero => exact Int.le_refl _
  | succ m ih => unfold sm; have := ih (by omega); have := crm_b O PX (k := m) (by omega); omega
end
end Go.Proofs.Ytaakiemmodncpaa.Cs
