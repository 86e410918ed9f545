/- Powers of a turn, and what is summed with them, plainly. -/
import Derived.Test.YtchlpkgmflbaeaaMxP
namespace Go.Proofs.Ytchlpkgmflbaeaa.Sp
open Go.Proofs.Ytchlpkgmflbaeaa.Al Go.Proofs.Ytchlpkgmflbaeaa.Su Go.Proofs.Ytchlpkgmflbaeaa.Mx

/-- The powers of t, each by 65537. -/
def pr (t : Int) : Nat → Int
  | 0 => 1
  | i + 1 => pr t i * t % 65537
theorem pr_bd (t : Int) (i : Nat) : 0 ≤ pr t i ∧ pr t i ≤ 65536 := by
  cases i with
  | zero => simp [pr]
  | succ i => unfold pr; omega
/-- 3, squared so often. -/
def sq : Nat → Int
  | 0 => 3
  | j + 1 => sq j * sq j % 65537
theorem sq_bd (j : Nat) : 0 ≤ sq j ∧ sq j ≤ 65536 := by
  cases j with
  | zero => simp [sq]
  | succ j => unfold sq; omega
theorem sums_pw : ∀ k : Fin 65, pw k.val = true → k.val = 1 ∨ k.val = 2 ∨ k.val = 4 ∨ k.val = 8 ∨ k.val = 16 ∨ k.val = 32 ∨ k.val = 64 := by decide
theorem pw_one {n : Nat} (h : pw n = true) : ∃ c, c ≤ 6 ∧ n = 2 ^ c := by
  have b := pw_le h
  rcases sums_pw ⟨n, by omega⟩ h with e | e | e | e | e | e | e <;> simp only at e
  · exact ⟨0, by omega, e⟩
  · exact ⟨1, by omega, e⟩
  · exact ⟨2, by omega, e⟩
  · exact ⟨3, by omega, e⟩
  · exact ⟨4, by omega, e⟩
  · exact ⟨5, by omega, e⟩
  · exact ⟨6, by omega, e⟩
def turn : Int := pr 3 1024
set_option maxRecDepth 100000 in
theorem same_all : ∀ c : Fin 7, ∀ j : Fin 64, j.val < 2 ^ c.val → pr turn (64 / 2 ^ c.val * j.val) = pr (sq (16 - c.val)) j.val := by decide +kernel
theorem same {c j : Nat} (hc : c ≤ 6) (hj : j < 2 ^ c) : pr turn (64 / 2 ^ c * j) = pr (sq (16 - c)) j := by
  have : 2 ^ c ≤ 2 ^ 6 := Nat.pow_le_pow_right (by omega) hc
  exact same_all ⟨c, by omega⟩ ⟨j, by omega⟩ hj
/-- The place among the longest row's powers. -/
theorem place {c i k : Nat} (hc : c ≤ 6) : 64 / 2 ^ c * i * k % 64 = 64 / 2 ^ c * (i * k % 2 ^ c) := by
  have e : 64 / 2 ^ c * 2 ^ c = 64 := by
    have : c = 0 ∨ c = 1 ∨ c = 2 ∨ c = 3 ∨ c = 4 ∨ c = 5 ∨ c = 6 := by omega
    rcases this with rfl | rfl | rfl | rfl | rfl | rfl | rfl <;> rfl
  rw [Nat.mul_assoc]
  have : 64 / 2 ^ c * (i * k) % (64 / 2 ^ c * 2 ^ c) = 64 / 2 ^ c * (i * k % 2 ^ c) := Nat.mul_mod_mul_left _ _ _
  rw [e] at this
  exact this
def spec (L : List Int) (t : Int) (k : Nat) : Int := (sm L.length fun i => L.getD i 0 * pr t (i * k % L.length)) % 65537
def specL (L : List Int) (t : Int) : Nat → List Int
  | 0 => []
  | k + 1 => specL L t k ++ [spec L t k]
theorem specL_len (L : List Int) (t : Int) (k : Nat) : (specL L t k).length = k := by
  induction k with
  | zero => rfl
  | succ k ih => unfold specL; simp [ih]
def fillS (L : List Int) (t : Int) (n k : Nat) : List Int := specL L t k ++ List.replicate (n - k) 0
theorem fillS_len (L : List Int) (t : Int) {n k : Nat} (h : k ≤ n) : (fillS L t n k).length = n := by unfold fillS; rw [List.length_append, specL_len, List.length_replicate]; omega
theorem fillS_all (L : List Int) (t : Int) (n : Nat) : fillS L t n n = specL L t n := by unfold fillS; simp
theorem fillS_set (L : List Int) (t : Int) {n k : Nat} (h : k < n) : (fillS L t n k).set k (spec L t k) = fillS L t n (k + 1) := by
  unfold fillS
  obtain ⟨d, rfl⟩ : ∃ d, n = k + 1 + d := ⟨n - (k + 1), by omega⟩
  have e1 : k + 1 + d - k = d + 1 := by omega
  have e2 : k + 1 + d - (k + 1) = d := by omega
  rw [e1, e2, List.set_append_right _ _ (by rw [specL_len]; exact Nat.le_refl _), specL_len, Nat.sub_self, List.replicate_succ, List.set_cons_zero]
  show _ = (specL L t k ++ [spec L t k]) ++ _
  rw [List.append_assoc]
  rfl
theorem okR_parts {L : List Int} (h : okR L = true) : (∃ c, c ≤ 6 ∧ L.length = 2 ^ c) ∧ (1 ≤ L.length ∧ L.length ≤ 64) ∧ ∀ j, j < L.length → 0 ≤ L.getD j 0 ∧ L.getD j 0 ≤ 65536 := by
  unfold okR at h
  rw [Bool.and_eq_true] at h
  exact ⟨pw_one h.1, pw_le h.1, all_at h.2⟩
end Go.Proofs.Ytchlpkgmflbaeaa.Sp
