/- At a point of the grid the value is the point's, plain. -/
import Derived.Test.YtknkmkhnakcjiaaNg
import Derived.Test.YtknkmkhnakcjiaaAtC
namespace Go.Proofs.Ytknkmkhnakcjiaa.Gd
open Go.ChangeShapes Go.WideShapes Go.ChangeAt Go.RowKit
open Go.Proofs.Ytknkmkhnakcjiaa.Flt
theorem rng_key (x : Nat) : (key x).natAbs = rng x := by
  unfold key sg
  split <;> simp
theorem G_mono {v r : Nat} (h : v ≤ val r) : G v ≤ r := by
  unfold G
  have := near_le false v 0 r (by simpa using h)
  simpa using this
theorem Am_abs (T : Int) : (Am T).natAbs = G T.natAbs := by
  unfold Am
  split <;> simp
set_option maxRecDepth 100000 in
theorem val_two : 2 * val 9094988921128908188 ≤ val 9099492520756278684 := by decide +kernel
theorem num_abs (x : Nat) : (num x).natAbs = val (rng x) := by
  rcases num_cases x with ⟨_, e⟩ | ⟨_, e⟩ <;> rw [e] <;> simp
theorem sub_small (a b : Nat) (ha : val (rng a) ≤ val 9094988921128908188) (hb : val (rng b) ≤ val 9094988921128908188) (fa : rng a < 9218868437227405312) (fb : rng b < 9218868437227405312) : rng (opF .sub b a) < 9218868437227405312 := by
  have h := (sub_key b a fb fa).1
  have h1 : rng (opF .sub b a) = G (num b - num a).natAbs := by rw [← rng_key, h, Am_abs]
  have h2 := num_abs a
  have h3 := num_abs b
  have h4 := val_two
  have h5 : (num b - num a).natAbs ≤ val 9099492520756278684 := by omega
  have := G_mono h5
  omega
theorem ble_key (a b f : Nat) (ha : val (rng a) ≤ val 9094988921128908188) (hb : val (rng b) ≤ val 9094988921128908188) (fa : rng a < 9218868437227405312) (fb : rng b < 9218868437227405312) (hf : rng f = 0) : key (ble a b f) = key a ∧ rng (ble a b f) = rng a := by
  have hd := sub_small a b ha hb fa fb
  obtain ⟨_, m2, m3⟩ := mul_key (opF .sub b a) f hd (by omega)
  rw [Hm_zero _ _ (.inr hf)] at m2
  have hn : num (opF .mul (opF .sub b a) f) = 0 := by
    have := num_abs (opF .mul (opF .sub b a) f)
    rw [m2] at this
    have v0 : val 0 = 0 := by decide +kernel
    omega
  have hk := (add_key a (opF .mul (opF .sub b a) f) fa (by omega)).1
  rw [hn, Int.add_zero, Am_num a fa] at hk
  have e : key (ble a b f) = key a := hk
  exact ⟨e, by rw [← rng_key, e, rng_key]⟩
theorem fi_zero : cn (fi 0) = 0 := by decide +kernel
set_option maxRecDepth 100000 in
theorem quo_all : (List.range 3001).all (fun n => decide (n = 0) || decide (rng (opF .quo 0 (cn (fi (n : Int)))) = 0)) = true := by decide +kernel
theorem quo_zero (st : Int) (h : 1 ≤ st ∧ st ≤ 3000) : rng (opF .quo (cn (fi 0)) (cn (fi st))) = 0 := by
  obtain ⟨n, rfl⟩ : ∃ n : Nat, st = (n : Int) := ⟨st.toNat, by omega⟩
  have := List.all_eq_true.1 quo_all n (by simp; omega)
  rw [fi_zero]
  simp only [Bool.or_eq_true, decide_eq_true_eq] at this
  omega
theorem cell_at {st n i : Int} (hs : 1 ≤ st) (h1 : i ≤ n - 2) : cellOf (i * st) st n = i := by
  refine (cell_is hs h1 (Int.le_refl _) (.inr ?_)).symm
  rw [Int.add_mul, Int.one_mul]
  omega
/-- the value at a point -/
theorem at_point (c st i j : Int) (L : List Nat) (hst : 1 ≤ st ∧ st ≤ 3000)
    (k0 : kn (L.getD (i * c + j).toNat 0) = true → val (rng (L.getD (i * c + j).toNat 0)) ≤ val 9094988921128908188)
    (k1 : kn (L.getD (i * c + j + 1).toNat 0) = true → val (rng (L.getD (i * c + j + 1).toNat 0)) ≤ val 9094988921128908188)
    (k2 : kn (L.getD (i * c + j + c).toNat 0) = true → val (rng (L.getD (i * c + j + c).toNat 0)) ≤ val 9094988921128908188)
    (k3 : kn (L.getD (i * c + j + c + 1).toNat 0) = true → val (rng (L.getD (i * c + j + c + 1).toNat 0)) ≤ val 9094988921128908188) :
    key (atIn c st i j 0 0 L) = key (cn (L.getD (i * c + j).toNat 0)) ∧ rng (atIn c st i j 0 0 L) = rng (cn (L.getD (i * c + j).toNat 0)) := by
  unfold atIn
  generalize L.getD (i * c + j + 1).toNat 0 = v1 at *
  generalize L.getD (i * c + j + c).toNat 0 = v2 at *
  generalize L.getD (i * c + j + c + 1).toNat 0 = v3 at *
  split
  · rename_i h
    simp only [Bool.and_eq_true] at h
    obtain ⟨h0, h1, h2, h3⟩ := h
    have q := quo_zero st hst
    generalize opF .quo (cn (fi 0)) (cn (fi st)) = f at *
    have kk : ∀ {x : Nat}, kn x = true → cn x = x ∧ rng x < 9218868437227405312 := fun {x} h => by
      unfold kn at h
      have h' := of_decide_eq_true h
      refine ⟨cn_num ?_, h'⟩
      unfold nan
      simp
      omega
    rw [(kk h0).1, (kk h1).1, (kk h2).1, (kk h3).1]
    have a1 := ble_key _ v1 f (k0 h0) (k1 h1) (kk h0).2 (kk h1).2 q
    have a2 := ble_key v2 v3 f (k2 h2) (k3 h3) (kk h2).2 (kk h3).2 q
    have a3 := ble_key (ble (L.getD (i * c + j).toNat 0) v1 f) (ble v2 v3 f) f (by rw [a1.2]; exact k0 h0) (by rw [a2.2]; exact k2 h2) (by rw [a1.2]; exact (kk h0).2) (by rw [a2.2]; exact (kk h2).2) q
    exact ⟨a3.1.trans a1.1, a3.2.trans a1.2⟩
  · have e1 : ¬ st < 2 * 0 := by omega
    simp only [if_neg e1, Int.add_zero, and_self]
end Go.Proofs.Ytknkmkhnakcjiaa.Gd
