/- What drawn measurements tell together, plainly: between the least and the greatest, the same in the other order, the mean when all variances are alike. -/
import Derived.Test.YtoemkkppopebcaaBlJ
import Derived.Test.YtoemkkppopebcaaBlS
namespace Go.Proofs.Ytoemkkppopebcaa.Bl
open Go.ChangeShapes Go.WideShapes Go.ChangeAt Go.RowKit
open Go.Proofs.Ytoemkkppopebcaa.Lists Go.Proofs.Ytoemkkppopebcaa.Al Go.Proofs.Ytoemkkppopebcaa.Su

theorem sm_le {n : Nat} {f g : Nat → Int} (h : ∀ i, i < n → f i ≤ g i) : sm n f ≤ sm n g := by
  induction n with
  | zero => exact Int.le_refl _
  | succ n ih =>
    have a := ih fun i hi => h i (by omega)
    have b := h n (by omega)
    unfold sm
    omega
theorem sm_const (n : Nat) (c : Int) : sm n (fun _ => c) = n * c := by
  induction n with
  | zero => simp [sm]
  | succ n ih => unfold sm; rw [ih, Int.natCast_add, Int.add_mul]; simp
theorem sm_mul {n : Nat} (c : Int) (f : Nat → Int) : sm n (fun i => c * f i) = c * sm n f := by
  induction n with
  | zero => simp [sm]
  | succ n ih => unfold sm; rw [ih, Int.mul_add]
theorem sm_first (n : Nat) (f : Nat → Int) : sm (n + 1) f = f 0 + sm n (fun i => f (i + 1)) := by
  induction n with
  | zero => simp [sm]
  | succ n ih =>
    have e : sm (n + 1 + 1) f = sm (n + 1) f + f (n + 1) := rfl
    rw [e, ih]
    show _ = f 0 + (sm n (fun i => f (i + 1)) + f (n + 1))
    omega
theorem sm_rev (n : Nat) (f : Nat → Int) : sm n (fun i => f (n - 1 - i)) = sm n f := by
  induction n with
  | zero => rfl
  | succ n ih =>
    rw [sm_first]
    have e : sm n (fun i => f (n + 1 - 1 - (i + 1))) = sm n (fun i => f (n - 1 - i)) := sm_congr fun i hi => by rw [show n + 1 - 1 - (i + 1) = n - 1 - i by omega]
    rw [e, ih]
    show f (n + 1 - 1 - 0) + sm n f = sm n f + f n
    rw [show n + 1 - 1 - 0 = n by omega]
    omega
theorem pd_first (n : Nat) (f : Nat → Int) : pd (n + 1) f = f 0 * pd n (fun i => f (i + 1)) := by
  induction n with
  | zero => simp [pd]
  | succ n ih =>
    have e : pd (n + 1 + 1) f = pd (n + 1) f * f (n + 1) := rfl
    rw [e, ih]
    show _ = f 0 * (pd n (fun i => f (i + 1)) * f (n + 1))
    rw [Int.mul_assoc]
theorem pd_rev (n : Nat) (f : Nat → Int) : pd n (fun i => f (n - 1 - i)) = pd n f := by
  induction n with
  | zero => rfl
  | succ n ih =>
    rw [pd_first]
    have e : pd n (fun i => f (n + 1 - 1 - (i + 1))) = pd n (fun i => f (n - 1 - i)) := pd_congr fun i hi => by rw [show n + 1 - 1 - (i + 1) = n - 1 - i by omega]
    rw [e, ih]
    show f (n + 1 - 1 - 0) * pd n f = pd n f * f n
    rw [show n + 1 - 1 - 0 = n by omega, Int.mul_comm]
theorem rev_at (L : List Int) (i : Nat) (hi : i < L.length) : L.reverse.getD i 0 = L.getD (L.length - 1 - i) 0 := by
  rw [List.getD_eq_getElem?_getD, List.getD_eq_getElem?_getD, List.getElem?_reverse hi]
theorem rev_take (L : List Int) (k : Nat) (hk : k < L.length) : L.reverse.take (k + 1) = L.reverse.take k ++ [L.getD (L.length - 1 - k) 0] := by
  rw [List.take_add_one, ← rev_at L k hk, List.getD_eq_getElem?_getD]
  have : k < L.reverse.length := by simpa using hk
  rw [List.getElem?_eq_getElem this]
  rfl
theorem mm_rev (S : List Int) (i : Nat) (hi : i < S.length) : mm S.reverse i = mm S (S.length - 1 - i) := by
  unfold mm
  rw [List.length_reverse, ← pd_rev S.length (but (S.length - 1 - i) fun k => S.getD k 0)]
  refine pd_congr fun k hk => ?_
  unfold but
  by_cases e : k = i
  · rw [if_pos e, if_pos (by omega)]
  · rw [if_neg e, if_neg (by omega)]
    exact rev_at S k hk
theorem top_rev {V S : List Int} (h : S.length = V.length) : top V.reverse S.reverse = top V S := by
  unfold top
  rw [List.length_reverse, ← sm_rev V.length (fun i => V.getD i 0 * mm S i)]
  exact sm_congr fun i hi => by rw [rev_at V i hi, mm_rev S i (by omega), h]
theorem low_rev {V S : List Int} (h : S.length = V.length) : low V.reverse S.reverse = low V S := by
  unfold low
  rw [List.length_reverse, ← sm_rev V.length (fun i => mm S i)]
  exact sm_congr fun i hi => by rw [mm_rev S i (by omega), h]
theorem ok_rev (V S : List Int) : okB V.reverse S.reverse = okB V S := by
  unfold okB nums
  rw [List.length_reverse, List.length_reverse, List.all_reverse, List.all_reverse]
theorem r_rev {V S : List Int} (h : okB V S = true) : r0 V.reverse S.reverse = r0 V S ∧ r1 V.reverse S.reverse = r1 V S := by
  have e := (ok_of h).nS
  unfold r0 r1 gc
  rw [ok_rev, top_rev e, low_rev e]
  exact ⟨rfl, rfl⟩
theorem gc_top (V S : List Int) : gc V S ∣ top V S := by
  have h : gc V S ∣ aab (top V S) := Int.gcd_dvd_left ..
  unfold aab at h
  split at h
  · exact Int.dvd_neg.mp h
  · exact h
theorem gc_low (V S : List Int) : gc V S ∣ low V S := Int.gcd_dvd_right ..
theorem parts {V S : List Int} (h : okB V S = true) : gc V S * r0 V S = top V S ∧ gc V S * r1 V S = low V S ∧ 0 < gc V S := by
  unfold r0 r1
  rw [if_pos h, if_pos h]
  exact ⟨Int.mul_tdiv_cancel' (gc_top V S), Int.mul_tdiv_cancel' (gc_low V S), (ok_of h).gpos⟩
theorem den_pos {V S : List Int} (h : okB V S = true) : 1 ≤ r1 V S ∧ r1 V S ≤ 50000000000 := by
  obtain ⟨_, p2, p3⟩ := parts h
  have l := (ok_of h).lows V.length (Nat.le_refl _)
  have n1 := (ok_of h).n1
  have e : low V S = sm V.length (fun i => mm S i) := rfl
  rw [← e] at l
  have hp : 0 < r1 V S := by
    by_cases x : 0 < r1 V S
    · exact x
    · have := Int.mul_nonpos_of_nonneg_of_nonpos (Int.le_of_lt p3) (show r1 V S ≤ 0 by omega)
      omega
  refine ⟨by omega, ?_⟩
  have : r1 V S ≤ gc V S * r1 V S := by
    have := Int.mul_le_mul_of_nonneg_right (show (1 : Int) ≤ gc V S by omega) (Int.le_of_lt hp)
    rw [Int.one_mul] at this
    exact this
  omega
theorem between {V S : List Int} (h : okB V S = true) {lo hi : Int} (hl : ∀ i, i < V.length → lo ≤ V.getD i 0) (hh : ∀ i, i < V.length → V.getD i 0 ≤ hi) : lo * r1 V S ≤ r0 V S ∧ r0 V S ≤ hi * r1 V S := by
  obtain ⟨p1, p2, p3⟩ := parts h
  have O := ok_of h
  have t1 : lo * low V S ≤ top V S := by
    unfold low top
    rw [← sm_mul]
    exact sm_le fun i hi => Int.mul_le_mul_of_nonneg_right (hl i hi) (by have := O.mms i; omega)
  have t2 : top V S ≤ hi * low V S := by
    unfold low top
    rw [← sm_mul]
    exact sm_le fun i hi' => Int.mul_le_mul_of_nonneg_right (hh i hi') (by have := O.mms i; omega)
  rw [← p1, ← p2] at t1 t2
  have c : ∀ x : Int, x * (gc V S * r1 V S) = gc V S * (x * r1 V S) := fun x => by rw [← Int.mul_assoc, Int.mul_comm x, Int.mul_assoc]
  rw [c] at t1 t2
  exact ⟨Int.le_of_mul_le_mul_left t1 p3, Int.le_of_mul_le_mul_left t2 p3⟩
def sv (V : List Int) (k : Nat) : Int := sm k fun i => V.getD i 0
theorem rep_at (n : Nat) (c : Int) (i : Nat) (hi : i < n) : (List.replicate n c).getD i 0 = c := by simp [List.getD_eq_getElem?_getD, hi]
theorem mm_alike (n : Nat) (c : Int) (hc : c ≠ 0) (i j : Nat) (hi : i < n) (hj : j < n) : mm (List.replicate n c) i = mm (List.replicate n c) j := by
  have a := but_mul (n := n) (i := i) (fun k => (List.replicate n c).getD k 0) hi
  have b := but_mul (n := n) (i := j) (fun k => (List.replicate n c).getD k 0) hj
  rw [rep_at n c i hi] at a
  rw [rep_at n c j hj] at b
  unfold mm
  rw [List.length_replicate]
  exact Int.eq_of_mul_eq_mul_right hc (a.symm.trans b)
theorem ok_rep {V S : List Int} (h : okB V S = true) : okB V (List.replicate V.length (S.getD 0 0)) = true := by
  have O := ok_of h
  have s0 := O.sb 0 (by have := O.n1; omega)
  unfold okB at h ⊢
  rw [Bool.and_eq_true, Bool.and_eq_true] at h ⊢
  refine ⟨h.1, h.2.1, ?_⟩
  unfold nums
  rw [Bool.and_eq_true, decide_eq_true_eq, List.all_eq_true, List.length_replicate]
  refine ⟨rfl, fun d hd => ?_⟩
  rw [List.eq_of_mem_replicate hd, inn_iff]
  exact s0
theorem mean_is {V S : List Int} (h : okB V S = true) : r0 V (List.replicate V.length (S.getD 0 0)) * (V.length : Int) = sv V V.length * r1 V (List.replicate V.length (S.getD 0 0)) := by
  have O := ok_of h
  have s0 := O.sb 0 (by have := O.n1; omega)
  obtain ⟨p1, p2, p3⟩ := parts (ok_rep h)
  generalize S.getD 0 0 = c at *
  have e1 : top V (List.replicate V.length c) = mm (List.replicate V.length c) 0 * sv V V.length := by
    unfold top sv
    rw [← sm_mul]
    exact sm_congr fun i hi => by rw [mm_alike V.length c (by omega) i 0 hi (by omega), Int.mul_comm]
  have e2 : low V (List.replicate V.length c) = mm (List.replicate V.length c) 0 * (V.length : Int) := by
    have e : low V (List.replicate V.length c) = sm V.length (fun _ => mm (List.replicate V.length c) 0) := sm_congr fun i hi => mm_alike V.length c (by omega) i 0 hi (by omega)
    rw [e, sm_const, Int.mul_comm]
  rw [e1] at p1
  rw [e2] at p2
  generalize gc V (List.replicate V.length c) = g at *
  generalize r0 V (List.replicate V.length c) = a at *
  generalize r1 V (List.replicate V.length c) = b at *
  generalize mm (List.replicate V.length c) 0 = m at *
  generalize sv V V.length = s at *
  generalize (V.length : Int) = n at *
  have q1 : g * a * n = g * (a * n) := Int.mul_assoc ..
  have q2 : s * (g * b) = g * (s * b) := by rw [← Int.mul_assoc, Int.mul_comm s, Int.mul_assoc]
  have q3 : m * s * n = s * (m * n) := by rw [Int.mul_comm m s, Int.mul_assoc]
  rw [p1, q3, ← p2, q2] at q1
  exact (Int.eq_of_mul_eq_mul_left (by omega) q1).symm
theorem num_bd {V S : List Int} (h : okB V S = true) : -5000000000000000 ≤ r0 V S ∧ r0 V S ≤ 5000000000000000 := by
  have O := ok_of h
  have d := den_pos h
  have b := between h (lo := -100000) (hi := 100000) (fun i hi => (O.vb i hi).1) (fun i hi => (O.vb i hi).2)
  omega
end Go.Proofs.Ytoemkkppopebcaa.Bl
