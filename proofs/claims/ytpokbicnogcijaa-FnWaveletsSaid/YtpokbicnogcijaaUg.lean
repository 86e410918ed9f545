/- Two lists that are one; flat waves; the program's Wave where it is granted. -/
import Derived.Test.YtpokbicnogcijaaUf
import Derived.BigQuiet
namespace Go.Proofs.Ytpokbicnogcijaa.Rd
open Go.ChangeShapes Go.WideShapes Go.ChangeAt Go.RowKit
open Go.Proofs.Ytpokbicnogcijaa.Lists

set_option maxHeartbeats 1000000 in
theorem same_li (w : World) (v u : Value) (L : List Int) (h1 : Li w v L) (h2 : Li w u L) (hl : L.length ≤ 61) : Calls Try.prog 15 #[v, u] w fun e w' => e = .returned (.bool true) ∧ ∃ m, w' = w.drewN m := by
  obtain ⟨g, c, rfl, a1, a2, a3, a4⟩ := h1
  obtain ⟨g', c', rfl, b1, b2, b3, b4⟩ := h2
  have A4 : Hid (∀ i, i < L.length → w.cell? ⟨g, i, none⟩ = some (.int .i64 (L.getD i 0))) := a4
  have B4 : Hid (∀ i, i < L.length → w.cell? ⟨g', i, none⟩ = some (.int .i64 (L.getD i 0))) := b4
  obtain ⟨n, hn⟩ : ∃ n, n = L.length := ⟨_, rfl⟩
  rw [← hn] at A4 B4 hl ⊢
  clear a4 b4 a1 b1 hn
  go_enter Try.func15, Try.ntmps15
  have nn : ((n : Int) != (n : Int)) = false := by simp
  go_wp2_with fail
  go_loopw [5] (fun i wr => ∃ k m : Nat, k ≤ n ∧ i = .int .i64 k ∧ wr = w.drewN m) (fun i _ => n - (intOf i).toNat)
  case atStart => exact ⟨0, 0, Nat.zero_le _, rfl, rfl⟩
  case round =>
    obtain ⟨k, m, hk, rfl, rfl⟩ := hrel
    by_cases hlt : k < n
    · have i1 : (k : Int) < (n : Int) := by omega
      have i0 : (0 : Int) ≤ (k : Int) := by omega
      have q1 := A4.out k hlt
      have q2 := B4.out k hlt
      generalize L.getD k 0 = z at q1 q2
      have zz : (z != z) = false := by simp
      go_wp2_with fail
      go_quiet (fail)
      go_wp2_with fail
      go_roundw
      case rel => exact ⟨k + 1, m + nq, by omega, by go_num, by first | rfl | simp⟩
      case measure => simp [intOf]; omega
    · have hkn : k = n := by omega
      subst hkn
      have i1 : ¬ (k : Int) < (k : Int) := by omega
      go_wp2_with fail
      go_ret
      exact ⟨rfl, m, rfl⟩
end Go.Proofs.Ytpokbicnogcijaa.Rd
namespace Go.Proofs.Ytpokbicnogcijaa.Lists
open Go.ChangeShapes Go.WideShapes Go.ChangeAt Go.RowKit
def flat (n m : Nat) (c : Int) : List Int := (List.range n).map fun i => if i < m then c else 0
theorem flat_len (n m : Nat) (c : Int) : (flat n m c).length = n := by simp [flat]
theorem flat_get (n m : Nat) (c : Int) {i : Nat} (h : i < n) : (flat n m c).getD i 0 = if i < m then c else 0 := by simp [flat, List.getD_eq_getElem?_getD, h]
theorem flat_rep (n : Nat) (c : Int) : List.replicate n c = flat n n c := by
  refine eq_of_get (by simp [flat_len]) fun i hi => ?_
  rw [List.length_replicate] at hi
  rw [flat_get n n c hi, if_pos hi]
  simp [List.getD_eq_getElem?_getD, hi]
theorem flat_step (n m : Nat) (c : Int) (hm : m ≤ n) : stepW m (flat n m c) = flat n (m - m / 2) c := by
  refine eq_of_get (by rw [step_len, flat_len, flat_len]) fun i hi => ?_
  rw [step_len, flat_len] at hi
  rw [step_gt m _ (by rw [flat_len]; exact hi), flat_get n (m - m / 2) c hi]
  by_cases a : i < m / 2
  · rw [if_pos a, if_pos (by omega)]
    unfold mnA mean
    rw [flat_get n m c (by omega), flat_get n m c (by omega), if_pos (by omega), if_pos (by omega)]
    omega
  · rw [if_neg a]
    by_cases b : i < m - m / 2
    · rw [if_pos b, if_pos b, flat_get n m c (by omega), if_pos (by omega)]
    · rw [if_neg b, if_neg b]
      by_cases d : i < m
      · rw [if_pos d]
        unfold dfA
        rw [flat_get n m c (by omega), flat_get n m c (by omega), if_pos (by omega), if_pos (by omega)]
        omega
      · rw [if_neg d, flat_get n m c hi, if_neg d]
theorem flat_wav (n : Nat) (c : Int) : ∀ k m, m ≤ n → wav k m (flat n m c) = flat n (ft k m) c
  | 0, _, _ => rfl
  | k + 1, m, hm => by rw [wav, flat_step n m c hm, flat_wav n c k (m - m / 2) (by omega)]; rfl
theorem ft_one : ∀ k m, m ≤ 2 ^ k → ft k m ≤ 1
  | 0, m, h => h
  | k + 1, m, h => ft_one k (m - m / 2) (by rw [Nat.pow_succ] at h; omega)
theorem ft_pos : ∀ k m, 1 ≤ m → 1 ≤ ft k m
  | 0, _, h => h
  | k + 1, m, h => ft_pos k (m - m / 2) (by omega)
theorem flat_end {n : Nat} (h1 : 1 ≤ n) (h2 : n ≤ 61) (c : Int) : wav 12 n (List.replicate n c) = flat n 1 c := by
  rw [flat_rep, flat_wav n c 12 n (Nat.le_refl _)]
  have a := ft_one 12 n (Nat.le_trans h2 (by decide))
  have b := ft_pos 12 n h1
  rw [show ft 12 n = 1 by omega]

set_option maxHeartbeats 1000000 in
theorem iwave_yes (w : World) (t : Nat) (g cap : Nat) (X : List Int) (ht : 1 ≤ t ∧ t ≤ 12) (hs : sml 1099511627776 X = true) (hg : g < w.heap.size) (hc : X.length ≤ cap) (hcm : cap ≤ maxLen) (K : ∀ i, i < X.length → w.cell? ⟨g, i, none⟩ = some (.int .i64 (X.getD i 0))) :
    Calls Try.prog 14 #[.slice (some ⟨g, 0, none⟩) X.length cap, .int .i64 (t : Int)] w fun e w' => ∃ g' c', e = .returned (.tuple #[.slice (some ⟨g', 0, none⟩) X.length c', .bool true]) ∧ w.heap.size ≤ g' ∧ w'.ownsRow w.heap.size 2 1 (.slice (some ⟨g', 0, none⟩) X.length c') X.length (ints (wav t X.length X)) ∧ Below w.heap.size w w' := by
  have HO : Hid (okS (t : Int) = true) := (by show okS _ = true; unfold okS; simp; omega)
  have HP : Hid (Calls Try.prog 24 #[.iface 39 (.agg #[.int .i64 (t : Int)]), .slice (some ⟨g, 0, none⟩) X.length cap] w fun e w' => ∃ g' c', e = .returned (.tuple #[.slice (some ⟨g', 0, none⟩) X.length c', .bool true]) ∧ w.heap.size ≤ g' ∧ w'.ownsRow w.heap.size 2 1 (.slice (some ⟨g', 0, none⟩) X.length c') X.length (ints (wav t X.length X)) ∧ Below w.heap.size w w') := forth_yes w t g _ cap X rfl hg ht.2 hc hcm hs K
  clear K hs
  go_enter Try.func14, Try.ntmps14
  go_wp2_with (go_at_call 18; refine (win_any _ _ _ _).mono ?_; rintro e w' ⟨rfl, hw⟩; have hw' := hw.symm; subst hw'; rw [show (decide ((1 : Int) ≤ (t : Int)) && decide ((t : Int) ≤ 12)) = true from HO.out])
  refine HP.out.mono ?_
  rintro e w2 ⟨g', c', rfl, q1, o1, b1⟩
  have O1 : Hid (w2.ownsRow w.heap.size 2 1 (.slice (some ⟨g', 0, none⟩) X.length c') X.length (ints (wav t X.length X))) := o1
  have B1 : Hid (Below w.heap.size w w2) := b1
  clear o1 b1
  go_wp2_with fail
  go_ret2
  exact ⟨_, _, rfl, q1, O1.out, B1.out⟩
theorem swave_any (w : World) (s : Int) (g cap : Nat) (X : List Int) (hg : g < w.heap.size) (hc : X.length ≤ cap) (hcm : cap ≤ maxLen) (K : ∀ i, i < X.length → w.cell? ⟨g, i, none⟩ = some (.int .i64 (X.getD i 0))) :
    Calls Try.prog 13 #[.slice (some ⟨g, 0, none⟩) X.length cap, .int .i64 s] w fun e w' => ∃ v, e = .returned (.tuple #[v, .bool (wvb X s)]) ∧ Below w.heap.size w w' := by
  cases hb : wvb X s
  · exact (swave_no w s g cap X hg hc hcm K hb).mono fun _ _ ⟨v, a, _, b⟩ => ⟨v, a, b⟩
  · have hb' := hb
    unfold wvb at hb'
    simp only [Bool.and_eq_true] at hb'
    obtain ⟨t, rfl⟩ : ∃ t : Nat, s = (t : Int) := ⟨s.toNat, by have := hb'.2; unfold okS at this; simp at this; omega⟩
    exact (swave_yes w t g cap X hg hc hcm K hb'.2 hb'.1).mono fun _ _ ⟨v, a, _, b⟩ => ⟨v, a, b⟩
end Go.Proofs.Ytpokbicnogcijaa.Lists
