/- Unwave of the model: what the walk stands on. -/
import Derived.Test.YtpokbicnogcijaaUn
namespace Go.Proofs.Ytpokbicnogcijaa.Lists
open Go.ChangeShapes Go.WideShapes Go.ChangeAt Go.RowKit

/-- a front of one number or none is left as it is -/
theorem unj_small {m : Nat} (Z : List Int) (h : m ≤ 1) : unj m Z = Z := by
  refine eq_of_get (unj_len _ _) fun i hi => ?_
  rw [unj_len] at hi
  rw [unj_get m Z hi, if_neg (by omega)]
  by_cases q : i < m
  · rw [if_pos q, show m / 2 = i by omega]
  · rw [if_neg q]
theorem ft_down : ∀ (j k n : Nat), k ≤ j → ft j n ≤ ft k n := by
  intro j
  induction j with
  | zero => intro k n h; rw [show k = 0 by omega]; exact Nat.le_refl _
  | succ j ih =>
    intro k n h
    by_cases e : k = j + 1
    · rw [e]; exact Nat.le_refl _
    · have := ih k n (by omega)
      have := ft_succ j n
      omega
/-- all numbers are within their limits where those of the front are -/
theorem chk_eq {n m : Nat} {Z : List Int} (h : GZ n Z) (hm : m ≤ n) (hn : n ≤ 4096) : sml 1152921504606846976 (unj m Z) = sml 1152921504606846976 ((unj m Z).take m) := by
  cases e : sml 1152921504606846976 ((unj m Z).take m)
  · cases e2 : sml 1152921504606846976 (unj m Z)
    · rfl
    · exfalso
      have := sml_iff.1 e2
      have : sml 1152921504606846976 ((unj m Z).take m) = true := sml_iff.2 ⟨by rw [List.length_take]; omega, fun i hi => by
        rw [List.length_take] at hi
        have h1 := this.2 i (by omega)
        rw [show ((unj m Z).take m).getD i 0 = (unj m Z).getD i 0 by simp [List.getD_eq_getElem?_getD, show i < m by omega]]
        exact h1⟩
      rw [e] at this
      cases this
  · have g := h.unj hm e
    exact sml_iff.2 ⟨by rw [g.1]; exact hn, fun i hi => g.2 i (by rw [g.1] at hi; exact hi)⟩
theorem gz_take {n m : Nat} {Z : List Int} (h : GZ n Z) (hm : m ≤ n) (hn : n ≤ 4096) : sml 1152921504606846976 (Z.take m) = true :=
  sml_iff.2 ⟨by rw [List.length_take]; omega, fun i hi => by
    rw [List.length_take] at hi
    rw [show (Z.take m).getD i 0 = Z.getD i 0 by simp [List.getD_eq_getElem?_getD, show i < m by omega]]
    exact h.2 i (by rw [h.1] at hi; omega)⟩
/-- the steps that work on one number change nothing -/
theorem un_skip {n : Nat} {Z : List Int} (h : GZ n Z) (hn : n ≤ 4096) : ∀ (s q : Nat), q ≤ s → ft q n ≤ 1 → un n s Z = un n q Z
  | 0, q, hq, _ => by rw [show q = 0 by omega]
  | s + 1, q, hq, hf => by
    by_cases e : q = s + 1
    · rw [e]
    · have fs : ft s n ≤ 1 := Nat.le_trans (ft_down s q n (by omega)) hf
      rw [un, unj_small Z fs, if_pos (gz_take h (ft_le s n) hn)]
      exact un_skip h hn s q (by omega) hf
/-- the joined pairs -/
def prs (m : Nat) (Z : List Int) (k : Nat) : List Int := (List.range (2 * k)).map (unjA m Z)
theorem prs_len (m : Nat) (Z : List Int) (k : Nat) : (prs m Z k).length = 2 * k := by simp [prs]
theorem prs_succ (m : Nat) (Z : List Int) (k : Nat) : prs m Z (k + 1) = prs m Z k ++ [ja m Z k, ja m Z k + jd m Z k] := by
  unfold prs
  rw [show 2 * (k + 1) = 2 * k + 1 + 1 by omega, List.range_succ, List.range_succ, List.map_append, List.map_append, List.append_assoc]
  congr 1
  simp only [List.map_cons, List.map_nil, List.cons_append, List.nil_append]
  unfold unjA
  rw [if_pos (by omega), if_neg (by omega), show 2 * k / 2 = k by omega, show (2 * k + 1) / 2 = k by omega]
theorem unj_cat (m : Nat) (Z : List Int) (hm : m ≤ Z.length) : unj m Z = prs m Z (m / 2) ++ (if m % 2 = 1 then [Z.getD (m / 2) 0] else []) ++ Z.drop m := by
  refine eq_of_get ?_ fun i hi => ?_
  · rw [unj_len, List.length_append, List.length_append, prs_len, List.length_drop]
    split <;> simp <;> omega
  · rw [unj_len] at hi
    rw [unj_get m Z hi]
    by_cases a : i < 2 * (m / 2)
    · rw [if_pos a, List.append_assoc]
      simp only [List.getD_eq_getElem?_getD]
      rw [List.getElem?_append_left (by rw [prs_len]; exact a)]
      simp [prs, a]
    · rw [if_neg a]
      by_cases b : m % 2 = 1
      · rw [if_pos b]
        by_cases d : i < m
        · rw [if_pos d]
          simp only [List.getD_eq_getElem?_getD]
          rw [List.getElem?_append_left (by rw [List.length_append, prs_len]; simp; omega), List.getElem?_append_right (by rw [prs_len]; omega), prs_len, show i - 2 * (m / 2) = 0 by omega]
          simp
        · rw [if_neg d]
          simp only [List.getD_eq_getElem?_getD]
          rw [List.getElem?_append_right (by rw [List.length_append, prs_len]; simp; omega), List.length_append, prs_len, List.getElem?_drop]
          simp only [List.length_cons, List.length_nil]
          rw [show m + (i - (2 * (m / 2) + (0 + 1))) = i by omega]
      · rw [if_neg b, if_neg (by omega), List.append_nil]
        simp only [List.getD_eq_getElem?_getD]
        rw [List.getElem?_append_right (by rw [prs_len]; omega), prs_len, List.getElem?_drop, show m + (i - 2 * (m / 2)) = i by omega]
set_option maxHeartbeats 1000000 in
theorem ssml60_any (w : World) (v : Value) (L : List Int) (h : Reads w v L) (hmax : L.length < 9223372036854775808) :
    Calls Try.prog 16 #[v, .int .u64 60] w fun e w' => e = .returned (.bool (sml 1152921504606846976 L)) ∧ w' = w := by
  obtain ⟨a, cap, rfl⟩ := h.form
  by_cases hb : 4096 < L.length
  · have e : sml 1152921504606846976 L = false := by unfold sml; simp; omega
    rw [e]
    have i1 : (4096 : Int) < (L.length : Int) := by omega
    go_enter Try.func16, Try.ntmps16
    go_wp2
    go_ret
    exact ⟨rfl, rfl⟩
  have c1 : ¬ ((4096 : Int) < (L.length : Int)) := by omega
  have SA : Hid (sml 1152921504606846976 L = true → ∀ i, i < L.length → -1152921504606846976 ≤ L.getD i 0 ∧ L.getD i 0 ≤ 1152921504606846976) := fun hq i hi => (sml_iff.1 hq).2 i hi
  have HC : Hid (∀ i, i < L.length → ∃ b o, a = some ⟨b, o, none⟩ ∧ L.length ≤ cap ∧ cap ≤ maxLen ∧ w.cell? ⟨b, o + i, none⟩ = some (.int .i64 (L.getD i 0))) := fun i hi => by
    rcases h with ⟨rfl, _⟩ | ⟨b, o, cap', h1, h2, h3, h4, h5⟩
    · simp at hi
    · injection h1 with q1 q2 q3
      subst q3
      exact ⟨b, o, q1, h2, h3, h5 i hi⟩
  obtain ⟨n, hn⟩ : ∃ n, n = L.length := ⟨_, rfl⟩
  have HN : Hid (n = L.length) := hn
  rw [← hn] at c1 hmax ⊢
  obtain ⟨r, hr⟩ : ∃ r, r = sml 1152921504606846976 L := ⟨_, rfl⟩
  have HRR : Hid (r = sml 1152921504606846976 L) := hr
  rw [← hr]
  clear h hb hn hr
  go_enter Try.func16, Try.ntmps16
  go_wp2_with fail
  go_loop [5] (fun c => ∃ j : Nat, j ≤ n ∧ c = .int .i64 j ∧ Hid (∀ i, i < j → -1152921504606846976 ≤ L.getD i 0 ∧ L.getD i 0 ≤ 1152921504606846976)) (fun c => n - (intOf c).toNat)
  case atStart => exact ⟨0, Nat.zero_le _, rfl, fun i hi => by omega⟩
  case round =>
    obtain ⟨j, hj, rfl, HJ⟩ := hrel
    by_cases hlt : j < n
    · obtain ⟨b, o, rfl, x1, x2, q0⟩ := HC.out j (by rw [← HN.out]; exact hlt)
      rw [← HN.out] at x1
      unfold maxLen at x2
      have i0 : (0 : Int) ≤ (j : Int) := by omega
      have i1 : (j : Int) < (n : Int) := by omega
      obtain ⟨z, hz⟩ : ∃ z, z = L.getD j 0 := ⟨_, rfl⟩
      have HZ : Hid (z = L.getD j 0) := hz
      rw [← hz] at q0
      clear hz
      by_cases hq : -1152921504606846976 ≤ z ∧ z ≤ 1152921504606846976
      · have d1 : ¬ (z < -1152921504606846976) := by omega
        have d2 : ¬ ((1152921504606846976 : Int) < z) := by omega
        have d1' : decide (z < -1152921504606846976) = false := by simp; omega
        have d2' : decide ((1152921504606846976 : Int) < z) = false := by simp; omega
        have HQ : Hid (-1152921504606846976 ≤ z ∧ z ≤ 1152921504606846976) := hq
        clear hq
        go_wp2_with fail
        go_round
        case rel => exact ⟨j + 1, by omega, by go_num, fun i hi => by
          by_cases e : i = j
          · subst e; rw [← HZ.out]; exact HQ.out
          · exact HJ.out i (by omega)⟩
        case measure => simp [intOf]; omega
      · have R1 : Hid (r = false) := (by
          show r = false
          rw [HRR.out]
          cases hs : sml 1152921504606846976 L
          · rfl
          · have := SA.out hs j (by rw [← HN.out]; exact hlt); rw [← HZ.out] at this; exact absurd this hq)
        by_cases hq1 : z < -1152921504606846976
        · clear hq
          go_wp2_with fail
          go_ret
          exact ⟨congrArg (fun x => Ending.returned (Value.bool x)) R1.out.symm, rfl⟩
        · have d1' : decide (z < -1152921504606846976) = false := by simp; omega
          have d2 : (1152921504606846976 : Int) < z := by omega
          clear hq
          go_wp2_with fail
          go_ret
          exact ⟨congrArg (fun x => Ending.returned (Value.bool x)) R1.out.symm, rfl⟩
    · have hjn : j = n := by omega
      subst hjn
      have R1 : Hid (r = true) := (by
        show r = true
        rw [HRR.out]
        exact sml_iff.2 ⟨by rw [← HN.out]; omega, fun i hi => HJ.out i (by rw [HN.out]; exact hi)⟩)
      go_wp2_with fail
      go_ret
      exact ⟨congrArg (fun x => Ending.returned (Value.bool x)) R1.out.symm, rfl⟩
end Go.Proofs.Ytpokbicnogcijaa.Lists
