/- One step taken back in place: what joinFront makes of a parted front, when all numbers are within their limits. -/
import Derived.Test.YtpokbicnogcijaaWvT
namespace Go.Proofs.Ytpokbicnogcijaa.Lists
open Go.ChangeShapes Go.WideShapes Go.ChangeAt Go.RowKit

def joinP (m : Nat) (X : List Int) (k : Nat) : List Int := (List.range X.length).map fun i => if i < 2 * k then X.getD i 0 else (stepW m X).getD i 0
theorem join_len (m : Nat) (X : List Int) (k : Nat) : (joinP m X k).length = X.length := by simp [joinP]
theorem step_gt (m : Nat) (X : List Int) {i : Nat} (hi : i < X.length) : (stepW m X).getD i 0 = if i < m / 2 then mnA X i else if i < m - m / 2 then X.getD (m - 1) 0 else if i < m then dfA X (i - (m - m / 2)) else X.getD i 0 := by
  simp [stepW, List.getD_eq_getElem?_getD, hi]
theorem join_get (m : Nat) (X : List Int) (k : Nat) {i : Nat} (hi : i < X.length) : (joinP m X k).getD i 0 = if i < 2 * k then X.getD i 0 else (stepW m X).getD i 0 := by
  simp [joinP, List.getD_eq_getElem?_getD, hi]
theorem eq_of_get {A B : List Int} (hl : A.length = B.length) (h : ∀ i, i < A.length → A.getD i 0 = B.getD i 0) : A = B := by
  apply List.ext_getElem hl
  intro i h1 h2
  have := h i h1
  simpa [List.getD_eq_getElem?_getD, h1, h2] using this
theorem get_set (L : List Int) {j : Nat} (x : Int) {i : Nat} (hi : i < L.length) : (L.set j x).getD i 0 = if j = i then x else L.getD i 0 := by
  simp only [List.getD_eq_getElem?_getD, List.getElem?_set]
  by_cases e : j = i
  · subst e; simp [hi]
  · rw [if_neg e, if_neg e]
theorem join_zero (m : Nat) (X : List Int) : joinP m X 0 = stepW m X := by
  refine eq_of_get (by rw [join_len, step_len]) fun i hi => ?_
  rw [join_len] at hi
  rw [join_get m X 0 hi, if_neg (by omega)]
theorem join_set (m : Nat) (X : List Int) (k : Nat) : ((joinP m X k).set (2 * k) (X.getD (2 * k) 0)).set (2 * k + 1) (X.getD (2 * k + 1) 0) = joinP m X (k + 1) := by
  refine eq_of_get (by rw [List.length_set, List.length_set, join_len, join_len]) fun i hi => ?_
  rw [List.length_set, List.length_set, join_len] at hi
  rw [get_set _ _ (by rw [List.length_set, join_len]; exact hi), get_set _ _ (by rw [join_len]; exact hi), join_get m X k hi, join_get m X (k + 1) hi]
  by_cases e : 2 * k + 1 = i
  · subst e; rw [if_pos rfl, if_pos (by omega)]
  · rw [if_neg e]
    by_cases e2 : 2 * k = i
    · subst e2; rw [if_pos rfl, if_pos (by omega)]
    · rw [if_neg e2]
      by_cases x : i < 2 * k
      · rw [if_pos x, if_pos (by omega)]
      · rw [if_neg x, if_neg (by omega)]
theorem join_even (m : Nat) (X : List Int) (h : ¬ m / 2 < m - m / 2) : joinP m X (m / 2) = X := by
  refine eq_of_get (join_len _ _ _) fun i hi => ?_
  rw [join_len] at hi
  rw [join_get m X _ hi]
  by_cases x : i < 2 * (m / 2)
  · rw [if_pos x]
  · rw [if_neg x, step_gt m X hi, if_neg (by omega), if_neg (by omega), if_neg (by omega)]
theorem join_odd (m : Nat) (X : List Int) (h : m / 2 < m - m / 2) : (joinP m X (m / 2)).set (m - 1) (X.getD (m - 1) 0) = X := by
  refine eq_of_get (by rw [List.length_set, join_len]) fun i hi => ?_
  rw [List.length_set, join_len] at hi
  rw [get_set _ _ (by rw [join_len]; exact hi), join_get m X _ hi]
  by_cases e : m - 1 = i
  · subst e; rw [if_pos rfl]
  · rw [if_neg e]
    by_cases x : i < 2 * (m / 2)
    · rw [if_pos x]
    · rw [if_neg x, step_gt m X hi, if_neg (by omega), if_neg (by omega), if_neg (by omega)]
theorem take_row {w : World} {base g n cap m c : Nat} {X : List Int} (hn : X.length = n) (hm : m ≤ n) (hc : m ≤ c) (hcm : c ≤ maxLen) (h : w.ownsRow base 2 1 (.slice (some ⟨g, 0, none⟩) n cap) n (ints X)) : Reads w (.slice (some ⟨g, 0, none⟩) m c) (X.take m) := by
  subst hn
  have e : (X.take m).length = m := by rw [List.length_take]; omega
  refine .inr ⟨g, 0, c, by rw [e], by rw [e]; exact hc, hcm, (h.lt g rfl).2, fun i hi => ?_⟩
  rw [e] at hi
  rw [Nat.zero_add, row_cell h i (by omega)]
  simp [List.getD_eq_getElem?_getD, hi]

set_option maxHeartbeats 1000000 in
theorem joinf_any (w : World) (base g m n c cap : Nat) (X : List Int) (hn : X.length = n) (hl : n ≤ 4096) (hm : m ≤ n) (hc : m ≤ c) (hcm : c ≤ maxLen) (hb : bnd m X) (h : w.ownsRow base 2 1 (.slice (some ⟨g, 0, none⟩) n cap) n (ints (stepW m X))) :
    Calls Try.prog 53 #[.slice (some ⟨g, 0, none⟩) m c] w fun e w' => e = .returned (.tuple #[]) ∧ w'.ownsRow base 2 1 (.slice (some ⟨g, 0, none⟩) n cap) n (ints X) ∧ w.grownBy w' (some g) := by
  have hlt : g < w.heap.size := (h.lt g rfl).2
  have hsl : (stepW m X).length = n := by rw [step_len]; exact hn
  have K : ∀ i, i < n → w.cell? ⟨g, i, none⟩ = some (.int .i64 ((stepW m X).getD i 0)) := fun i hi => by subst hn; exact row_cell (L := stepW m X) (by rw [step_len]; exact h) i (by rw [step_len]; exact hi)
  have CL : Hid (Calls Try.prog 50 #[.slice (some ⟨g, 0, none⟩) m c] w fun e w' => ∃ g' c', e = .returned (.slice (some ⟨g', 0, none⟩) m c') ∧ w.heap.size ≤ g' ∧ m ≤ c' ∧ c' ≤ maxLen ∧ w'.ownsRow w.heap.size 2 1 (.slice (some ⟨g', 0, none⟩) m c') m (ints ((stepW m X).take m)) ∧ Below w.heap.size w w') :=
    clone_any w g m c ((stepW m X).take m) (by simp [step_len]; omega) (by omega) hlt fun i hi => by rw [K i (by omega)]; simp [List.getD_eq_getElem?_getD, hi]
  have HO : Hid (w.ownsRow base 2 1 (.slice (some ⟨g, 0, none⟩) n cap) n (ints (joinP m X 0))) := (by show World.ownsRow _ _ _ _ _ _ _; rw [join_zero]; exact h)
  have HB : Hid (bnd m X) := hb
  have HX : Hid (X.length = n) := hn
  have HC : Hid (m ≤ c ∧ c ≤ maxLen) := ⟨hc, hcm⟩
  obtain ⟨p, hp⟩ : ∃ p : Nat, p = m / 2 := ⟨_, rfl⟩
  have hp1 : Int.tdiv (m : Int) 2 = (p : Int) := by rw [hp]; rfl
  obtain ⟨t, ht⟩ : ∃ t : Nat, t = m - p := ⟨_, rfl⟩
  have ht1 : (m : Int) - (p : Int) = (t : Int) := by omega
  have HP : Hid (p = m / 2 ∧ t = m - p) := ⟨hp, ht⟩
  have hpm : p ≤ t ∧ p + t = m ∧ t ≤ p + 1 := by omega
  have NB : Hid (∀ (wr : World), wr.ownsRow base 2 1 (.slice (some ⟨g, 0, none⟩) n cap) n (ints X) → Calls Try.prog 19 #[.slice (some ⟨g, 0, none⟩) m c, .int .i64 1152921504606846976] wr fun e w' => e = .returned (.bool true) ∧ w' = wr) := fun wr hr => (by
    have e : (X.take m).length = m := by rw [List.length_take, hn]; omega
    have hs : sml 1152921504606846976 (X.take m) = true := sml_iff.2 ⟨by rw [e]; omega, fun i hi => by
      rw [e] at hi
      have := hb i hi
      have e2 : (X.take m).getD i 0 = X.getD i 0 := by simp [List.getD_eq_getElem?_getD, hi]
      rw [e2]; omega⟩
    have := inum_any wr _ (X.take m) 1152921504606846976 (take_row hn hm hc hcm hr) (by omega) (by omega) (by rw [e]; omega)
    rw [hs] at this
    exact this)
  clear h hb K hn hp ht hc hcm hsl
  go_enter Try.func53, Try.ntmps53
  go_wp2_with fail
  refine CL.out.mono ?_
  rintro e w1 ⟨g', c', rfl, q1, q2, q3, o1, b1⟩
  have O1 : Hid (w1.ownsRow base 2 1 (.slice (some ⟨g, 0, none⟩) n cap) n (ints (joinP m X 0))) := HO.out.kept (row := none) (Below.grownBy b1 none) (.inr (by simp [Value.ownBlock]))
  have G1 : Hid (w.grownBy w1 (some g)) := Below.grownBy b1 _
  have KO : Hid (g' < w1.heap.size ∧ ∀ i, i < m → w1.cell? ⟨g', i, none⟩ = some (.int .i64 ((stepW m X).getD i 0))) := ⟨(o1.lt g' rfl).2, fun i hi => by
    have hlm : ((stepW m X).take m).length = m := by have := HX.out; simp [step_len]; omega
    have := row_cell (L := (stepW m X).take m) (by rw [hlm]; exact o1) i (by omega)
    rw [this]
    simp [List.getD_eq_getElem?_getD, hi]⟩
  clear o1 b1 HO CL
  unfold maxLen at q3
  go_wp2_with fail
  go_loopw [5, 6, 7, 18] (fun _ _ _ i wr => ∃ k : Nat, k ≤ p ∧ i = .int .i64 k ∧ Hid (wr.ownsRow base 2 1 (.slice (some ⟨g, 0, none⟩) n cap) n (ints (joinP m X k))) ∧ Hid (w.grownBy wr (some g)) ∧ Hid (g' < wr.heap.size ∧ ∀ i, i < m → wr.cell? ⟨g', i, none⟩ = some (.int .i64 ((stepW m X).getD i 0)))) (fun _ _ _ i _ => p - (intOf i).toNat)
  case atStart => exact ⟨0, Nat.zero_le _, rfl, O1, G1, KO⟩
  case round =>
    obtain ⟨k, hk, rfl, O, G, KO2⟩ := hrel
    by_cases hkp : k < p
    · have a1 : (k : Int) < (p : Int) := by omega
      have a0 : (0 : Int) ≤ (k : Int) := by omega
      obtain ⟨x, hx⟩ : ∃ x, x = X.getD (2 * k) 0 := ⟨_, rfl⟩
      obtain ⟨y, hy⟩ : ∃ y, y = X.getD (2 * k + 1) 0 := ⟨_, rfl⟩
      obtain ⟨k2, hk2⟩ : ∃ k2 : Nat, k2 = 2 * k := ⟨_, rfl⟩
      obtain ⟨k3, hk3⟩ : ∃ k3 : Nat, k3 = 2 * k + 1 := ⟨_, rfl⟩
      obtain ⟨tk, htk⟩ : ∃ tk : Nat, tk = t + k := ⟨_, rfl⟩
      have s1 : (stepW m X).getD k 0 = x + (y - x) / 2 := by
        have h1 := HP.out
        rw [step_gt m X (by rw [HX.out]; omega), if_pos (by omega), hx, hy]; rfl
      have s2 : (stepW m X).getD tk 0 = y - x := by
        have h1 := HP.out
        rw [step_gt m X (by rw [HX.out]; omega), if_neg (by omega), if_neg (by omega), if_pos (by omega), show tk - (m - m / 2) = k by omega, hx, hy]; rfl
      have r1 : wr.cell? ⟨g', k, none⟩ = some (.int .i64 (x + (y - x) / 2)) := (by rw [← s1]; exact KO2.out.2 k (by omega))
      have r2 : wr.cell? ⟨g', tk, none⟩ = some (.int .i64 (y - x)) := (by rw [← s2]; exact KO2.out.2 tk (by omega))
      have bx := HB.out (2 * k) (by omega)
      have bym := HB.out (2 * k + 1) (by omega)
      rw [← hx] at bx
      rw [← hy] at bym
      have EX : Hid (x = X.getD (2 * k) 0 ∧ y = X.getD (2 * k + 1) 0) := ⟨hx, hy⟩
      clear hx hy s1 s2
      obtain ⟨d, hd⟩ : ∃ d, d = y - x := ⟨_, rfl⟩
      rw [← hd] at r1 r2
      obtain ⟨a, ha⟩ : ∃ a, a = x + d / 2 := ⟨_, rfl⟩
      rw [← ha] at r1
      have e1 : a - d / 2 = x := by omega
      have e2 : x + d = y := by omega
      have bd : -2199023255552 ≤ d ∧ d ≤ 2199023255552 := by omega
      have ba : -2199023255552 ≤ a ∧ a ≤ 2199023255552 := by omega
      clear hd ha
      have i1 : (2 : Int) * (k : Int) = (k2 : Int) := by omega
      have i2 : (k2 : Int) < (m : Int) := by omega
      have i3 : (k2 : Int) + 1 = (k3 : Int) := by omega
      have i4 : (k3 : Int) < (m : Int) := by omega
      have i5 : (k : Int) < (m : Int) := by omega
      have i6 : (t : Int) + (k : Int) = (tk : Int) := by omega
      have i7 : (tk : Int) < (m : Int) := by omega
      have cg : ∃ z, wr.cell? ⟨g, k2, none⟩ = some (.int .i64 z) := row_int O.out (by rw [join_len, HX.out]) k2 (by omega)
      obtain ⟨z1, cg⟩ := cg
      have fz : wr.frozen? ⟨g, k2, none⟩ = false := O.out.frozenAt k2
      have HKK : Hid (k2 = 2 * k ∧ k3 = 2 * k + 1 ∧ tk = t + k) := ⟨hk2, hk3, htk⟩
      have S1 : (wr.setCell ⟨g, k2, none⟩ (.int .i64 x)).ownsRow base 2 1 (.slice (some ⟨g, 0, none⟩) n cap) n (ints ((joinP m X k).set k2 x)) := (by rw [← ints_set]; exact (O.out.stored k2 _).1)
      have S2 : ((wr.setCell ⟨g, k2, none⟩ (.int .i64 x)).setCell ⟨g, k3, none⟩ (.int .i64 y)).ownsRow base 2 1 (.slice (some ⟨g, 0, none⟩) n cap) n (ints (((joinP m X k).set k2 x).set k3 y)) := (by rw [← ints_set]; exact (S1.stored k3 _).1)
      have cg2 : ∃ z, (wr.setCell ⟨g, k2, none⟩ (.int .i64 x)).cell? ⟨g, k3, none⟩ = some (.int .i64 z) := row_int S1 (by rw [List.length_set, join_len, HX.out]) k3 (by omega)
      obtain ⟨z2, cg2⟩ := cg2
      have fz2 : (wr.setCell ⟨g, k2, none⟩ (.int .i64 x)).frozen? ⟨g, k3, none⟩ = false := S1.frozenAt k3
      have G2 : Hid (w.grownBy ((wr.setCell ⟨g, k2, none⟩ (.int .i64 x)).setCell ⟨g, k3, none⟩ (.int .i64 y)) (some g)) := grown_setCell (grown_setCell G.out k2 _) k3 _
      have K2 : Hid (g' < ((wr.setCell ⟨g, k2, none⟩ (.int .i64 x)).setCell ⟨g, k3, none⟩ (.int .i64 y)).heap.size ∧ ∀ i, i < m → ((wr.setCell ⟨g, k2, none⟩ (.int .i64 x)).setCell ⟨g, k3, none⟩ (.int .i64 y)).cell? ⟨g', i, none⟩ = some (.int .i64 ((stepW m X).getD i 0))) := (by
        have gb : wr.grownBy ((wr.setCell ⟨g, k2, none⟩ (.int .i64 x)).setCell ⟨g, k3, none⟩ (.int .i64 y)) (some g) := grown_setCell (grown_setCell (World.grownBy.refl _ _) k2 _) k3 _
        exact ⟨Nat.lt_of_lt_of_le KO2.out.1 gb.size, fun i hi => gb.cell (KO2.out.2 i hi) (fun e => by simp at e; omega)⟩)
      have O2 : Hid (((wr.setCell ⟨g, k2, none⟩ (.int .i64 x)).setCell ⟨g, k3, none⟩ (.int .i64 y)).ownsRow base 2 1 (.slice (some ⟨g, 0, none⟩) n cap) n (ints (joinP m X (k + 1)))) := (by
        show World.ownsRow _ _ _ _ _ _ _
        have e := join_set m X k
        rw [← EX.out.1, ← EX.out.2, ← HKK.out.2.1, ← HKK.out.1] at e
        rw [← e]
        exact S2)
      clear S1 S2 hk2 hk3 htk
      go_wp2_with fail
      go_roundw
      case rel => exact ⟨k + 1, by omega, by go_num, O2, G2, K2⟩
      case measure => simp [intOf]; omega
    · have hkp' : k = p := by omega
      subst hkp'
      by_cases hodd : k < t
      · have a1 : (k : Int) < (t : Int) := by omega
        obtain ⟨m1, hm1⟩ : ∃ m1 : Nat, m1 = m - 1 := ⟨_, rfl⟩
        have a2 : (m : Int) - 1 = (m1 : Int) := by omega
        have a3 : (m1 : Int) < (m : Int) := by omega
        have a4 : (k : Int) < (m : Int) := by omega
        obtain ⟨x, hx⟩ : ∃ x, x = X.getD (m - 1) 0 := ⟨_, rfl⟩
        have s1 : (stepW m X).getD k 0 = x := by
          have h1 := HP.out
          rw [step_gt m X (by rw [HX.out]; omega), if_neg (by omega), if_pos (by omega), hx]
        have r1 : wr.cell? ⟨g', k, none⟩ = some (.int .i64 x) := (by rw [← s1]; exact KO2.out.2 k (by omega))
        have cg : ∃ z, wr.cell? ⟨g, m1, none⟩ = some (.int .i64 z) := row_int O.out (by rw [join_len, HX.out]) m1 (by omega)
        obtain ⟨z1, cg⟩ := cg
        have fz : wr.frozen? ⟨g, m1, none⟩ = false := O.out.frozenAt m1
        have O2 : (wr.setCell ⟨g, m1, none⟩ (.int .i64 x)).ownsRow base 2 1 (.slice (some ⟨g, 0, none⟩) n cap) n (ints X) := by
          have e := join_odd m X (by have := HP.out; omega)
          rw [← HP.out.1, ← hx, ← hm1] at e
          have h := (O.out.stored m1 (.int .i64 x)).1
          rw [ints_set, e] at h
          exact h
        have NB2 : Hid (Calls Try.prog 19 #[.slice (some ⟨g, 0, none⟩) m c, .int .i64 1152921504606846976] (wr.setCell ⟨g, m1, none⟩ (.int .i64 x)) fun e w' => e = .returned (.bool true) ∧ w' = wr.setCell ⟨g, m1, none⟩ (.int .i64 x)) := NB.out _ O2
        have O3 : Hid ((wr.setCell ⟨g, m1, none⟩ (.int .i64 x)).ownsRow base 2 1 (.slice (some ⟨g, 0, none⟩) n cap) n (ints X)) := O2
        have G2 : Hid (w.grownBy (wr.setCell ⟨g, m1, none⟩ (.int .i64 x)) (some g)) := grown_setCell G.out m1 _
        clear hx hm1 s1 O2
        go_wp2_with fail
        refine NB2.out.mono ?_
        rintro e w9 ⟨rfl, hw⟩
        subst hw
        go_wp2_with fail
        go_end0
        exact ⟨rfl, O3.out, G2.out⟩
      · have a1 : ¬ ((k : Int) < (t : Int)) := by omega
        have O2 : wr.ownsRow base 2 1 (.slice (some ⟨g, 0, none⟩) n cap) n (ints X) := by
          have e := join_even m X (by have := HP.out; omega)
          rw [← HP.out.1] at e
          have h := O.out
          rw [e] at h
          exact h
        have NB2 : Hid (Calls Try.prog 19 #[.slice (some ⟨g, 0, none⟩) m c, .int .i64 1152921504606846976] wr fun e w' => e = .returned (.bool true) ∧ w' = wr) := NB.out _ O2
        have O3 : Hid (wr.ownsRow base 2 1 (.slice (some ⟨g, 0, none⟩) n cap) n (ints X)) := O2
        clear O2
        go_wp2_with fail
        refine NB2.out.mono ?_
        rintro e w9 ⟨rfl, hw⟩
        have hw' := hw.symm
        subst hw'
        go_wp2_with fail
        go_end0
        exact ⟨rfl, O3.out, G.out⟩
end Go.Proofs.Ytpokbicnogcijaa.Lists
