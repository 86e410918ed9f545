/- One step taken back in place, whatever the list: joinFront returns or gives up. -/
import Derived.Test.YtpokbicnogcijaaUi
namespace Go.Proofs.Ytpokbicnogcijaa.Lists
open Go.ChangeShapes Go.WideShapes Go.ChangeAt Go.RowKit

def ja (m : Nat) (Z : List Int) (j : Nat) : Int := Z.getD j 0 - Z.getD (m - m / 2 + j) 0 / 2
def jd (m : Nat) (Z : List Int) (j : Nat) : Int := Z.getD (m - m / 2 + j) 0
def unjA (m : Nat) (Z : List Int) (i : Nat) : Int := if i % 2 = 0 then ja m Z (i / 2) else ja m Z (i / 2) + jd m Z (i / 2)
/-- the first k pairs are joined -/
def joinQ (m : Nat) (Z : List Int) (k : Nat) : List Int := (List.range Z.length).map fun i => if i < 2 * k then unjA m Z i else Z.getD i 0
def unj (m : Nat) (Z : List Int) : List Int := (List.range Z.length).map fun i => if i < 2 * (m / 2) then unjA m Z i else if i < m then Z.getD (m / 2) 0 else Z.getD i 0
theorem jq_len (m : Nat) (Z : List Int) (k : Nat) : (joinQ m Z k).length = Z.length := by simp [joinQ]
theorem unj_len (m : Nat) (Z : List Int) : (unj m Z).length = Z.length := by simp [unj]
theorem jq_get (m : Nat) (Z : List Int) (k : Nat) {i : Nat} (hi : i < Z.length) : (joinQ m Z k).getD i 0 = if i < 2 * k then unjA m Z i else Z.getD i 0 := by
  simp [joinQ, List.getD_eq_getElem?_getD, hi]
theorem unj_get (m : Nat) (Z : List Int) {i : Nat} (hi : i < Z.length) : (unj m Z).getD i 0 = if i < 2 * (m / 2) then unjA m Z i else if i < m then Z.getD (m / 2) 0 else Z.getD i 0 := by
  simp [unj, List.getD_eq_getElem?_getD, hi]
theorem jq_zero (m : Nat) (Z : List Int) : joinQ m Z 0 = Z := by
  refine eq_of_get (jq_len _ _ _) fun i hi => ?_
  rw [jq_len] at hi
  rw [jq_get m Z 0 hi, if_neg (by omega)]
theorem jq_set (m : Nat) (Z : List Int) (k : Nat) : ((joinQ m Z k).set (2 * k) (ja m Z k)).set (2 * k + 1) (ja m Z k + jd m Z k) = joinQ m Z (k + 1) := by
  refine eq_of_get (by rw [List.length_set, List.length_set, jq_len, jq_len]) fun i hi => ?_
  rw [List.length_set, List.length_set, jq_len] at hi
  rw [get_set _ _ (by rw [List.length_set, jq_len]; exact hi), get_set _ _ (by rw [jq_len]; exact hi), jq_get m Z k hi, jq_get m Z (k + 1) hi]
  by_cases e : 2 * k + 1 = i
  · subst e; rw [if_pos rfl, if_pos (by omega)]; unfold unjA; rw [if_neg (by omega), show (2 * k + 1) / 2 = k by omega]
  · rw [if_neg e]
    by_cases e2 : 2 * k = i
    · subst e2; rw [if_pos rfl, if_pos (by omega)]; unfold unjA; rw [if_pos (by omega), show (2 * k) / 2 = k by omega]
    · rw [if_neg e2]
      by_cases x : i < 2 * k
      · rw [if_pos x, if_pos (by omega)]
      · rw [if_neg x, if_neg (by omega)]
theorem jq_even (m : Nat) (Z : List Int) (h : ¬ m / 2 < m - m / 2) : joinQ m Z (m / 2) = unj m Z := by
  refine eq_of_get (by rw [jq_len, unj_len]) fun i hi => ?_
  rw [jq_len] at hi
  rw [jq_get m Z _ hi, unj_get m Z hi]
  by_cases x : i < 2 * (m / 2)
  · rw [if_pos x, if_pos x]
  · rw [if_neg x, if_neg x, if_neg (by omega)]
theorem jq_odd (m : Nat) (Z : List Int) (h : m / 2 < m - m / 2) : (joinQ m Z (m / 2)).set (m - 1) (Z.getD (m / 2) 0) = unj m Z := by
  refine eq_of_get (by rw [List.length_set, jq_len, unj_len]) fun i hi => ?_
  rw [List.length_set, jq_len] at hi
  rw [get_set _ _ (by rw [jq_len]; exact hi), jq_get m Z _ hi, unj_get m Z hi]
  by_cases e : m - 1 = i
  · subst e; rw [if_pos rfl, if_neg (by omega), if_pos (by omega)]
  · rw [if_neg e]
    by_cases x : i < 2 * (m / 2)
    · rw [if_pos x, if_pos x]
    · rw [if_neg x, if_neg x, if_neg (by omega)]
def bigW : Int := 1152921504606846976
def up2 : List PanicEntry := [{ v := .iface 54 (.int .i64 2), recovered := false }]
def JPo (w : World) (base g m n cap : Nat) (Z : List Int) (e : Ending) (w' : World) : Prop :=
  w.grownBy w' (some g) ∧ ((sml 1152921504606846976 ((unj m Z).take m) = true ∧ e = .returned (.tuple #[]) ∧ w'.ownsRow base 2 1 (.slice (some ⟨g, 0, none⟩) n cap) n (ints (unj m Z))) ∨ (sml 1152921504606846976 ((unj m Z).take m) = false ∧ e = .panicked up2))

set_option maxHeartbeats 1000000 in
theorem joinx_any (w : World) (base g m n c cap : Nat) (X : List Int) (hn : X.length = n) (hl : n ≤ 4096) (hm : m ≤ n) (hc : m ≤ c) (hcm : c ≤ maxLen) (hb : ∀ i, i < m → -1152921504606846976 ≤ X.getD i 0 ∧ X.getD i 0 ≤ 1152921504606846976) (h : w.ownsRow base 2 1 (.slice (some ⟨g, 0, none⟩) n cap) n (ints X)) :
    Calls Try.prog 53 #[.slice (some ⟨g, 0, none⟩) m c] w fun e w' => JPo w base g m n cap X e w' := by
  have hlt : g < w.heap.size := (h.lt g rfl).2
  have K : ∀ i, i < n → w.cell? ⟨g, i, none⟩ = some (.int .i64 (X.getD i 0)) := fun i hi => by subst hn; exact row_cell h i hi
  have CL : Hid (Calls Try.prog 50 #[.slice (some ⟨g, 0, none⟩) m c] w fun e w' => ∃ g' c', e = .returned (.slice (some ⟨g', 0, none⟩) m c') ∧ w.heap.size ≤ g' ∧ m ≤ c' ∧ c' ≤ maxLen ∧ w'.ownsRow w.heap.size 2 1 (.slice (some ⟨g', 0, none⟩) m c') m (ints (X.take m)) ∧ Below w.heap.size w w') :=
    clone_any w g m c (X.take m) (by simp; omega) (by omega) hlt fun i hi => by rw [K i (by omega)]; simp [List.getD_eq_getElem?_getD, hi]
  have HO : Hid (w.ownsRow base 2 1 (.slice (some ⟨g, 0, none⟩) n cap) n (ints (joinQ m X 0))) := (by show World.ownsRow _ _ _ _ _ _ _; rw [jq_zero]; exact h)
  have HB : Hid (∀ i, i < m → -1152921504606846976 ≤ X.getD i 0 ∧ X.getD i 0 ≤ 1152921504606846976) := hb
  have HX : Hid (X.length = n) := hn
  have HC : Hid (m ≤ c ∧ c ≤ maxLen) := ⟨hc, hcm⟩
  obtain ⟨p, hp⟩ : ∃ p : Nat, p = m / 2 := ⟨_, rfl⟩
  have hp1 : Int.tdiv (m : Int) 2 = (p : Int) := by rw [hp]; rfl
  obtain ⟨t, ht⟩ : ∃ t : Nat, t = m - p := ⟨_, rfl⟩
  have ht1 : (m : Int) - (p : Int) = (t : Int) := by omega
  have HP : Hid (p = m / 2 ∧ t = m - p) := ⟨hp, ht⟩
  have hpm : p ≤ t ∧ p + t = m ∧ t ≤ p + 1 := by omega
  obtain ⟨ok, hok⟩ : ∃ ok, ok = sml 1152921504606846976 ((unj m X).take m) := ⟨_, rfl⟩
  have HK : Hid (ok = sml 1152921504606846976 ((unj m X).take m)) := hok
  have NB : Hid (∀ (wr : World), wr.ownsRow base 2 1 (.slice (some ⟨g, 0, none⟩) n cap) n (ints (unj m X)) → Calls Try.prog 19 #[.slice (some ⟨g, 0, none⟩) m c, .int .i64 1152921504606846976] wr fun e w' => e = .returned (.bool ok) ∧ w' = wr) := fun wr hr => (by
    have e : ((unj m X).take m).length = m := by rw [List.length_take, unj_len, hn]; omega
    have := inum_any wr _ ((unj m X).take m) 1152921504606846976 (take_row (by rw [unj_len]; exact hn) hm hc hcm hr) (by omega) (by omega) (by rw [e]; omega)
    rw [← hok] at this
    exact this)
  clear h hb K hn hp ht hc hcm hok
  go_enter Try.func53, Try.ntmps53
  go_wp2_with fail
  refine CL.out.mono ?_
  rintro e w1 ⟨g', c', rfl, q1, q2, q3, o1, b1⟩
  have O1 : Hid (w1.ownsRow base 2 1 (.slice (some ⟨g, 0, none⟩) n cap) n (ints (joinQ m X 0))) := HO.out.kept (row := none) (Below.grownBy b1 none) (.inr (by simp [Value.ownBlock]))
  have G1 : Hid (w.grownBy w1 (some g)) := Below.grownBy b1 _
  have KO : Hid (g' < w1.heap.size ∧ ∀ i, i < m → w1.cell? ⟨g', i, none⟩ = some (.int .i64 (X.getD i 0))) := ⟨(o1.lt g' rfl).2, fun i hi => by
    have hlm : (X.take m).length = m := by have := HX.out; simp; omega
    have := row_cell (L := X.take m) (by rw [hlm]; exact o1) i (by omega)
    rw [this]
    simp [List.getD_eq_getElem?_getD, hi]⟩
  clear o1 b1 HO CL
  unfold maxLen at q3
  go_wp2_with fail
  go_loopw [5, 6, 7, 18] (fun _ _ _ i wr => ∃ k : Nat, k ≤ p ∧ i = .int .i64 k ∧ Hid (wr.ownsRow base 2 1 (.slice (some ⟨g, 0, none⟩) n cap) n (ints (joinQ m X k))) ∧ Hid (w.grownBy wr (some g)) ∧ Hid (g' < wr.heap.size ∧ ∀ i, i < m → wr.cell? ⟨g', i, none⟩ = some (.int .i64 (X.getD i 0)))) (fun _ _ _ i _ => p - (intOf i).toNat)
  case atStart => exact ⟨0, Nat.zero_le _, rfl, O1, G1, KO⟩
  case round =>
    obtain ⟨k, hk, rfl, O, G, KO2⟩ := hrel
    by_cases hkp : k < p
    · have a1 : (k : Int) < (p : Int) := by omega
      have a0 : (0 : Int) ≤ (k : Int) := by omega
      obtain ⟨k2, hk2⟩ : ∃ k2 : Nat, k2 = 2 * k := ⟨_, rfl⟩
      obtain ⟨k3, hk3⟩ : ∃ k3 : Nat, k3 = 2 * k + 1 := ⟨_, rfl⟩
      obtain ⟨tk, htk⟩ : ∃ tk : Nat, tk = t + k := ⟨_, rfl⟩
      have r1 := KO2.out.2 k (by omega)
      have r2 := KO2.out.2 tk (by omega)
      have bz := HB.out k (by omega)
      have bd := HB.out tk (by omega)
      have ej : ja m X k = X.getD k 0 - X.getD tk 0 / 2 ∧ jd m X k = X.getD tk 0 := by
        have h1 := HP.out
        unfold ja jd
        rw [show m - m / 2 + k = tk by omega]
        exact ⟨rfl, rfl⟩
      obtain ⟨d, hd⟩ : ∃ d, d = X.getD tk 0 := ⟨_, rfl⟩
      obtain ⟨a, ha⟩ : ∃ a, a = X.getD k 0 := ⟨_, rfl⟩
      rw [← hd] at r2 bd ej
      rw [← ha] at r1 bz ej
      clear hd ha
      obtain ⟨x, hx⟩ : ∃ x, x = a - d / 2 := ⟨_, rfl⟩
      obtain ⟨y, hy⟩ : ∃ y, y = x + d := ⟨_, rfl⟩
      have EX : Hid (ja m X k = x ∧ ja m X k + jd m X k = y) := (by show _ ∧ _; rw [ej.1, ej.2, ← hx, hy]; exact ⟨rfl, rfl⟩)
      have e1 : a - d / 2 = x := hx.symm
      have e2 : x + d = y := hy.symm
      have bx : -2305843009213693952 ≤ x ∧ x ≤ 2305843009213693952 := by omega
      have bY : -4611686018427387904 ≤ y ∧ y ≤ 4611686018427387904 := by omega
      clear hx hy ej
      have i1 : (2 : Int) * (k : Int) = (k2 : Int) := by omega
      have i2 : (k2 : Int) < (m : Int) := by omega
      have i3 : (k2 : Int) + 1 = (k3 : Int) := by omega
      have i4 : (k3 : Int) < (m : Int) := by omega
      have i5 : (k : Int) < (m : Int) := by omega
      have i6 : (t : Int) + (k : Int) = (tk : Int) := by omega
      have i7 : (tk : Int) < (m : Int) := by omega
      have cg : ∃ z, wr.cell? ⟨g, k2, none⟩ = some (.int .i64 z) := row_int O.out (by rw [jq_len, HX.out]) k2 (by omega)
      obtain ⟨z1, cg⟩ := cg
      have fz : wr.frozen? ⟨g, k2, none⟩ = false := O.out.frozenAt k2
      have HKK : Hid (k2 = 2 * k ∧ k3 = 2 * k + 1 ∧ tk = t + k) := ⟨hk2, hk3, htk⟩
      have S1 : (wr.setCell ⟨g, k2, none⟩ (.int .i64 x)).ownsRow base 2 1 (.slice (some ⟨g, 0, none⟩) n cap) n (ints ((joinQ m X k).set k2 x)) := (by rw [← ints_set]; exact (O.out.stored k2 _).1)
      have S2 : ((wr.setCell ⟨g, k2, none⟩ (.int .i64 x)).setCell ⟨g, k3, none⟩ (.int .i64 y)).ownsRow base 2 1 (.slice (some ⟨g, 0, none⟩) n cap) n (ints (((joinQ m X k).set k2 x).set k3 y)) := (by rw [← ints_set]; exact (S1.stored k3 _).1)
      have cg2 : ∃ z, (wr.setCell ⟨g, k2, none⟩ (.int .i64 x)).cell? ⟨g, k3, none⟩ = some (.int .i64 z) := row_int S1 (by rw [List.length_set, jq_len, HX.out]) k3 (by omega)
      obtain ⟨z2, cg2⟩ := cg2
      have fz2 : (wr.setCell ⟨g, k2, none⟩ (.int .i64 x)).frozen? ⟨g, k3, none⟩ = false := S1.frozenAt k3
      have G2 : Hid (w.grownBy ((wr.setCell ⟨g, k2, none⟩ (.int .i64 x)).setCell ⟨g, k3, none⟩ (.int .i64 y)) (some g)) := grown_setCell (grown_setCell G.out k2 _) k3 _
      have K2 : Hid (g' < ((wr.setCell ⟨g, k2, none⟩ (.int .i64 x)).setCell ⟨g, k3, none⟩ (.int .i64 y)).heap.size ∧ ∀ i, i < m → ((wr.setCell ⟨g, k2, none⟩ (.int .i64 x)).setCell ⟨g, k3, none⟩ (.int .i64 y)).cell? ⟨g', i, none⟩ = some (.int .i64 (X.getD i 0))) := (by
        have gb : wr.grownBy ((wr.setCell ⟨g, k2, none⟩ (.int .i64 x)).setCell ⟨g, k3, none⟩ (.int .i64 y)) (some g) := grown_setCell (grown_setCell (World.grownBy.refl _ _) k2 _) k3 _
        exact ⟨Nat.lt_of_lt_of_le KO2.out.1 gb.size, fun i hi => gb.cell (KO2.out.2 i hi) (fun e => by simp at e; omega)⟩)
      have O2 : Hid (((wr.setCell ⟨g, k2, none⟩ (.int .i64 x)).setCell ⟨g, k3, none⟩ (.int .i64 y)).ownsRow base 2 1 (.slice (some ⟨g, 0, none⟩) n cap) n (ints (joinQ m X (k + 1)))) := (by
        show World.ownsRow _ _ _ _ _ _ _
        have e := jq_set m X k
        rw [EX.out.2, EX.out.1, ← HKK.out.2.1, ← HKK.out.1] at e
        rw [← e]
        exact S2)
      clear S1 S2 hk2 hk3 htk
      go_wp2_with fail
      go_roundw
      case rel => exact ⟨k + 1, by omega, by go_num, O2, G2, K2⟩
      case measure => simp [intOf]; omega
    · have hkp' : k = p := by omega
      subst hkp'
      by_cases hodd : k < t
      · have a1 : (k : Int) < (t : Int) := by omega
        obtain ⟨m1, hm1⟩ : ∃ m1 : Nat, m1 = m - 1 := ⟨_, rfl⟩
        have a2 : (m : Int) - 1 = (m1 : Int) := by omega
        have a3 : (m1 : Int) < (m : Int) := by omega
        have a4 : (k : Int) < (m : Int) := by omega
        obtain ⟨x, hx⟩ : ∃ x, x = X.getD k 0 := ⟨_, rfl⟩
        have r1 : wr.cell? ⟨g', k, none⟩ = some (.int .i64 x) := (by rw [hx]; exact KO2.out.2 k (by omega))
        have cg : ∃ z, wr.cell? ⟨g, m1, none⟩ = some (.int .i64 z) := row_int O.out (by rw [jq_len, HX.out]) m1 (by omega)
        obtain ⟨z1, cg⟩ := cg
        have fz : wr.frozen? ⟨g, m1, none⟩ = false := O.out.frozenAt m1
        have O2 : (wr.setCell ⟨g, m1, none⟩ (.int .i64 x)).ownsRow base 2 1 (.slice (some ⟨g, 0, none⟩) n cap) n (ints (unj m X)) := by
          have e := jq_odd m X (by have := HP.out; omega)
          rw [← HP.out.1, ← hx, ← hm1] at e
          have h := (O.out.stored m1 (.int .i64 x)).1
          rw [ints_set, e] at h
          exact h
        have NB2 : Hid (Calls Try.prog 19 #[.slice (some ⟨g, 0, none⟩) m c, .int .i64 1152921504606846976] (wr.setCell ⟨g, m1, none⟩ (.int .i64 x)) fun e w' => e = .returned (.bool ok) ∧ w' = wr.setCell ⟨g, m1, none⟩ (.int .i64 x)) := NB.out _ O2
        have O3 : Hid ((wr.setCell ⟨g, m1, none⟩ (.int .i64 x)).ownsRow base 2 1 (.slice (some ⟨g, 0, none⟩) n cap) n (ints (unj m X))) := O2
        have G2 : Hid (w.grownBy (wr.setCell ⟨g, m1, none⟩ (.int .i64 x)) (some g)) := grown_setCell G.out m1 _
        clear hx hm1 O2
        go_wp2_with fail
        refine NB2.out.mono ?_
        rintro e w9 ⟨rfl, hw⟩
        subst hw
        cases ok with
        | true =>
          go_wp2_with fail
          go_end0
          exact ⟨G2.out, .inl ⟨HK.out.symm, rfl, O3.out⟩⟩
        | false =>
          go_wp2_with fail
          exact ⟨rfl, G2.out, .inr ⟨HK.out.symm, rfl⟩⟩
      · have a1 : ¬ ((k : Int) < (t : Int)) := by omega
        have O2 : wr.ownsRow base 2 1 (.slice (some ⟨g, 0, none⟩) n cap) n (ints (unj m X)) := by
          have e := jq_even m X (by have := HP.out; omega)
          rw [← HP.out.1] at e
          have h := O.out
          rw [e] at h
          exact h
        have NB2 : Hid (Calls Try.prog 19 #[.slice (some ⟨g, 0, none⟩) m c, .int .i64 1152921504606846976] wr fun e w' => e = .returned (.bool ok) ∧ w' = wr) := NB.out _ O2
        have O3 : Hid (wr.ownsRow base 2 1 (.slice (some ⟨g, 0, none⟩) n cap) n (ints (unj m X))) := O2
        clear O2
        go_wp2_with fail
        refine NB2.out.mono ?_
        rintro e w9 ⟨rfl, hw⟩
        have hw' := hw.symm
        subst hw'
        cases ok with
        | true =>
          go_wp2_with fail
          go_end0
          exact ⟨G.out, .inl ⟨HK.out.symm, rfl, O3.out⟩⟩
        | false =>
          go_wp2_with fail
          exact ⟨rfl, G.out, .inr ⟨HK.out.symm, rfl⟩⟩
end Go.Proofs.Ytpokbicnogcijaa.Lists
