/- Lists cloned; the fronts of all steps; one step in place. -/
import Derived.Test.YtpokbicnogcijaaWvB
import Derived.Maps.AppendAt
namespace Go.Proofs.Ytpokbicnogcijaa.Lists
open Go.ChangeShapes Go.WideShapes Go.ChangeAt Go.RowKit

theorem empty_row {W : World} (e : TypeId) : (W.alloc (.cells #[] e)).ownsRow W.heap.size e 1 (.slice (some ⟨W.heap.size, 0, none⟩) 0 0) 0 [] := by
  refine ⟨by simp, .inr ⟨W.heap.size, 0, #[], rfl, Nat.le_refl _, ?_, Nat.le_refl _, Nat.zero_le _, by simp, by simp⟩⟩
  exact heap_alloc_new W _
theorem row_some {w : World} {base n : Nat} {e : TypeId} {v : Value} {xs : List Value} (h : w.ownsRow base e 1 v n xs) (hn : v ≠ .slice none 0 0) : ∃ g cap, v = .slice (some ⟨g, 0, none⟩) n cap ∧ base ≤ g ∧ g < w.heap.size ∧ n ≤ cap ∧ cap ≤ maxLen := by
  rcases h.2 with ⟨h1, _⟩ | ⟨g, cap, cur, h1, hb, hh, hc, hm, _⟩
  · exact absurd h1 hn
  · refine ⟨g, cap, h1, hb, ?_, hc, hm⟩
    by_cases x : g < w.heap.size
    · exact x
    · rw [Array.getElem?_eq_none (by omega)] at hh; cases hh
theorem one_cell (X : List Int) : ∀ u ∈ ints X, u.oneCell' = true := by intro u hu; simp [ints] at hu; obtain ⟨z, _, rfl⟩ := hu; rfl
theorem ints_at' {w : World} {g n : Nat} {X : List Int} (hn : X.length = n) (K : ∀ i, i < n → w.cell? ⟨g, i, none⟩ = some (.int .i64 (X.getD i 0))) : ∀ j u, (ints X)[j]? = some u → w.cell? ((⟨g, 0, none⟩ : Addr).add j) = some u := by
  intro j u hj
  have hl : j < X.length := by
    have := (List.getElem?_eq_some_iff.1 hj).1
    simpa [ints] using this
  have e : (⟨g, 0, none⟩ : Addr).add j = ⟨g, j, none⟩ := by
    unfold Addr.add
    split
    · rename_i h; subst h; rfl
    · simp
  rw [e, K j (by omega)]
  simp [ints, List.getElem?_map, List.getElem?_eq_getElem hl] at hj
  rw [← hj]
  simp [List.getElem?_eq_getElem hl]

theorem row_int {w : World} {base g cap n : Nat} {L : List Int} (h : w.ownsRow base 2 1 (.slice (some ⟨g, 0, none⟩) n cap) n (ints L)) (hl : L.length = n) (i : Nat) (hi : i < n) : ∃ z, w.cell? ⟨g, i, none⟩ = some (.int .i64 z) := by
  subst hl
  exact ⟨_, row_cell h i hi⟩

set_option maxHeartbeats 1000000 in
theorem clone_any (w : World) (g n cap : Nat) (X : List Int) (hn : X.length = n) (hl : n ≤ 4096) (hg : g < w.heap.size) (K : ∀ i, i < n → w.cell? ⟨g, i, none⟩ = some (.int .i64 (X.getD i 0))) :
    Calls Try.prog 50 #[.slice (some ⟨g, 0, none⟩) n cap] w fun e w' => ∃ g' c', e = .returned (.slice (some ⟨g', 0, none⟩) n c') ∧ w.heap.size ≤ g' ∧ n ≤ c' ∧ c' ≤ maxLen ∧ w'.ownsRow w.heap.size 2 1 (.slice (some ⟨g', 0, none⟩) n c') n (ints X) ∧ Below w.heap.size w w' := by
  obtain ⟨i0, hi, hz0, hz1, hz2⟩ := info_parts Try.info2
  have HK : Hid (∀ j u, (ints X)[j]? = some u → (w.alloc (.cells #[] 2)).cell? ((⟨g, 0, none⟩ : Addr).add j) = some u) := ints_at' hn fun i hi => by rw [World.cell?_alloc_lt _ _ _ hg]; exact K i hi
  have HX : Hid (X.length = n) := hn
  have ER : Hid ((w.alloc (.cells #[] 2)).ownsRow w.heap.size 2 1 (.slice (some ⟨w.heap.size, 0, none⟩) 0 0) 0 []) := empty_row 2
  have hnil : ∀ w, (binOp .eql 22 (.slice (some ⟨g, 0, none⟩) n cap) (.slice none 0 0)).run Try.prog w = .ok (.bool false) w := fun _ => by kernel_rfl
  clear K hn
  go_enter Try.func50, Try.ntmps50
  go_wp2_with (at_builtin; refine wpList_append_own_at _ rfl _ _ 22 rfl w.heap.size 2 i0 (.int .i64 0) 1 8 Try.underlying22 hi hz0 hz1 hz2 rfl (by decide) _ _ _ rfl ER.out ⟨g, 0, none⟩ n cap (ints X) rfl (by rw [List.length_map, HX.out]; omega) HK.out (one_cell X) ?c3 ?c4 ?c5 ?_)
  case c3 => unfold maxLen; omega
  case c4 => omega
  case c5 => simp
  intro v' w2 hown hgrow hnil hat
  obtain ⟨g', c', rfl, q1, q2, q3, q4⟩ := row_some hown hnil
  have O : Hid (w2.ownsRow w.heap.size 2 1 (.slice (some ⟨g', 0, none⟩) n c') n (ints X)) := hown
  have BB : Hid (Below w.heap.size w w2) := ((Below.refl _ _).alloc (Nat.le_refl _) _).grown hgrow (by simp) (fun k hk => by simp [Value.ownBlock] at hk; omega)
  clear hown hgrow hnil hat
  go_wp2_with fail
  go_ret
  exact ⟨_, _, rfl, q1, q3, q4, O.out, BB.out⟩

theorem grown_drewN {w w1 : World} {r : Option Nat} (h : w.grownBy w1 r) (n : Nat) : w.grownBy (w1.drewN n) r := ⟨h.os, h.tape, h.output, h.size, h.block⟩
theorem Below.grownBy {w w' : World} (h : Below w.heap.size w w') (r : Option Nat) : w.grownBy w' r := ⟨h.os, h.tape, h.output, h.size, fun k hk _ => h.block k hk⟩

set_option maxHeartbeats 1000000 in
theorem part_any (w : World) (base g m n c cap : Nat) (X : List Int) (hn : X.length = n) (hl : n ≤ 4096) (hm : m ≤ n) (hb : bnd m X) (h : w.ownsRow base 2 1 (.slice (some ⟨g, 0, none⟩) n cap) n (ints X)) :
    Calls Try.prog 51 #[.slice (some ⟨g, 0, none⟩) m c] w fun e w' => e = .returned (.tuple #[]) ∧ w'.ownsRow base 2 1 (.slice (some ⟨g, 0, none⟩) n cap) n (ints (stepW m X)) ∧ w.grownBy w' (some g) := by
  have hlt : g < w.heap.size := (h.lt g rfl).2
  have K : ∀ i, i < n → w.cell? ⟨g, i, none⟩ = some (.int .i64 (X.getD i 0)) := fun i hi => by subst hn; exact row_cell h i hi
  have CL : Hid (Calls Try.prog 50 #[.slice (some ⟨g, 0, none⟩) m c] w fun e w' => ∃ g' c', e = .returned (.slice (some ⟨g', 0, none⟩) m c') ∧ w.heap.size ≤ g' ∧ m ≤ c' ∧ c' ≤ maxLen ∧ w'.ownsRow w.heap.size 2 1 (.slice (some ⟨g', 0, none⟩) m c') m (ints (X.take m)) ∧ Below w.heap.size w w') :=
    clone_any w g m c (X.take m) (by simp; omega) (by omega) hlt fun i hi => by rw [K i (by omega)]; simp [List.getD_eq_getElem?_getD, hi]
  have HO : Hid (w.ownsRow base 2 1 (.slice (some ⟨g, 0, none⟩) n cap) n (ints (partW m X 0))) := (by show World.ownsRow _ _ _ _ _ _ _; rw [part_zero]; exact h)
  have HB : Hid (bnd m X) := hb
  have HX : Hid (X.length = n) := hn
  obtain ⟨p, hp⟩ : ∃ p : Nat, p = m / 2 := ⟨_, rfl⟩
  have hp1 : Int.tdiv (m : Int) 2 = (p : Int) := by rw [hp]; rfl
  obtain ⟨t, ht⟩ : ∃ t : Nat, t = m - p := ⟨_, rfl⟩
  have ht1 : (m : Int) - (p : Int) = (t : Int) := by omega
  have HP : Hid (p = m / 2 ∧ t = m - p) := ⟨hp, ht⟩
  have hpm : p ≤ t ∧ p + t = m := by omega
  clear h hb K hn hp ht
  go_enter Try.func51, Try.ntmps51
  go_wp2_with fail
  refine CL.out.mono ?_
  rintro e w1 ⟨g', c', rfl, q1, q2, q3, o1, b1⟩
  have O1 : Hid (w1.ownsRow base 2 1 (.slice (some ⟨g, 0, none⟩) n cap) n (ints (partW m X 0))) := HO.out.kept (row := none) (Below.grownBy b1 none) (.inr (by simp [Value.ownBlock]))
  have G1 : Hid (w.grownBy w1 (some g)) := Below.grownBy b1 _
  have KO : Hid (g' < w1.heap.size ∧ ∀ i, i < m → w1.cell? ⟨g', i, none⟩ = some (.int .i64 (X.getD i 0))) := ⟨(o1.lt g' rfl).2, fun i hi => by
    have hlm : (X.take m).length = m := by have := HX.out; simp; omega
    have := row_cell (L := X.take m) (by rw [hlm]; exact o1) i (by omega)
    rw [this]
    simp [List.getD_eq_getElem?_getD, hi]⟩
  clear o1 b1 HO CL
  unfold maxLen at q3
  go_wp2_with fail
  go_loopw [5, 6, 7, 18] (fun _ _ _ i wr => ∃ k : Nat, k ≤ p ∧ i = .int .i64 k ∧ Hid (wr.ownsRow base 2 1 (.slice (some ⟨g, 0, none⟩) n cap) n (ints (partW m X k))) ∧ Hid (w.grownBy wr (some g)) ∧ Hid (g' < wr.heap.size ∧ ∀ i, i < m → wr.cell? ⟨g', i, none⟩ = some (.int .i64 (X.getD i 0)))) (fun _ _ _ i _ => p - (intOf i).toNat)
  case atStart => exact ⟨0, Nat.zero_le _, rfl, O1, G1, KO⟩
  case round =>
    obtain ⟨k, hk, rfl, O, G, KO2⟩ := hrel
    by_cases hkp : k < p
    · have a1 : (k : Int) < (p : Int) := by omega
      have a0 : (0 : Int) ≤ (k : Int) := by omega
      obtain ⟨x, hx⟩ : ∃ x, x = X.getD (2 * k) 0 := ⟨_, rfl⟩
      obtain ⟨y, hy⟩ : ∃ y, y = X.getD (2 * k + 1) 0 := ⟨_, rfl⟩
      obtain ⟨k2, hk2⟩ : ∃ k2 : Nat, k2 = 2 * k := ⟨_, rfl⟩
      obtain ⟨k3, hk3⟩ : ∃ k3 : Nat, k3 = 2 * k + 1 := ⟨_, rfl⟩
      obtain ⟨tk, htk⟩ : ∃ tk : Nat, tk = t + k := ⟨_, rfl⟩
      have r1 : wr.cell? ⟨g', k2, none⟩ = some (.int .i64 x) := (by rw [hx, hk2]; exact KO2.out.2 (2 * k) (by omega))
      have r2 : wr.cell? ⟨g', k3, none⟩ = some (.int .i64 y) := (by rw [hy, hk3]; exact KO2.out.2 (2 * k + 1) (by omega))
      have bx := HB.out (2 * k) (by omega)
      have bym := HB.out (2 * k + 1) (by omega)
      rw [← hx] at bx
      rw [← hy] at bym
      have EM : Hid (x + (y - x) / 2 = mnA X k ∧ y - x = dfA X k) := (by rw [hx, hy]; exact ⟨rfl, rfl⟩)
      clear hx hy
      have i1 : (2 : Int) * (k : Int) = (k2 : Int) := by omega
      have i2 : (k2 : Int) < (m : Int) := by omega
      have i3 : (k2 : Int) + 1 = (k3 : Int) := by omega
      have i4 : (k3 : Int) < (m : Int) := by omega
      have i5 : (k : Int) < (m : Int) := by omega
      have i6 : (t : Int) + (k : Int) = (tk : Int) := by omega
      have i7 : (tk : Int) < (m : Int) := by omega
      have cg : ∃ z, wr.cell? ⟨g, k, none⟩ = some (.int .i64 z) := row_int O.out (by rw [part_len, HX.out]) k (by omega)
      obtain ⟨z1, cg⟩ := cg
      have fz : wr.frozen? ⟨g, k, none⟩ = false := O.out.frozenAt k
      have HKK : Hid (k2 = 2 * k ∧ k3 = 2 * k + 1 ∧ tk = t + k) := ⟨hk2, hk3, htk⟩
      clear hk2 hk3 htk
      go_wp2_with fail
      go_quiet (fail)
      have S1 : (wr.drewN nq |>.setCell ⟨g, k, none⟩ (.int .i64 (x + (y - x) / 2))).ownsRow base 2 1 (.slice (some ⟨g, 0, none⟩) n cap) n (ints ((partW m X k).set k (x + (y - x) / 2))) := (by rw [← ints_set]; exact ((show (wr.drewN nq).ownsRow base 2 1 (.slice (some ⟨g, 0, none⟩) n cap) n (ints (partW m X k)) from O.out).stored k _).1)
      have S2 : ((wr.drewN nq |>.setCell ⟨g, k, none⟩ (.int .i64 (x + (y - x) / 2))).setCell ⟨g, tk, none⟩ (.int .i64 (y - x))).ownsRow base 2 1 (.slice (some ⟨g, 0, none⟩) n cap) n (ints (((partW m X k).set k (x + (y - x) / 2)).set tk (y - x))) := (by rw [← ints_set]; exact (S1.stored tk _).1)
      have cg2 : ∃ z, (wr.drewN nq |>.setCell ⟨g, k, none⟩ (.int .i64 (x + (y - x) / 2))).cell? ⟨g, tk, none⟩ = some (.int .i64 z) := row_int S1 (by rw [List.length_set, part_len, HX.out]) tk (by omega)
      obtain ⟨z2, cg2⟩ := cg2
      have fz2 : (wr.drewN nq |>.setCell ⟨g, k, none⟩ (.int .i64 (x + (y - x) / 2))).frozen? ⟨g, tk, none⟩ = false := S1.frozenAt tk
      have G2 : Hid (w.grownBy ((wr.drewN nq |>.setCell ⟨g, k, none⟩ (.int .i64 (x + (y - x) / 2))).setCell ⟨g, tk, none⟩ (.int .i64 (y - x))) (some g)) := grown_setCell (grown_setCell (grown_drewN G.out nq) k _) tk _
      have K2 : Hid (g' < ((wr.drewN nq |>.setCell ⟨g, k, none⟩ (.int .i64 (x + (y - x) / 2))).setCell ⟨g, tk, none⟩ (.int .i64 (y - x))).heap.size ∧ ∀ i, i < m → ((wr.drewN nq |>.setCell ⟨g, k, none⟩ (.int .i64 (x + (y - x) / 2))).setCell ⟨g, tk, none⟩ (.int .i64 (y - x))).cell? ⟨g', i, none⟩ = some (.int .i64 (X.getD i 0))) := (by
        have gb : wr.grownBy ((wr.drewN nq |>.setCell ⟨g, k, none⟩ (.int .i64 (x + (y - x) / 2))).setCell ⟨g, tk, none⟩ (.int .i64 (y - x))) (some g) := grown_setCell (grown_setCell (grown_drewN (World.grownBy.refl _ _) nq) k _) tk _
        exact ⟨Nat.lt_of_lt_of_le KO2.out.1 gb.size, fun i hi => gb.cell (KO2.out.2 i hi) (fun e => by simp at e; omega)⟩)
      have O2 : Hid (((wr.drewN nq |>.setCell ⟨g, k, none⟩ (.int .i64 (x + (y - x) / 2))).setCell ⟨g, tk, none⟩ (.int .i64 (y - x))).ownsRow base 2 1 (.slice (some ⟨g, 0, none⟩) n cap) n (ints (partW m X (k + 1)))) := (by
        show World.ownsRow _ _ _ _ _ _ _
        have e := part_set m X k (by have := HP.out.1; omega)
        rw [← e, ← EM.out.1, ← EM.out.2, show m - m / 2 + k = tk by have := HP.out; have := HKK.out; omega]
        exact S2)
      clear S1 S2
      go_wp2_with fail
      go_roundw
      case rel => exact ⟨k + 1, by omega, by go_num, O2, G2, K2⟩
      case measure => simp [intOf]; omega
    · have hkp' : k = p := by omega
      subst hkp'
      by_cases hodd : k < t
      · have a1 : (k : Int) < (t : Int) := by omega
        obtain ⟨m1, hm1⟩ : ∃ m1 : Nat, m1 = m - 1 := ⟨_, rfl⟩
        have a2 : (m : Int) - 1 = (m1 : Int) := by omega
        have a3 : (m1 : Int) < (m : Int) := by omega
        have a4 : (k : Int) < (m : Int) := by omega
        obtain ⟨x, hx⟩ : ∃ x, x = X.getD (m - 1) 0 := ⟨_, rfl⟩
        have r1 : wr.cell? ⟨g', m1, none⟩ = some (.int .i64 x) := (by rw [hx, hm1]; exact KO2.out.2 (m - 1) (by omega))
        have cg : ∃ z, wr.cell? ⟨g, k, none⟩ = some (.int .i64 z) := row_int O.out (by rw [part_len, HX.out]) k (by omega)
        obtain ⟨z1, cg⟩ := cg
        have fz : wr.frozen? ⟨g, k, none⟩ = false := O.out.frozenAt k
        have O2 : Hid ((wr.setCell ⟨g, k, none⟩ (.int .i64 x)).ownsRow base 2 1 (.slice (some ⟨g, 0, none⟩) n cap) n (ints (stepW m X))) := (by
          show World.ownsRow _ _ _ _ _ _ _
          have e := part_odd m X (by have := HP.out; omega)
          rw [← HP.out.1, ← hx] at e
          rw [← e, ← ints_set]
          exact (O.out.stored k _).1)
        have G2 : Hid (w.grownBy (wr.setCell ⟨g, k, none⟩ (.int .i64 x)) (some g)) := grown_setCell G.out k _
        clear hx hm1
        go_wp2_with fail
        go_end0
        exact ⟨rfl, O2.out, G2.out⟩
      · have a1 : ¬ ((k : Int) < (t : Int)) := by omega
        have O2 : Hid (wr.ownsRow base 2 1 (.slice (some ⟨g, 0, none⟩) n cap) n (ints (stepW m X))) := (by
          show World.ownsRow _ _ _ _ _ _ _
          have e := part_even m X (by have := HP.out; omega)
          rw [← HP.out.1] at e
          rw [← e]
          exact O.out)
        go_wp2_with fail
        go_end0
        exact ⟨rfl, O2.out, G.out⟩
end Go.Proofs.Ytpokbicnogcijaa.Lists
