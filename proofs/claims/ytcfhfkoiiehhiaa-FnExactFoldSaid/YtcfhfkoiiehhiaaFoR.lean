/- Rows of texts that a call owns: compared, marked, held. -/
import Derived.Test.YtcfhfkoiiehhiaaMt
import Derived.Test.YtcfhfkoiiehhiaaFoC
import Derived.Deep.RegionWith
import Derived.Deep.RegionHeld3
import Derived.Deep.DrawnRows
import Derived.Deep.Cut
import Derived.Deep.DeepCutAuto
import Derived.Deep.DeepMust
namespace Go.Proofs.Ytcfhfkoiiehhiaa.Ru
open Go.ChangeShapes Go.WideShapes Go.ChangeAt Go.RowKit
attribute [local go_sem ↓] Go.wp_at_zero Go.wp_at_succ

abbrev strs (L : List ByteArray) : List Value := L.map Value.string

theorem srow_cases {w : World} {base : Nat} {v : Value} {L : List ByteArray} (h : w.ownsRow base 9 1 v L.length (strs L)) :
    (L = [] ∧ v = .slice none 0 0) ∨ ∃ g cap, v = .slice (some ⟨g, 0, none⟩) L.length cap ∧ base ≤ g ∧ g < w.heap.size ∧ L.length ≤ cap ∧ cap ≤ maxLen := by
  obtain ⟨h0, h⟩ := h
  rcases h with ⟨rfl, hn⟩ | ⟨g, cap, cur, rfl, hb, hh, hc, hm, _⟩
  · exact Or.inl ⟨List.eq_nil_of_length_eq_zero hn, rfl⟩
  · refine Or.inr ⟨g, cap, rfl, hb, ?_, hc, hm⟩
    by_cases x : g < w.heap.size
    · exact x
    · rw [Array.getElem?_eq_none (by omega)] at hh; cases hh
theorem srow_cell {w : World} {base g cap : Nat} {L : List ByteArray} (h : w.ownsRow base 9 1 (.slice (some ⟨g, 0, none⟩) L.length cap) L.length (strs L)) (i : Nat) (hi : i < L.length) : w.cell? ⟨g, i, none⟩ = some (.string (L.getD i emp)) := by
  have := h.cellAt i (by omega)
  rw [this]
  simp [strs, List.getElem?_map, List.getElem?_eq_getElem hi]

set_option maxHeartbeats 1000000 in
theorem seq_same (w : World) (b1 b2 : Nat) (v1 v2 : Value) (L : List ByteArray) (h1 : w.ownsRow b1 9 1 v1 L.length (strs L)) (h2 : w.ownsRow b2 9 1 v2 L.length (strs L)) :
    Calls Try.prog 9 #[v1, v2] w fun e w' => e = .returned (.bool true) ∧ ∃ n, w' = w.drewN n := by
  by_cases hL : L.length = 0
  · have hL' := List.eq_nil_of_length_eq_zero hL
    subst hL'
    obtain ⟨a1, c1, rfl⟩ := row_form h1
    obtain ⟨a2, c2, rfl⟩ := row_form h2
    clear h1 h2 hL
    go_enter Try.func9, Try.ntmps9
    go_wp2
    go_loop [5] (fun i => i = .int .i64 0) (fun _ => 0)
    case atStart => rfl
    case round =>
      subst hrel
      go_wp2
      go_ret
      exact ⟨rfl, 0, rfl⟩
  · rcases srow_cases h1 with ⟨rfl, rfl⟩ | ⟨g1, c1, rfl, _, _, x1, x2⟩
    · exact absurd rfl hL
    rcases srow_cases h2 with ⟨rfl, rfl⟩ | ⟨g2, c2, rfl, _, _, y1, y2⟩
    · exact absurd rfl hL
    have K1 : Hid (∀ i, i < L.length → w.cell? ⟨g1, i, none⟩ = some (.string (L.getD i emp))) := srow_cell h1
    have K2 : Hid (∀ i, i < L.length → w.cell? ⟨g2, i, none⟩ = some (.string (L.getD i emp))) := srow_cell h2
    obtain ⟨n, hn⟩ : ∃ n, n = L.length := ⟨_, rfl⟩
    rw [← hn] at x1 y1 ⊢
    have HN : Hid (n = L.length) := hn
    unfold maxLen at x2 y2
    clear h1 h2 hn hL
    go_enter Try.func9, Try.ntmps9
    go_wp2
    go_loopw [5] (fun i wr => ∃ k m : Nat, k ≤ n ∧ i = .int .i64 k ∧ wr = w.drewN m) (fun i _ => n - (intOf i).toNat)
    case atStart => exact ⟨0, 0, Nat.zero_le _, rfl, rfl⟩
    case round =>
      obtain ⟨k, m, hk, rfl, rfl⟩ := hrel
      by_cases hlt : k < n
      · have q1 := K1.out k (by rw [← HN.out]; exact hlt)
        have q2 := K2.out k (by rw [← HN.out]; exact hlt)
        have i0 : (0 : Int) ≤ (k : Int) := by omega
        have i1 : (k : Int) < (n : Int) := by omega
        generalize L.getD k emp = z at *
        have hne : (z.toList != z.toList) = false := by simp
        go_wp2_with fail
        go_quiet (fail)
        go_wp2_with fail
        go_roundw
        case rel => exact ⟨k + 1, m + nq, by omega, by go_num, rfl⟩
        case measure => simp [intOf]; omega
      · go_wp2
        go_ret
        exact ⟨rfl, m, rfl⟩

def smid (L : List ByteArray) (j : Nat) : List ByteArray := (List.range L.length).map fun (i : Nat) => if i < j then mtx (1 + i) else L.getD i emp
def ssq (n : Nat) : List ByteArray := (List.range n).map fun (i : Nat) => mtx (1 + i)
theorem smid_len (L : List ByteArray) (j : Nat) : (smid L j).length = L.length := by simp [smid]
theorem ssq_len (n : Nat) : (ssq n).length = n := by simp [ssq]
theorem smid_zero (L : List ByteArray) : smid L 0 = L := by
  apply List.ext_getElem (smid_len _ _)
  intro i h1 h2
  simp [smid, List.getElem?_eq_getElem h2]
theorem smid_all (L : List ByteArray) : smid L L.length = ssq L.length := by
  apply List.ext_getElem (by rw [smid_len, ssq_len])
  intro i h1 h2
  rw [smid_len] at h1
  simp [smid, ssq, h1]
theorem smid_set (L : List ByteArray) (j : Nat) : (smid L j).set j (mtx (1 + j)) = smid L (j + 1) := by
  apply List.ext_getElem (by rw [List.length_set, smid_len, smid_len])
  intro i h1 h2
  rw [smid_len] at h2
  rw [List.getElem_set]
  by_cases e : j = i
  · subst e; simp [smid]
  · rw [if_neg e]
    simp only [smid, List.getElem_map, List.getElem_range]
    by_cases x : i < j
    · rw [if_pos x, if_pos (by omega)]
    · rw [if_neg x, if_neg (by omega)]
theorem strs_set (L : List ByteArray) (j : Nat) (x : ByteArray) : (strs L).set j (.string x) = strs (L.set j x) := by simp [strs, List.map_set]
theorem ssq_get (n i : Nat) (h : i < n) : (ssq n).getD i emp = mtx (1 + i) := by simp [ssq, List.getD_eq_getElem?_getD, h]

set_option maxHeartbeats 1000000 in
theorem smark_any (w : World) (B base : Nat) (v : Value) (L : List ByteArray) (hB : B ≤ base) (hBw : B ≤ w.heap.size) (hn : L.length ≤ 1000000) (h : w.ownsRow base 9 1 v L.length (strs L)) :
    Calls Try.prog 10 #[v, .int .i64 1] w fun e w' => e = .returned (.int .i64 (1 + L.length)) ∧ w'.ownsRow base 9 1 v L.length (strs (ssq L.length)) ∧ Below B w w' := by
  by_cases hL : L.length = 0
  · have hL' := List.eq_nil_of_length_eq_zero hL
    subst hL'
    obtain ⟨a1, c1, rfl⟩ := row_form h
    have H : Hid (w.ownsRow base 9 1 (.slice a1 0 c1) 0 []) := h
    clear h hL
    go_enter Try.func10, Try.ntmps10
    go_wp2
    go_loop [1, 5] (fun k i => k = .int .i64 1 ∧ i = .int .i64 0) (fun _ _ => 0)
    case atStart => exact ⟨rfl, rfl⟩
    case round =>
      obtain ⟨rfl, rfl⟩ := hrel
      go_wp2
      go_ret
      exact ⟨by simp, H.out, Below.refl _ _⟩
  · rcases srow_cases h with ⟨rfl, rfl⟩ | ⟨g, c, rfl, hbg, _, x1, x2⟩
    · exact absurd rfl hL
    have R0 : Hid (w.ownsRow base 9 1 (.slice (some ⟨g, 0, none⟩) L.length c) L.length (strs (smid L 0))) := (by show World.ownsRow _ _ _ _ _ _ _; rw [smid_zero]; exact h)
    obtain ⟨n, hn'⟩ : ∃ n, n = L.length := ⟨_, rfl⟩
    rw [← hn'] at x1 hn R0 ⊢
    have HN : Hid (n = L.length) := hn'
    have MT : Hid (∀ (k : Nat) (w : World), 0 < k → k ≤ 1000000000000000000 → Calls Try.prog 25 #[.int .i64 k] w fun e w' => e = .returned (.string (mtx k)) ∧ Below w.heap.size w w') := fun k w => mark_text k w
    have BG : Hid (B ≤ g) := by show B ≤ g; omega
    unfold maxLen at x2
    clear h hn' hL
    go_enter Try.func10, Try.ntmps10
    go_wp2
    go_loopw [1, 5] (fun k i wr => ∃ j : Nat, j ≤ n ∧ k = .int .i64 ((1 + j : Nat) : Int) ∧ i = .int .i64 j ∧ Hid (wr.ownsRow base 9 1 (.slice (some ⟨g, 0, none⟩) n c) n (strs (smid L j))) ∧ Hid (Below B w wr)) (fun _ i _ => n - (intOf i).toNat)
    case atStart => exact ⟨0, Nat.zero_le _, by simp, rfl, R0, Below.refl _ _⟩
    case round =>
      obtain ⟨j, hj, rfl, rfl, R, G⟩ := hrel
      by_cases hlt : j < n
      · have i0 : (0 : Int) ≤ (j : Int) := by omega
        have i1 : (j : Int) < (n : Int) := by omega
        go_wp2_with fail
        refine (MT.out (1 + j) _ (by omega) (by omega)).mono ?_
        rintro e w2 ⟨rfl, hb2⟩
        have R2 : Hid (w2.ownsRow base 9 1 (.slice (some ⟨g, 0, none⟩) n c) n (strs (smid L j))) := row_below R.out hb2
        have G2 : Hid (Below B w w2) := G.out.trans (hb2.mono (Nat.le_trans hBw G.out.size))
        clear R G hb2
        have q1 : ∃ z, w2.cell? ⟨g, j, none⟩ = some (.string z) := by
          have := R2.out.cellAt j (by omega)
          rw [this]
          have hl : j < (smid L j).length := by rw [smid_len, ← HN.out]; exact hlt
          exact ⟨(smid L j)[j], by simp [strs, List.getElem?_map, List.getElem?_eq_getElem hl]⟩
        obtain ⟨z, q1⟩ := q1
        have q2 : w2.frozen? ⟨g, j, none⟩ = false := R2.out.frozenAt j
        have R' : Hid ((w2.setCell ⟨g, j, none⟩ (.string (mtx (1 + j)))).ownsRow base 9 1 (.slice (some ⟨g, 0, none⟩) n c) n (strs (smid L (j + 1)))) := by
          show World.ownsRow _ _ _ _ _ _ _
          rw [← smid_set, ← strs_set]
          exact (R2.out.stored j _).1
        have G' : Hid (Below B w (w2.setCell ⟨g, j, none⟩ (.string (mtx (1 + j))))) := G2.out.setCell BG.out _
        generalize mtx (1 + j) = mm at *
        go_wp2_with fail
        go_roundw
        case rel => exact ⟨j + 1, by omega, by go_num, by go_num, R', G'⟩
        case measure => simp [intOf]; omega
      · have hjn : j = n := by omega
        subst hjn
        have RH : Hid (wr.ownsRow base 9 1 (.slice (some ⟨g, 0, none⟩) j c) j (strs (ssq j))) := by
          show World.ownsRow _ _ _ _ _ _ _
          have := R.out
          rw [HN.out, smid_all] at this
          rw [HN.out]
          exact this
        clear R
        go_wp2
        go_ret
        exact ⟨by go_num, RH.out, G.out⟩

set_option maxHeartbeats 1000000 in
theorem sheld_any (w : World) (base : Nat) (v : Value) (n : Nat) (hn : n ≤ 1000000) (h : w.ownsRow base 9 1 v n (strs (ssq n))) :
    Calls Try.prog 11 #[v, .int .i64 1] w fun e w' => e = .returned (.int .i64 (1 + n)) ∧ Below w.heap.size w w' := by
  by_cases hL : n = 0
  · subst hL
    obtain ⟨a1, c1, rfl⟩ := row_form h
    clear h
    go_enter Try.func11, Try.ntmps11
    go_wp2
    go_loop [1, 5] (fun k i => k = .int .i64 1 ∧ i = .int .i64 0) (fun _ _ => 0)
    case atStart => exact ⟨rfl, rfl⟩
    case round =>
      obtain ⟨rfl, rfl⟩ := hrel
      go_wp2
      go_ret
      exact ⟨by simp, Below.refl _ _⟩
  · have h' : w.ownsRow base 9 1 v (ssq n).length (strs (ssq n)) := by rw [ssq_len]; exact h
    rcases srow_cases h' with ⟨e, rfl⟩ | ⟨g, c, rfl, hbg, hgw, x1, x2⟩
    · have := ssq_len n
      rw [e] at this
      exact absurd this.symm hL
    have K := srow_cell h'
    rw [ssq_len] at K x1 ⊢
    have KH : Hid (∀ i, i < n → w.cell? ⟨g, i, none⟩ = some (.string ((ssq n).getD i emp))) := K
    have MT : Hid (∀ (k : Nat) (w : World), 0 < k → k ≤ 1000000000000000000 → Calls Try.prog 25 #[.int .i64 k] w fun e w' => e = .returned (.string (mtx k)) ∧ Below w.heap.size w w') := fun k w => mark_text k w
    have GW : Hid (g < w.heap.size) := hgw
    unfold maxLen at x2
    clear h h' K hL hgw
    go_enter Try.func11, Try.ntmps11
    go_wp2
    go_loopw [1, 5] (fun k i wr => ∃ j : Nat, j ≤ n ∧ k = .int .i64 ((1 + j : Nat) : Int) ∧ i = .int .i64 j ∧ Hid (Below w.heap.size w wr)) (fun _ i _ => n - (intOf i).toNat)
    case atStart => exact ⟨0, Nat.zero_le _, by simp, rfl, Below.refl _ _⟩
    case round =>
      obtain ⟨j, hj, rfl, rfl, BW⟩ := hrel
      by_cases hlt : j < n
      · have q1 := KH.out j hlt
        rw [ssq_get n j hlt, ← BW.out.cell (p := ⟨g, j, none⟩) GW.out] at q1
        have MJ : Hid (∀ (w : World), Calls Try.prog 25 #[.int .i64 ((1 + j : Nat) : Int)] w fun e w' => e = .returned (.string (mtx (1 + j))) ∧ Below w.heap.size w w') := fun w => MT.out (1 + j) w (by omega) (by omega)
        have GR : Hid (g < wr.heap.size) := Nat.lt_of_lt_of_le GW.out BW.out.size
        have i0 : (0 : Int) ≤ (j : Int) := by omega
        have i1 : (j : Int) < (n : Int) := by omega
        generalize mtx (1 + j) = z at *
        have hne : (z.toList != z.toList) = false := by simp
        go_wp2_with fail
        go_region_held3 (fun w' => w'.cell? ⟨g, j, none⟩ = some (.string z)) (go_keep)
          (first
          | (go_at_call 25; refine (MJ.out _).mono ?_; rintro e w2 ⟨rfl, hb2⟩; (have q2 : w2.cell? ⟨g, j, none⟩ = some (.string z) := (hb2.cell (p := ⟨g, j, none⟩) (by simp; exact GR.out)).trans (by go_simp))))
        all_goals
          have B2 : Hid (Below w.heap.size w w2) := BW.out.drew.trans (hb2.mono (by simp; exact BW.out.size))
          clear hb2 BW
          go_wp2_with fail
          go_roundw
          case rel => exact ⟨j + 1, by omega, by go_num, by go_num, B2⟩
          case measure => simp [intOf]; omega
      · have hjn : j = n := by omega
        subst hjn
        go_wp2
        go_ret
        exact ⟨by go_num, BW.out⟩
end Go.Proofs.Ytcfhfkoiiehhiaa.Ru
