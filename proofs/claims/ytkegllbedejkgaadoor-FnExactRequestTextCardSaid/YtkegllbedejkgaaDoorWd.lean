/- Lists of words that a call owns: copied, compared, marked, measured; numbers marked from any mark. -/
import Derived.Test.YtkegllbedejkgaaDoorIx
import Derived.Test.YtkegllbedejkgaaDoorEnM
import Derived.BigQuiet
import Derived.Deep.QuietTactic
namespace Go.Proofs.YtkegllbedejkgaaDoor.Ix
open Go.ChangeShapes Go.WideShapes Go.ChangeAt Go.RowKit
open Lists (ints)
abbrev strs (L : List ByteArray) : List Value := L.map Value.string
theorem Tryd.info9 : (Tryd.prog.info? 9).map (fun i => (i.zero, i.size, i.bytes)) = some (some (.string ⟨#[]⟩), 1, 16) := by kernel_rfl
theorem srow_cases {w : World} {base : Nat} {v : Value} {L : List ByteArray} (h : w.ownsRow base 9 1 v L.length (strs L)) :
    (L = [] ∧ v = .slice none 0 0) ∨ ∃ g cap, v = .slice (some ⟨g, 0, none⟩) L.length cap ∧ base ≤ g ∧ g < w.heap.size ∧ L.length ≤ cap ∧ cap ≤ maxLen := by
  obtain ⟨h0, h⟩ := h
  rcases h with ⟨rfl, hn⟩ | ⟨g, cap, cur, rfl, hb, hh, hc, hm, _⟩
  · exact Or.inl ⟨List.eq_nil_of_length_eq_zero hn, rfl⟩
  · refine Or.inr ⟨g, cap, rfl, hb, ?_, hc, hm⟩
    by_cases x : g < w.heap.size
    · exact x
    · rw [Array.getElem?_eq_none (by omega)] at hh; cases hh
theorem srow_cell {w : World} {base g cap : Nat} {L : List ByteArray} (h : w.ownsRow base 9 1 (.slice (some ⟨g, 0, none⟩) L.length cap) L.length (strs L)) (i : Nat) (hi : i < L.length) : w.cell? ⟨g, i, none⟩ = some (.string (L.getD i ⟨#[]⟩)) := by
  have := h.cellAt i (by omega)
  rw [this]
  simp [strs, List.getElem?_map, List.getElem?_eq_getElem hi]

theorem sreads_row {w : World} {base : Nat} {v : Value} {L : List ByteArray} (h : w.ownsRow base 9 1 v L.length (strs L)) : Reads w v L := by
  rcases srow_cases h with ⟨rfl, rfl⟩ | ⟨g, cap, rfl, _, h2, h3, h4⟩
  · exact Or.inl ⟨rfl, _, _, rfl⟩
  · exact Or.inr ⟨g, 0, cap, rfl, h3, h4, h2, fun i hi => by rw [Nat.zero_add]; exact srow_cell h i hi⟩
theorem strs_set (L : List ByteArray) (j : Nat) (x : ByteArray) : (strs L).set j (.string x) = strs (L.set j x) := by simp [strs, List.map_set]
set_option maxHeartbeats 1000000 in
theorem seq_same (w : World) (b1 b2 : Nat) (v1 v2 : Value) (L : List ByteArray) (h1 : w.ownsRow b1 9 1 v1 L.length (strs L)) (h2 : w.ownsRow b2 9 1 v2 L.length (strs L)) :
    Calls Tryd.prog 26 #[v1, v2] w fun e w' => e = .returned (.bool true) ∧ ∃ n, w' = w.drewN n := by
  by_cases hL : L.length = 0
  · have hL' := List.eq_nil_of_length_eq_zero hL
    subst hL'
    obtain ⟨a1, c1, rfl⟩ := (sreads_row h1).form
    obtain ⟨a2, c2, rfl⟩ := (sreads_row h2).form
    clear h1 h2 hL
    go_enter Tryd.func26, Tryd.ntmps26
    go_wp2_with fail
    go_loop [5] (fun i => i = .int .i64 0) (fun _ => 0)
    case atStart => rfl
    case round =>
      subst hrel
      go_wp2
      go_ret
      exact ⟨rfl, 0, rfl⟩
  · rcases srow_cases h1 with ⟨rfl, rfl⟩ | ⟨g1, c1, rfl, _, _, x1, x2⟩
    · exact absurd rfl hL
    rcases srow_cases h2 with ⟨rfl, rfl⟩ | ⟨g2, c2, rfl, _, _, y1, y2⟩
    · exact absurd rfl hL
    have K1 : Hid (∀ i, i < L.length → w.cell? ⟨g1, i, none⟩ = some (.string (L.getD i ⟨#[]⟩))) := srow_cell h1
    have K2 : Hid (∀ i, i < L.length → w.cell? ⟨g2, i, none⟩ = some (.string (L.getD i ⟨#[]⟩))) := srow_cell h2
    obtain ⟨n, hn⟩ : ∃ n, n = L.length := ⟨_, rfl⟩
    rw [← hn] at x1 y1 ⊢
    have HN : Hid (n = L.length) := hn
    unfold maxLen at x2 y2
    clear h1 h2 hn hL
    go_enter Tryd.func26, Tryd.ntmps26
    go_wp2_with fail
    go_loopw [5] (fun i wr => ∃ k m : Nat, k ≤ n ∧ i = .int .i64 k ∧ wr = w.drewN m) (fun i _ => n - (intOf i).toNat)
    case atStart => exact ⟨0, 0, Nat.zero_le _, rfl, rfl⟩
    case round =>
      obtain ⟨k, m, hk, rfl, rfl⟩ := hrel
      by_cases hlt : k < n
      · have q1 := K1.out k (by rw [← HN.out]; exact hlt)
        have q2 := K2.out k (by rw [← HN.out]; exact hlt)
        have i0 : (0 : Int) ≤ (k : Int) := by omega
        have i1 : (k : Int) < (n : Int) := by omega
        generalize L.getD k ⟨#[]⟩ = z at *
        have hne : (z.toList != z.toList) = false := by simp
        go_wp2_with fail
        go_quiet (fail)
        go_wp2_with fail
        go_roundw
        case rel => exact ⟨k + 1, m + nq, by omega, by go_num, rfl⟩
        case measure => simp [intOf]; omega
      · go_wp2
        go_ret
        exact ⟨rfl, m, rfl⟩


def fill (L : List ByteArray) (j : Nat) : List ByteArray := (List.range L.length).map fun i => if i < j then L.getD i ⟨#[]⟩ else ⟨#[]⟩
theorem fill_len (L : List ByteArray) (j : Nat) : (fill L j).length = L.length := by simp [fill]
theorem fill_zero (L : List ByteArray) : (madeCells (Value.string ⟨#[]⟩).cells (L.length * 1)).toList = strs (fill L 0) := by
  apply List.ext_getElem
  · simp [madeCells, strs, fill]
  · intro i h1 h2
    simp [madeCells, strs, fill, Value.cells, Nat.mod_one]
theorem fill_all (L : List ByteArray) : fill L L.length = L := by
  apply List.ext_getElem (fill_len _ _)
  intro i h1 h2
  simp [fill, h2]
theorem fill_set (L : List ByteArray) (j : Nat) : (fill L j).set j (L.getD j ⟨#[]⟩) = fill L (j + 1) := by
  apply List.ext_getElem (by rw [List.length_set, fill_len, fill_len])
  intro i h1 h2
  rw [List.getElem_set]
  by_cases e : j = i
  · subst e; simp [fill]
  · rw [if_neg e]
    simp only [fill, List.getElem_map, List.getElem_range]
    by_cases x : i < j
    · rw [if_pos x, if_pos (by omega)]
    · rw [if_neg x, if_neg (by omega)]


set_option maxHeartbeats 1000000 in
theorem toS_any (w : World) (v : Value) (L : List ByteArray) (h : Reads w v L) (hl : L.length ≤ 1048576) :
    Calls Tryd.prog 15 #[v] w fun e w' => e = .returned (.slice (some ⟨w.heap.size, 0, none⟩) L.length L.length) ∧ w'.ownsRow w.heap.size 9 1 (.slice (some ⟨w.heap.size, 0, none⟩) L.length L.length) L.length (strs L) ∧ Below w.heap.size w w' := by
  obtain ⟨i0, hi, hz0, hz1, hz2⟩ := info_parts Tryd.info9
  have hcell : ∃ f : Nat → Nat × Nat, (∀ i, i < L.length → w.cell? ⟨(f 0).1, (f 0).2 + i, none⟩ = some (.string (L.getD i ⟨#[]⟩))) ∧ (0 < L.length → (f 0).1 < w.heap.size ∧ ∃ cap, v = .slice (some ⟨(f 0).1, (f 0).2, none⟩) L.length cap) := by
    rcases h with ⟨rfl, _⟩ | ⟨b, o, cap, h1, h2, h3, h4, h5⟩
    · exact ⟨fun _ => (0, 0), fun i hi => by simp at hi, fun hi => by simp at hi⟩
    · exact ⟨fun _ => (b, o), h5, fun _ => ⟨h4, cap, h1⟩⟩
  obtain ⟨f, hc, hv⟩ := hcell
  obtain ⟨a, cap, rfl⟩ := h.form
  have hcap : L.length ≤ 1048576 := hl
  have HC : Hid (∀ i, i < L.length → w.cell? ⟨(f 0).1, (f 0).2 + i, none⟩ = some (.string (L.getD i ⟨#[]⟩))) := hc
  have HV : Hid (0 < L.length → (f 0).1 < w.heap.size ∧ a = some ⟨(f 0).1, (f 0).2, none⟩) := fun hi => by
    obtain ⟨h1, c, h2⟩ := hv hi
    simp at h2
    exact ⟨h1, h2.1⟩
  have FZ : Hid ((madeCells (Value.string ⟨#[]⟩).cells (L.length * 1)).toList = strs (fill L 0)) := fill_zero L
  obtain ⟨n, hn⟩ : ∃ n, n = L.length := ⟨_, rfl⟩
  rw [← hn] at hl FZ ⊢
  have HN : Hid (n = L.length) := hn
  clear h hc hv hn hcap
  go_enter Tryd.func15, Tryd.ntmps15
  go_wp2_with (at_make; refine wpList_make_full _ rfl _ _ 22 rfl w.heap.size 9 i0 (.string ⟨#[]⟩) 1 Tryd.underlying22 hi hz0 hz1 .i64 .i64 (n : Int) (n : Int) n rfl rfl rfl rfl (by rw [hz2]; omega) (by unfold maxLen; omega) (Nat.le_refl _) ?_; intro w4 hown hgrow)
  rw [FZ.out] at hown
  have R0 : Hid (w4.ownsRow w.heap.size 9 1 (.slice (some ⟨w.heap.size, 0, none⟩) n n) n (strs (fill L 0))) := hown
  have B0 : Hid (Below w.heap.size w w4) := (Below.refl _ _).grown hgrow (Nat.le_refl _) (fun k hk => by cases hk)
  clear hown hgrow
  go_loopw [4] (fun c wr => ∃ j : Nat, j ≤ n ∧ c = .int .i64 j ∧ Hid (wr.ownsRow w.heap.size 9 1 (.slice (some ⟨w.heap.size, 0, none⟩) n n) n (strs (fill L j))) ∧ Hid (Below w.heap.size w wr)) (fun c _ => n - (intOf c).toNat)
  case atStart => exact ⟨0, Nat.zero_le _, rfl, R0, B0⟩
  case round =>
    obtain ⟨j, hj, rfl, R, BB⟩ := hrel
    by_cases hlt : j < n
    · have hlt' : j < L.length := by rw [← HN.out]; exact hlt
      obtain ⟨v1, v2⟩ := HV.out (by omega)
      subst v2
      have i0 : (0 : Int) ≤ (j : Int) := by omega
      have i1 : (j : Int) < (n : Int) := by omega
      have q0 : wr.cell? ⟨(f 0).1, (f 0).2 + j, none⟩ = some (.string (L.getD j ⟨#[]⟩)) := (BB.out.cell (p := ⟨(f 0).1, (f 0).2 + j, none⟩) v1).trans (HC.out j hlt')
      have q1 : ∃ z, wr.cell? ⟨w.heap.size, j, none⟩ = some (.string z) := by
        have := R.out.cellAt j (by omega)
        rw [this]
        have hl : j < (fill L j).length := by rw [fill_len]; exact hlt'
        exact ⟨(fill L j)[j], by simp [strs, List.getElem?_map, List.getElem?_eq_getElem hl]⟩
      obtain ⟨z, q1⟩ := q1
      have q2 : wr.frozen? ⟨w.heap.size, j, none⟩ = false := R.out.frozenAt j
      have R' : Hid ((wr.setCell ⟨w.heap.size, j, none⟩ (.string (L.getD j ⟨#[]⟩))).ownsRow w.heap.size 9 1 (.slice (some ⟨w.heap.size, 0, none⟩) n n) n (strs (fill L (j + 1)))) := by
        show World.ownsRow _ _ _ _ _ _ _
        rw [← fill_set, ← strs_set]
        exact (R.out.stored j _).1
      have B' : Hid (Below w.heap.size w (wr.setCell ⟨w.heap.size, j, none⟩ (.string (L.getD j ⟨#[]⟩)))) := BB.out.setCell (p := ⟨w.heap.size, j, none⟩) (Nat.le_refl _) _
      generalize L.getD j ⟨#[]⟩ = x at *
      go_wp2_with fail
      go_roundw
      case rel => exact ⟨j + 1, by omega, by go_num, R', B'⟩
      case measure => simp [intOf]; omega
    · have hjn : j = n := by omega
      subst hjn
      have RE : Hid (wr.ownsRow w.heap.size 9 1 (.slice (some ⟨w.heap.size, 0, none⟩) j j) j (strs L)) := by
        have := R.out
        rw [HN.out, fill_all] at this
        rw [HN.out]
        exact this
      clear R
      go_wp2_with fail
      go_ret
      exact ⟨rfl, RE.out, BB.out⟩


set_option maxHeartbeats 1000000 in
theorem szI_any (v : Value) (L : List Int) (l : Int) (w : World) (h0 : 0 ≤ l) (h1 : l ≤ 1048576) (h : Lists.Reads w v L) :
    Calls Tryd.prog 10 #[v, .int .i64 l] w fun e w' => (∃ r : Int, e = .returned (.int .i64 r) ∧ (0 ≤ r → L.length ≤ 1048576) ∧ r ≤ 1048576) ∧ w' = w := by
  have fl : L.length < 9223372036854775808 := by
    rcases h with ⟨rfl, _⟩ | ⟨b, o, c, _, h1, h2, _⟩
    · decide
    · unfold maxLen at h2; omega
  obtain ⟨a, cap, rfl⟩ := h.form
  clear h
  generalize L.length = n at *
  have e1 : IntKind.i64.wrap (l - (n : Int)) = l - (n : Int) := IntWalk.i64_in _ (by omega)
  by_cases hneg : l - (n : Int) < 0
  · go_enter Tryd.func10, Tryd.ntmps10
    go_wp2_with fail
    go_ret
    exact ⟨⟨-1, rfl, fun h => by omega, by omega⟩, rfl⟩
  · have hnn : 0 ≤ l - (n : Int) := by omega
    go_enter Tryd.func10, Tryd.ntmps10
    go_wp2_with fail
    go_ret
    exact ⟨⟨_, rfl, fun _ => by omega, by omega⟩, rfl⟩

set_option maxHeartbeats 1000000 in
theorem szS_any (v : Value) (L : List ByteArray) (l : Int) (w : World) (h0 : 0 ≤ l) (h1 : l ≤ 1048576) (h : Reads w v L) (hf : ∀ i, i < L.length → (L.getD i ⟨#[]⟩).size < 9223372036854775808) :
    Calls Tryd.prog 9 #[v, .int .i64 l] w fun e w' => (∃ r : Int, e = .returned (.int .i64 r) ∧ (0 ≤ r → L.length ≤ 1048576 ∧ ∀ i, i < L.length → (L.getD i ⟨#[]⟩).size ≤ 1048576) ∧ r ≤ 1048576) ∧ w' = w := by
  have fl := h.fits
  obtain ⟨a, cap, rfl⟩ := h.form
  obtain ⟨n, hn⟩ : ∃ n, n = L.length := ⟨_, rfl⟩
  have HC : Hid (∀ i, i < n → ∃ b o, a = some ⟨b, o, none⟩ ∧ w.cell? ⟨b, o + i, none⟩ = some (.string (L.getD i ⟨#[]⟩))) := fun i hi => (by
    rw [hn] at hi
    rcases h with ⟨rfl, _⟩ | ⟨b, o, c, e, _, _, x, y⟩
    · simp at hi
    · simp at e; exact ⟨b, o, e.1, y i hi⟩)
  rw [← hn] at fl hf ⊢
  have HF : Hid (∀ i, i < n → (L.getD i ⟨#[]⟩).size < 9223372036854775808) := hf
  clear h hf hn
  have e1 : IntKind.i64.wrap (l - (n : Int)) = l - (n : Int) := IntWalk.i64_in _ (by omega)
  by_cases hneg : l - (n : Int) < 0
  · go_enter Tryd.func9, Tryd.ntmps9
    go_wp2_with fail
    go_ret
    exact ⟨⟨-1, rfl, fun h => by omega, by omega⟩, rfl⟩
  · have hnn : 0 ≤ l - (n : Int) := by omega
    have HLN : Hid (n ≤ 1048576) := (by show _ ≤ _; omega)
    obtain ⟨y, hy⟩ : ∃ y : Int, y = l - (n : Int) := ⟨_, rfl⟩
    have hy1 : y ≤ 1048576 := by omega
    rw [← hy] at e1 hneg hnn
    have HY : Hid (y = l - (n : Int)) := hy
    go_enter Tryd.func9, Tryd.ntmps9
    go_wp2_with fail
    rw [← HY.out]
    clear hy
    go_loopw [1, 5] (fun u i wr => ∃ (k : Nat) (z : Int), k ≤ n ∧ i = .int .i64 k ∧ u = .int .i64 z ∧ 0 ≤ z ∧ z ≤ 1048576 ∧ Hid (∀ i, i < k → (L.getD i ⟨#[]⟩).size ≤ 1048576) ∧ wr = w) (fun _ i _ => n - (intOf i).toNat)
    case atStart => exact ⟨0, y, Nat.zero_le _, rfl, rfl, hnn, hy1, fun i hi => by omega, rfl⟩
    case round =>
      clear e1 hneg hnn hy1 h0 h1 HY
      obtain ⟨k, z, hk, rfl, rfl, z0, z1, HK, hw⟩ := hrel
      subst hw
      by_cases hlt : k < n
      · obtain ⟨b, o, rfl, q0⟩ := HC.out k hlt
        have i0 : (0 : Int) ≤ (k : Int) := by omega
        have i1 : (k : Int) < (n : Int) := by omega
        have hs := HF.out k hlt
        have NK : Hid ((L.getD k ⟨#[]⟩).size ≤ 1048576 → ∀ i, i < k + 1 → (L.getD i ⟨#[]⟩).size ≤ 1048576) := fun h i hi => by
          by_cases e : i = k
          · subst e; exact h
          · exact HK.out i (by omega)
        generalize L.getD k ⟨#[]⟩ = x at *
        have e1 : IntKind.i64.wrap (z - (x.size : Int)) = z - (x.size : Int) := IntWalk.i64_in _ (by omega)
        by_cases hneg : z - (x.size : Int) < 0
        · go_wp2_with fail
          go_ret
          exact ⟨⟨-1, rfl, fun h => by omega, by omega⟩, rfl⟩
        · have hnn : 0 ≤ z - (x.size : Int) := by omega
          have NN : Hid (∀ i, i < k + 1 → (L.getD i ⟨#[]⟩).size ≤ 1048576) := NK.out (by omega)
          have hz1 : z - (x.size : Int) ≤ 1048576 := by omega
          clear NK HK
          go_wp2_with fail
          go_roundw
          case rel => exact ⟨k + 1, _, by omega, by go_num, rfl, by omega, by omega, NN, trivial⟩
          case measure => simp [intOf]; omega
      · have hkn : k = n := by omega
        subst hkn
        have jj : ¬ (k : Int) < (k : Int) := by omega
        go_wp2_with fail
        go_ret
        exact ⟨⟨_, rfl, fun _ => ⟨HLN.out, HK.out⟩, by omega⟩, rfl⟩
end Go.Proofs.YtkegllbedejkgaaDoor.Ix
