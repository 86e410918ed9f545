/- Rows of whole numbers that a call owns: compared, marked, held. -/
import Derived.Test.YtmopkbkdfipglaaRowsOf
import Derived.WalkKit
import Derived.ProofKit
import Derived.OpenShut
import Derived.WalkSpells
import Derived.Below
import Derived.Outline
import Derived.OwnWalk
import Derived.WalkSmall
import Derived.Laws.OwnMore
import Derived.Deep.QuietTactic
import Derived.BigQuiet
import Derived.Laws.MakeOwn
import Derived.Deep.RegionWith
import Derived.Deep.RegionHeld3
namespace Go.Proofs.Ytmopkbkdfipglaa.Bytes
open Go.ChangeShapes Go.WideShapes Go.ChangeAt Go.RowKit

abbrev bys (L : List Int) : List Value := L.map (Value.int .u8)

theorem row_cases {w : World} {base : Nat} {v : Value} {L : List Int} (h : w.ownsRow base 5 1 v L.length (bys L)) :
    (L = [] ∧ v = .slice none 0 0) ∨ ∃ g cap, v = .slice (some ⟨g, 0, none⟩) L.length cap ∧ base ≤ g ∧ g < w.heap.size ∧ L.length ≤ cap ∧ cap ≤ maxLen := by
  obtain ⟨h0, h⟩ := h
  rcases h with ⟨rfl, hn⟩ | ⟨g, cap, cur, rfl, hb, hh, hc, hm, _⟩
  · exact Or.inl ⟨List.eq_nil_of_length_eq_zero hn, rfl⟩
  · refine Or.inr ⟨g, cap, rfl, hb, ?_, hc, hm⟩
    by_cases x : g < w.heap.size
    · exact x
    · rw [Array.getElem?_eq_none (by omega)] at hh; cases hh

theorem row_cell {w : World} {base g cap : Nat} {L : List Int} (h : w.ownsRow base 5 1 (.slice (some ⟨g, 0, none⟩) L.length cap) L.length (bys L)) (i : Nat) (hi : i < L.length) : w.cell? ⟨g, i, none⟩ = some (.int .u8 (L.getD i 0)) := by
  have := h.cellAt i (by omega)
  rw [this]
  simp [bys, List.getElem?_map, List.getElem?_eq_getElem hi]

theorem row_len {w : World} {base : Nat} {v : Value} {L : List Int} (h : w.ownsRow base 5 1 v L.length (bys L)) : L.length ≤ maxLen := by
  rcases row_cases h with ⟨rfl, _⟩ | ⟨_, _, _, _, _, h1, h2⟩
  · exact Nat.zero_le _
  · omega

set_option maxHeartbeats 1000000 in
theorem eq_same (w : World) (b1 b2 : Nat) (v1 v2 : Value) (L : List Int) (h1 : w.ownsRow b1 5 1 v1 L.length (bys L)) (h2 : w.ownsRow b2 5 1 v2 L.length (bys L)) :
    Calls Try.prog 9 #[v1, v2] w fun e w' => e = .returned (.bool true) ∧ ∃ n, w' = w.drewN n := by
  rcases row_cases h1 with ⟨rfl, rfl⟩ | ⟨g1, c1, rfl, _, _, x1, x2⟩
  · rcases row_cases h2 with ⟨_, rfl⟩ | ⟨g2, c2, rfl, _, _, _, _⟩
    · go_enter Try.func9, Try.ntmps9
      go_wp2
      go_loop [5] (fun i => i = .int .i64 0) (fun _ => 0)
      case atStart => rfl
      case round =>
        subst hrel
        go_wp2
        go_ret
        exact ⟨rfl, 0, rfl⟩
    · go_enter Try.func9, Try.ntmps9
      go_wp2
      go_loop [5] (fun i => i = .int .i64 0) (fun _ => 0)
      case atStart => rfl
      case round =>
        subst hrel
        go_wp2
        go_ret
        exact ⟨rfl, 0, rfl⟩
  · rcases row_cases h2 with ⟨e, rfl⟩ | ⟨g2, c2, rfl, _, _, y1, y2⟩
    · subst e
      go_enter Try.func9, Try.ntmps9
      go_wp2
      go_loop [5] (fun i => i = .int .i64 0) (fun _ => 0)
      case atStart => rfl
      case round =>
        subst hrel
        go_wp2
        go_ret
        exact ⟨rfl, 0, rfl⟩
    · have k1 := row_cell h1
      have k2 := row_cell h2
      have K1 : Hid (∀ i, i < L.length → w.cell? ⟨g1, i, none⟩ = some (.int .u8 (L.getD i 0))) := k1
      have K2 : Hid (∀ i, i < L.length → w.cell? ⟨g2, i, none⟩ = some (.int .u8 (L.getD i 0))) := k2
      obtain ⟨n, hn⟩ : ∃ n, n = L.length := ⟨_, rfl⟩
      rw [← hn] at x1 y1 ⊢
      have HN : Hid (n = L.length) := hn
      unfold maxLen at x2 y2
      clear k1 k2 h1 h2 hn
      go_enter Try.func9, Try.ntmps9
      go_wp2
      go_loopw [5] (fun i wr => ∃ k m : Nat, k ≤ n ∧ i = .int .i64 k ∧ wr = w.drewN m) (fun i _ => n - (intOf i).toNat)
      case atStart => exact ⟨0, 0, Nat.zero_le _, rfl, rfl⟩
      case round =>
        obtain ⟨k, m, hk, rfl, rfl⟩ := hrel
        by_cases hlt : k < n
        · have q1 := K1.out k (by rw [← HN.out]; exact hlt)
          have q2 := K2.out k (by rw [← HN.out]; exact hlt)
          have i0 : (0 : Int) ≤ (k : Int) := by omega
          have i1 : (k : Int) < (n : Int) := by omega
          have hne : (L.getD k 0 != L.getD k 0) = false := by simp
          generalize L.getD k 0 = z at *
          go_wp2_with fail
          go_quiet (fail)
          go_wp2_with fail
          go_roundw
          case rel => exact ⟨k + 1, m + nq, by omega, by go_num, rfl⟩
          case measure => simp [intOf]; omega
        · go_wp2
          go_ret
          exact ⟨rfl, m, rfl⟩

theorem bys_set (L : List Int) (j : Nat) (x : Int) : (bys L).set j (.int .u8 x) = bys (L.set j x) := by simp [bys, List.map_set]
theorem Try.info5 : (Try.prog.info? 5).map (fun i => (i.zero, i.size, i.bytes)) = some (some (.int .u8 0), 1, 1) := by kernel_rfl

def Reads (w : World) (v : Value) (L : List Int) : Prop :=
  (L = [] ∧ ∃ a cap, v = .slice a 0 cap) ∨ ∃ b o cap, v = .slice (some ⟨b, o, none⟩) L.length cap ∧ L.length ≤ cap ∧ cap ≤ maxLen ∧ b < w.heap.size ∧ ∀ i, i < L.length → w.cell? ⟨b, o + i, none⟩ = some (.int .u8 (L.getD i 0))

theorem Reads.form {w : World} {v : Value} {L : List Int} (h : Reads w v L) : ∃ a cap, v = .slice a L.length cap := by
  rcases h with ⟨rfl, a, cap, rfl⟩ | ⟨b, o, cap, rfl, _⟩
  · exact ⟨_, _, rfl⟩
  · exact ⟨_, _, rfl⟩
theorem Reads.on {w w' : World} {v : Value} {L : List Int} (h : Reads w v L) (hb : Below w.heap.size w w') : Reads w' v L := by
  rcases h with ⟨rfl, a, cap, rfl⟩ | ⟨b, o, cap, rfl, h1, h2, h3, h4⟩
  · exact .inl ⟨rfl, _, _, rfl⟩
  · exact .inr ⟨b, o, cap, rfl, h1, h2, Nat.lt_of_lt_of_le h3 hb.size, fun i hi => (hb.cell (p := ⟨b, o + i, none⟩) h3).trans (h4 i hi)⟩
theorem reads_row {w : World} {base : Nat} {v : Value} {L : List Int} (h : w.ownsRow base 5 1 v L.length (bys L)) : Reads w v L := by
  rcases row_cases h with ⟨rfl, rfl⟩ | ⟨g, cap, rfl, h1, h2, h3, h4⟩
  · exact .inl ⟨rfl, _, _, rfl⟩
  · exact .inr ⟨g, 0, cap, rfl, h3, h4, h2, fun i hi => by rw [Nat.zero_add]; exact row_cell h i hi⟩

def fill (L : List Int) (j : Nat) : List Int := (List.range L.length).map fun i => if i < j then L.getD i 0 else 0
theorem fill_len (L : List Int) (j : Nat) : (fill L j).length = L.length := by simp [fill]
theorem fill_zero (L : List Int) : (madeCells (Value.int .u8 0).cells (L.length * 1)).toList = bys (fill L 0) := by
  apply List.ext_getElem
  · simp [madeCells, bys, fill]
  · intro i h1 h2
    simp [madeCells, bys, fill, Value.cells, Nat.mod_one]
theorem fill_all (L : List Int) : fill L L.length = L := by
  apply List.ext_getElem (fill_len _ _)
  intro i h1 h2
  simp [fill, h2]
theorem fill_set (L : List Int) (j : Nat) : (fill L j).set j (L.getD j 0) = fill L (j + 1) := by
  apply List.ext_getElem (by rw [List.length_set, fill_len, fill_len])
  intro i h1 h2
  rw [List.getElem_set]
  by_cases e : j = i
  · subst e; simp [fill]
  · rw [if_neg e]
    simp only [fill, List.getElem_map, List.getElem_range]
    by_cases x : i < j
    · rw [if_pos x, if_pos (by omega)]
    · rw [if_neg x, if_neg (by omega)]

set_option maxHeartbeats 1000000 in
theorem to_any (w : World) (v : Value) (L : List Int) (h : Reads w v L) (hl : L.length ≤ 1048576) :
    Calls Try.prog 15 #[v] w fun e w' => e = .returned (.slice (some ⟨w.heap.size, 0, none⟩) L.length L.length) ∧ w'.ownsRow w.heap.size 5 1 (.slice (some ⟨w.heap.size, 0, none⟩) L.length L.length) L.length (bys L) ∧ Below w.heap.size w w' := by
  obtain ⟨i0, hi, hz0, hz1, hz2⟩ := info_parts Try.info5
  have hcell : ∃ f : Nat → Nat × Nat, (∀ i, i < L.length → w.cell? ⟨(f 0).1, (f 0).2 + i, none⟩ = some (.int .u8 (L.getD i 0))) ∧ (0 < L.length → (f 0).1 < w.heap.size ∧ ∃ cap, v = .slice (some ⟨(f 0).1, (f 0).2, none⟩) L.length cap) := by
    rcases h with ⟨rfl, _⟩ | ⟨b, o, cap, h1, h2, h3, h4, h5⟩
    · exact ⟨fun _ => (0, 0), fun i hi => by simp at hi, fun hi => by simp at hi⟩
    · exact ⟨fun _ => (b, o), h5, fun _ => ⟨h4, cap, h1⟩⟩
  obtain ⟨f, hc, hv⟩ := hcell
  obtain ⟨a, cap, rfl⟩ := h.form
  have hcap : L.length ≤ 1048576 := hl
  have HC : Hid (∀ i, i < L.length → w.cell? ⟨(f 0).1, (f 0).2 + i, none⟩ = some (.int .u8 (L.getD i 0))) := hc
  have HV : Hid (0 < L.length → (f 0).1 < w.heap.size ∧ a = some ⟨(f 0).1, (f 0).2, none⟩) := fun hi => by
    obtain ⟨h1, c, h2⟩ := hv hi
    simp at h2
    exact ⟨h1, h2.1⟩
  have FZ : Hid ((madeCells (Value.int .u8 0).cells (L.length * 1)).toList = bys (fill L 0)) := fill_zero L
  obtain ⟨n, hn⟩ : ∃ n, n = L.length := ⟨_, rfl⟩
  rw [← hn] at hl FZ ⊢
  have HN : Hid (n = L.length) := hn
  clear h hc hv hn hcap
  go_enter Try.func15, Try.ntmps15
  go_wp2_with (at_make; refine wpList_make_full _ rfl _ _ 23 rfl w.heap.size 5 i0 (.int .u8 0) 1 Try.underlying23 hi hz0 hz1 .i64 .i64 (n : Int) (n : Int) n rfl rfl rfl rfl (by rw [hz2]; omega) (by unfold maxLen; omega) (Nat.le_refl _) ?_; intro w4 hown hgrow)
  rw [FZ.out] at hown
  have R0 : Hid (w4.ownsRow w.heap.size 5 1 (.slice (some ⟨w.heap.size, 0, none⟩) n n) n (bys (fill L 0))) := hown
  have B0 : Hid (Below w.heap.size w w4) := (Below.refl _ _).grown hgrow (Nat.le_refl _) (fun k hk => by cases hk)
  clear hown hgrow
  go_loopw [4] (fun c wr => ∃ j : Nat, j ≤ n ∧ c = .int .i64 j ∧ Hid (wr.ownsRow w.heap.size 5 1 (.slice (some ⟨w.heap.size, 0, none⟩) n n) n (bys (fill L j))) ∧ Hid (Below w.heap.size w wr)) (fun c _ => n - (intOf c).toNat)
  case atStart => exact ⟨0, Nat.zero_le _, rfl, R0, B0⟩
  case round =>
    obtain ⟨j, hj, rfl, R, BB⟩ := hrel
    by_cases hlt : j < n
    · have hlt' : j < L.length := by rw [← HN.out]; exact hlt
      obtain ⟨v1, v2⟩ := HV.out (by omega)
      subst v2
      have i0 : (0 : Int) ≤ (j : Int) := by omega
      have i1 : (j : Int) < (n : Int) := by omega
      have q0 : wr.cell? ⟨(f 0).1, (f 0).2 + j, none⟩ = some (.int .u8 (L.getD j 0)) := (BB.out.cell (p := ⟨(f 0).1, (f 0).2 + j, none⟩) v1).trans (HC.out j hlt')
      have q1 : ∃ z, wr.cell? ⟨w.heap.size, j, none⟩ = some (.int .u8 z) := by
        have := R.out.cellAt j (by omega)
        rw [this]
        have hl : j < (fill L j).length := by rw [fill_len]; exact hlt'
        exact ⟨(fill L j)[j], by simp [bys, List.getElem?_map, List.getElem?_eq_getElem hl]⟩
      obtain ⟨z, q1⟩ := q1
      have q2 : wr.frozen? ⟨w.heap.size, j, none⟩ = false := R.out.frozenAt j
      have R' : Hid ((wr.setCell ⟨w.heap.size, j, none⟩ (.int .u8 (L.getD j 0))).ownsRow w.heap.size 5 1 (.slice (some ⟨w.heap.size, 0, none⟩) n n) n (bys (fill L (j + 1)))) := by
        show World.ownsRow _ _ _ _ _ _ _
        rw [← fill_set, ← bys_set]
        exact (R.out.stored j _).1
      have B' : Hid (Below w.heap.size w (wr.setCell ⟨w.heap.size, j, none⟩ (.int .u8 (L.getD j 0)))) := BB.out.setCell (p := ⟨w.heap.size, j, none⟩) (Nat.le_refl _) _
      generalize L.getD j 0 = x at *
      go_wp2_with fail
      go_roundw
      case rel => exact ⟨j + 1, by omega, by go_num, R', B'⟩
      case measure => simp [intOf]; omega
    · have hjn : j = n := by omega
      subst hjn
      have RE : Hid (wr.ownsRow w.heap.size 5 1 (.slice (some ⟨w.heap.size, 0, none⟩) j j) j (bys L)) := by
        have := R.out
        rw [HN.out, fill_all] at this
        rw [HN.out]
        exact this
      clear R
      go_wp2_with fail
      go_ret
      exact ⟨rfl, RE.out, BB.out⟩


set_option maxHeartbeats 1000000 in
theorem mark_any (w : World) (base : Nat) (v : Value) (L : List Int) (k0 : Int) (hk0 : 0 ≤ k0) (hk1 : k0 ≤ 1000000) (hn : L.length ≤ 2000000) (h : w.ownsRow base 5 1 v L.length (bys L)) :
    Calls Try.prog 12 #[v, .int .i64 k0] w fun e w' => e = .returned (.int .i64 (k0 + L.length)) ∧ w.grownBy w' v.ownBlock := by
  rcases row_cases h with ⟨rfl, rfl⟩ | ⟨g, c, rfl, _, _, x1, x2⟩
  · go_enter Try.func12, Try.ntmps12
    go_wp2
    go_loop [1, 5] (fun k i => k = .int .i64 k0 ∧ i = .int .i64 0) (fun _ _ => 0)
    case atStart => exact ⟨rfl, rfl⟩
    case round =>
      obtain ⟨rfl, rfl⟩ := hrel
      go_wp2
      go_ret
      exact ⟨by simp, World.grownBy.refl _ _⟩
  · have R0 : Hid (∃ M : List Int, M.length = L.length ∧ w.ownsRow base 5 1 (.slice (some ⟨g, 0, none⟩) L.length c) L.length (bys M)) := ⟨L, rfl, h⟩
    obtain ⟨n, hn'⟩ : ∃ n, n = L.length := ⟨_, rfl⟩
    rw [← hn'] at x1 hn R0 ⊢
    unfold maxLen at x2
    clear h hn'
    go_enter Try.func12, Try.ntmps12
    go_wp2
    go_loopw [1, 5] (fun k i wr => ∃ j : Nat, j ≤ n ∧ k = .int .i64 (k0 + j) ∧ i = .int .i64 j ∧ Hid (∃ M : List Int, M.length = n ∧ wr.ownsRow base 5 1 (.slice (some ⟨g, 0, none⟩) n c) n (bys M)) ∧ Hid (w.grownBy wr (some g))) (fun _ i _ => n - (intOf i).toNat)
    case atStart => exact ⟨0, Nat.zero_le _, by simp, rfl, R0, World.grownBy.refl _ _⟩
    case round =>
      obtain ⟨j, hj, rfl, rfl, R, G⟩ := hrel
      by_cases hlt : j < n
      · have i0 : (0 : Int) ≤ (j : Int) := by omega
        have i1 : (j : Int) < (n : Int) := by omega
        obtain ⟨M, hM, RM⟩ := R.out
        have q1 : wr.cell? ⟨g, j, none⟩ = some (.int .u8 (M.getD j 0)) := by subst hM; exact row_cell RM j hlt
        have q2 : wr.frozen? ⟨g, j, none⟩ = false := RM.frozenAt j
        have RN : Hid (∀ u : Int, ∃ M : List Int, M.length = n ∧ (wr.setCell ⟨g, j, none⟩ (.int .u8 u)).ownsRow base 5 1 (.slice (some ⟨g, 0, none⟩) n c) n (bys M)) := fun u => ⟨M.set j u, by rw [List.length_set, hM], by
          have := (RM.stored j (.int .u8 u)).1
          rw [bys_set] at this
          exact this⟩
        have GN : Hid (∀ u : Value, w.grownBy (wr.setCell ⟨g, j, none⟩ u) (some g)) := fun u => Lists.grown_setCell G.out j _
        generalize M.getD j 0 = z at *
        clear R RM hM
        go_wp2_with fail
        go_roundw
        case rel => exact ⟨j + 1, by omega, by go_num, by go_num, RN.out _, GN.out _⟩
        case measure => simp [intOf]; omega
      · have hjn : j = n := by omega
        subst hjn
        go_wp2
        go_ret
        exact ⟨rfl, G.out⟩
end Go.Proofs.Ytmopkbkdfipglaa.Bytes
