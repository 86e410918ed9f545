/- Rows of bytes: copied, held against each other, read as a text. -/
import Derived.Test.YtcfhfkoiiehhiaaDoorCl
import Derived.ProofKit
import Derived.WalkSpells
import Derived.WalkLawsBesides
import Derived.WalkSmall
import Derived.Below
import Derived.OwnWalk
import Derived.Outline
import Derived.Laws.OwnMore
import Derived.Laws.IdiomStrings
import Derived.Laws.BytesArg
import Derived.Deep.Draws
import Derived.Deep.QuietTactic
import Derived.BigQuiet
namespace Go.Proofs.YtcfhfkoiiehhiaaDoor.Ru
open Go.ChangeShapes Go.WideShapes Go.ChangeAt Go.RowKit

abbrev bv (x : UInt8) : Value := .int .u8 (x.toNat : Int)
def Reads (w : World) (v : Value) (L : List UInt8) : Prop :=
  (L = [] ∧ ∃ a cap, v = .slice a 0 cap) ∨ ∃ b o cap, v = .slice (some ⟨b, o, none⟩) L.length cap ∧ L.length ≤ cap ∧ cap ≤ maxLen ∧ b < w.heap.size ∧ ∀ i, i < L.length → w.cell? ⟨b, o + i, none⟩ = some (bv (L.getD i 0))
theorem Reads.below {w w' : World} {v : Value} {L : List UInt8} {B : Nat} (h : Reads w v L) (hb : Below B w w') (hB : w.heap.size ≤ B) : Reads w' v L := by
  rcases h with h | ⟨b, o, cap, h1, h2, h3, h4, h5⟩
  · exact Or.inl h
  · exact Or.inr ⟨b, o, cap, h1, h2, h3, Nat.lt_of_lt_of_le h4 hb.size, fun i hi => (hb.cell (p := ⟨b, o + i, none⟩) (by show b < B; omega)).trans (h5 i hi)⟩
theorem Reads.form {w : World} {v : Value} {L : List UInt8} (h : Reads w v L) : ∃ a cap, v = .slice a L.length cap := by
  rcases h with ⟨rfl, a, cap, rfl⟩ | ⟨b, o, cap, rfl, _⟩
  · exact ⟨_, _, rfl⟩
  · exact ⟨_, _, rfl⟩

theorem conv_reads {w : World} {v : Value} {L : List UInt8} (h : Reads w v L) : (convert 22 9 v).run Tryd.prog w = .ok (.string ⟨L.toArray⟩) w := by
  rcases h with ⟨rfl, a, cap, rfl⟩ | ⟨b, o, cap, rfl, _, _, _, h5⟩
  · cases a with
    | none => exact run_convert_bytes_nil (P := Tryd.prog) w 22 5 Tryd.underlying22 Tryd.underlying5 _ cap 9 Tryd.underlying9
    | some a => exact run_convert_bytes_back (P := Tryd.prog) w 22 9 5 a cap [] Tryd.underlying22 Tryd.underlying5 Tryd.underlying9 (fun j hj => by simp at hj)
  · refine run_convert_bytes_back (P := Tryd.prog) w 22 9 5 ⟨b, o, none⟩ cap L Tryd.underlying22 Tryd.underlying5 Tryd.underlying9 ?_
    intro j hj
    have e : (⟨b, o, none⟩ : Addr).add j = ⟨b, o + j, none⟩ := by
      unfold Addr.add
      split
      · rename_i h; subst h; rfl
      · rfl
    rw [e, h5 j hj]
    simp [List.getD, hj]

set_option maxHeartbeats 1000000 in
theorem eq_same (w : World) (v1 v2 : Value) (L : List UInt8) (h1 : Reads w v1 L) (h2 : Reads w v2 L) :
    Calls Tryd.prog 7 #[v1, v2] w fun e w' => e = .returned (.bool true) ∧ ∃ n, w' = w.drewN n := by
  by_cases hL : L = []
  · subst hL
    obtain ⟨a, cap, rfl⟩ := h1.form
    obtain ⟨a2, cap2, rfl⟩ := h2.form
    go_enter Tryd.func7, Tryd.ntmps7
    go_wp2
    go_loop [5] (fun i => i = .int .i64 0) (fun _ => 0)
    case atStart => rfl
    case round =>
      subst hrel
      go_wp2
      go_ret
      exact ⟨rfl, 0, rfl⟩
  · rcases h1 with ⟨e, _⟩ | ⟨b1, o1, c1, rfl, x1, x2, x3, x4⟩
    · exact absurd e hL
    rcases h2 with ⟨e, _⟩ | ⟨b2, o2, c2, rfl, y1, y2, y3, y4⟩
    · exact absurd e hL
    have K1 : Hid (∀ i, i < L.length → w.cell? ⟨b1, o1 + i, none⟩ = some (bv (L.getD i 0))) := x4
    have K2 : Hid (∀ i, i < L.length → w.cell? ⟨b2, o2 + i, none⟩ = some (bv (L.getD i 0))) := y4
    obtain ⟨n, hn⟩ : ∃ n, n = L.length := ⟨_, rfl⟩
    rw [← hn] at x1 y1 ⊢
    have HN : Hid (n = L.length) := hn
    unfold maxLen at x2 y2
    clear x4 y4 hn hL
    go_enter Tryd.func7, Tryd.ntmps7
    go_wp2
    go_loopw [5] (fun i wr => ∃ k m : Nat, k ≤ n ∧ i = .int .i64 k ∧ Hid (wr = w.drewN m)) (fun i _ => n - (intOf i).toNat)
    case atStart => exact ⟨0, 0, Nat.zero_le _, rfl, rfl⟩
    case round =>
      obtain ⟨k, m, hk, rfl, HR⟩ := hrel
      by_cases hlt : k < n
      · have q1 : wr.cell? ⟨b1, o1 + k, none⟩ = some (bv (L.getD k 0)) := by rw [HR.out]; exact K1.out k (by rw [← HN.out]; exact hlt)
        have q2 : wr.cell? ⟨b2, o2 + k, none⟩ = some (bv (L.getD k 0)) := by rw [HR.out]; exact K2.out k (by rw [← HN.out]; exact hlt)
        have i0 : (0 : Int) ≤ (k : Int) := by omega
        have i1 : (k : Int) < (n : Int) := by omega
        generalize (L.getD k 0).toNat = z at *
        go_wp2_with fail
        go_quiet (fail)
        go_wp2_with fail
        go_roundw
        case rel => exact ⟨k + 1, m + nq, by omega, by go_num, (by show _ = _; rw [HR.out]; exact World.drewN_drewN _ _ _)⟩
        case measure => simp [intOf]; omega
      · go_wp2
        go_ret
        exact ⟨rfl, m, HR.out⟩

theorem Tryd.info5 : (Tryd.prog.info? 5).map (fun i => (i.zero, i.size, i.bytes)) = some (some (.int .u8 0), 1, 1) := by kernel_rfl
def fill (L : List UInt8) (j : Nat) : List UInt8 := (List.range L.length).map fun i => if i < j then L.getD i 0 else 0
abbrev bvs (L : List UInt8) : List Value := L.map bv
theorem fill_len (L : List UInt8) (j : Nat) : (fill L j).length = L.length := by simp [fill]
theorem fill_zero (L : List UInt8) : (madeCells (Value.int .u8 0).cells (L.length * 1)).toList = bvs (fill L 0) := by
  apply List.ext_getElem
  · simp [madeCells, bvs, fill]
  · intro i h1 h2
    simp [madeCells, bvs, fill, Value.cells, Nat.mod_one]
theorem fill_all (L : List UInt8) : fill L L.length = L := by
  apply List.ext_getElem (fill_len _ _)
  intro i h1 h2
  simp [fill, h2]
theorem fill_set (L : List UInt8) (j : Nat) : (fill L j).set j (L.getD j 0) = fill L (j + 1) := by
  apply List.ext_getElem (by rw [List.length_set, fill_len, fill_len])
  intro i h1 h2
  rw [List.getElem_set]
  by_cases e : j = i
  · subst e; simp [fill]
  · rw [if_neg e]
    simp only [fill, List.getElem_map, List.getElem_range]
    by_cases x : i < j
    · rw [if_pos x, if_pos (by omega)]
    · rw [if_neg x, if_neg (by omega)]
theorem bvs_set (L : List UInt8) (j : Nat) (x : UInt8) : (bvs L).set j (bv x) = bvs (L.set j x) := by simp [bvs, List.map_set]
theorem reads_of_row {w : World} {base g : Nat} {L : List UInt8} (h : w.ownsRow base 5 1 (.slice (some ⟨g, 0, none⟩) L.length L.length) L.length (bvs L)) (hm : L.length ≤ maxLen) : Reads w (.slice (some ⟨g, 0, none⟩) L.length L.length) L := by
  refine Or.inr ⟨g, 0, L.length, rfl, Nat.le_refl _, hm, (h.lt g rfl).2, fun i hi => ?_⟩
  rw [Nat.zero_add, h.cellAt i (by omega)]
  simp [bvs, List.getElem?_map, List.getElem?_eq_getElem hi]

set_option maxHeartbeats 1000000 in
theorem to_any (w : World) (v : Value) (L : List UInt8) (h : Reads w v L) (hl : L.length ≤ 1048576) :
    Calls Tryd.prog 5 #[v] w fun e w' => ∃ v', e = .returned v' ∧ Reads w' v' L ∧ Below w.heap.size w w' := by
  obtain ⟨i0, hi, hz0, hz1, hz2⟩ := info_parts Tryd.info5
  have hcell : ∃ f : Nat → Nat × Nat, (∀ i, i < L.length → w.cell? ⟨(f 0).1, (f 0).2 + i, none⟩ = some (bv (L.getD i 0))) ∧ (0 < L.length → (f 0).1 < w.heap.size ∧ ∃ cap, v = .slice (some ⟨(f 0).1, (f 0).2, none⟩) L.length cap) := by
    rcases h with ⟨rfl, _⟩ | ⟨b, o, cap, h1, h2, h3, h4, h5⟩
    · exact ⟨fun _ => (0, 0), fun i hi => by simp at hi, fun hi => by simp at hi⟩
    · exact ⟨fun _ => (b, o), h5, fun _ => ⟨h4, cap, h1⟩⟩
  obtain ⟨f, hc, hv⟩ := hcell
  obtain ⟨a, cap, rfl⟩ := h.form
  have hcap : L.length ≤ 1048576 := hl
  have HC : Hid (∀ i, i < L.length → w.cell? ⟨(f 0).1, (f 0).2 + i, none⟩ = some (bv (L.getD i 0))) := hc
  have HV : Hid (0 < L.length → (f 0).1 < w.heap.size ∧ a = some ⟨(f 0).1, (f 0).2, none⟩) := fun hi => by
    obtain ⟨h1, c, h2⟩ := hv hi
    simp at h2
    exact ⟨h1, h2.1⟩
  have FZ : Hid ((madeCells (Value.int .u8 0).cells (L.length * 1)).toList = bvs (fill L 0)) := fill_zero L
  obtain ⟨n, hn⟩ : ∃ n, n = L.length := ⟨_, rfl⟩
  rw [← hn] at hl FZ ⊢
  have HN : Hid (n = L.length) := hn
  clear h hc hv hn hcap
  go_enter Tryd.func5, Tryd.ntmps5
  go_wp2_with (at_make; refine wpList_make_full _ rfl _ _ 22 rfl w.heap.size 5 i0 (.int .u8 0) 1 Tryd.underlying22 hi hz0 hz1 .i64 .i64 (n : Int) (n : Int) n rfl rfl rfl rfl (by rw [hz2]; omega) (by unfold maxLen; omega) (Nat.le_refl _) ?_; intro w4 hown hgrow)
  rw [FZ.out] at hown
  have R0 : Hid (w4.ownsRow w.heap.size 5 1 (.slice (some ⟨w.heap.size, 0, none⟩) n n) n (bvs (fill L 0))) := hown
  have B0 : Hid (Below w.heap.size w w4) := (Below.refl _ _).grown hgrow (Nat.le_refl _) (fun k hk => by cases hk)
  clear hown hgrow
  go_loopw [4] (fun c wr => ∃ j : Nat, j ≤ n ∧ c = .int .i64 j ∧ Hid (wr.ownsRow w.heap.size 5 1 (.slice (some ⟨w.heap.size, 0, none⟩) n n) n (bvs (fill L j))) ∧ Hid (Below w.heap.size w wr)) (fun c _ => n - (intOf c).toNat)
  case atStart => exact ⟨0, Nat.zero_le _, rfl, R0, B0⟩
  case round =>
    obtain ⟨j, hj, rfl, R, BB⟩ := hrel
    by_cases hlt : j < n
    · have hlt' : j < L.length := by rw [← HN.out]; exact hlt
      obtain ⟨v1, v2⟩ := HV.out (by omega)
      subst v2
      have i0 : (0 : Int) ≤ (j : Int) := by omega
      have i1 : (j : Int) < (n : Int) := by omega
      have q0 : wr.cell? ⟨(f 0).1, (f 0).2 + j, none⟩ = some (bv (L.getD j 0)) := (BB.out.cell (p := ⟨(f 0).1, (f 0).2 + j, none⟩) v1).trans (HC.out j hlt')
      have q1 : ∃ z : UInt8, wr.cell? ⟨w.heap.size, j, none⟩ = some (bv z) := by
        have := R.out.cellAt j (by omega)
        rw [this]
        have hl : j < (fill L j).length := by rw [fill_len]; exact hlt'
        exact ⟨(fill L j)[j], by simp [bvs, List.getElem?_map, List.getElem?_eq_getElem hl]⟩
      obtain ⟨z, q1⟩ := q1
      have q2 : wr.frozen? ⟨w.heap.size, j, none⟩ = false := R.out.frozenAt j
      have R' : Hid ((wr.setCell ⟨w.heap.size, j, none⟩ (bv (L.getD j 0))).ownsRow w.heap.size 5 1 (.slice (some ⟨w.heap.size, 0, none⟩) n n) n (bvs (fill L (j + 1)))) := by
        show World.ownsRow _ _ _ _ _ _ _
        rw [← fill_set, ← bvs_set]
        exact (R.out.stored j _).1
      have B' : Hid (Below w.heap.size w (wr.setCell ⟨w.heap.size, j, none⟩ (bv (L.getD j 0)))) := BB.out.setCell (p := ⟨w.heap.size, j, none⟩) (Nat.le_refl _) _
      generalize L.getD j 0 = x at *
      go_wp2_with fail
      go_roundw
      case rel => exact ⟨j + 1, by omega, by go_num, R', B'⟩
      case measure => simp [intOf]; omega
    · have hjn : j = n := by omega
      subst hjn
      have RE : Hid (Reads wr (.slice (some ⟨w.heap.size, 0, none⟩) j j) L) := by
        show Reads _ _ _
        have := R.out
        rw [HN.out, fill_all] at this
        rw [HN.out]
        exact reads_of_row this (by rw [← HN.out]; unfold maxLen; omega)
      clear R
      go_wp2_with fail
      go_ret
      exact ⟨_, rfl, RE.out, BB.out⟩
end Go.Proofs.YtcfhfkoiiehhiaaDoor.Ru
