/- Lists of floats: read, compared up to which missing number, copied, opened as an argument. -/
import Derived.Test.YtfjkchkcgnjkaaaNanC
import Derived.WalkKit
import Derived.ProofKit
import Derived.Below
import Derived.OwnWalk
import Derived.WalkSmall
import Derived.Laws.OwnMore
import Derived.Deep.QuietTactic
import Derived.BigQuiet
import Derived.Deep.RegionHeld3
import Derived.Deep.Slices
import Derived.Laws.Cover2
namespace Go.Proofs.Ytfjkchkcgnjkaaa.Fls
open Go.ChangeShapes Go.WideShapes Go.ChangeAt Go.RowKit Go.Deep
open Go.Proofs.Ytfjkchkcgnjkaaa.Flt

abbrev flts (L : List Nat) : List Value := L.map (Value.float .f64)

theorem row_cases {w : World} {base : Nat} {v : Value} {L : List Nat} (h : w.ownsRow base 31 1 v L.length (flts L)) :
    (L = [] ∧ v = .slice none 0 0) ∨ ∃ g cap, v = .slice (some ⟨g, 0, none⟩) L.length cap ∧ base ≤ g ∧ g < w.heap.size ∧ L.length ≤ cap ∧ cap ≤ maxLen := by
  obtain ⟨h0, h⟩ := h
  rcases h with ⟨rfl, hn⟩ | ⟨g, cap, cur, rfl, hb, hh, hc, hm, _⟩
  · exact Or.inl ⟨List.eq_nil_of_length_eq_zero hn, rfl⟩
  · refine Or.inr ⟨g, cap, rfl, hb, ?_, hc, hm⟩
    by_cases x : g < w.heap.size
    · exact x
    · rw [Array.getElem?_eq_none (by omega)] at hh; cases hh

def Reads (w : World) (v : Value) (L : List Nat) : Prop :=
  (L = [] ∧ ∃ a cap, v = .slice a 0 cap) ∨ ∃ b o cap, v = .slice (some ⟨b, o, none⟩) L.length cap ∧ L.length ≤ cap ∧ cap ≤ maxLen ∧ b < w.heap.size ∧ ∀ i, i < L.length → w.cell? ⟨b, o + i, none⟩ = some (.float .f64 (L.getD i 0))
theorem Reads.form {w : World} {v : Value} {L : List Nat} (h : Reads w v L) : ∃ a cap, v = .slice a L.length cap := by
  rcases h with ⟨rfl, a, cap, rfl⟩ | ⟨b, o, cap, rfl, _⟩
  · exact ⟨_, _, rfl⟩
  · exact ⟨_, _, rfl⟩
theorem Reads.on {w w' : World} {v : Value} {L : List Nat} (h : Reads w v L) (hb : Below w.heap.size w w') : Reads w' v L := by
  rcases h with ⟨rfl, a, cap, rfl⟩ | ⟨b, o, cap, rfl, h1, h2, h3, h4⟩
  · exact .inl ⟨rfl, _, _, rfl⟩
  · exact .inr ⟨b, o, cap, rfl, h1, h2, Nat.lt_of_lt_of_le h3 hb.size, fun i hi => (hb.cell (p := ⟨b, o + i, none⟩) h3).trans (h4 i hi)⟩
theorem row_cell {w : World} {base g cap : Nat} {L : List Nat} (h : w.ownsRow base 31 1 (.slice (some ⟨g, 0, none⟩) L.length cap) L.length (flts L)) (i : Nat) (hi : i < L.length) : w.cell? ⟨g, i, none⟩ = some (.float .f64 (L.getD i 0)) := by
  have := h.cellAt i (by omega)
  rw [this]
  simp [flts, List.getElem?_map, List.getElem?_eq_getElem hi]
theorem reads_row {w : World} {base : Nat} {v : Value} {L : List Nat} (h : w.ownsRow base 31 1 v L.length (flts L)) : Reads w v L := by
  rcases row_cases h with ⟨rfl, rfl⟩ | ⟨g, cap, rfl, h1, h2, h3, h4⟩
  · exact .inl ⟨rfl, _, _, rfl⟩
  · exact .inr ⟨g, 0, cap, rfl, h3, h4, h2, fun i hi => by rw [Nat.zero_add]; exact row_cell h i hi⟩

theorem cn_at {L M : List Nat} (h : L.map cn = M.map cn) (k : Nat) : cn (L.getD k 0) = cn (M.getD k 0) := by
  have e1 : (L.map cn).getD k (cn 0) = cn (L.getD k 0) := by simp [List.getD_eq_getElem?_getD, List.getElem?_map, Option.getD_map]
  have e2 : (M.map cn).getD k (cn 0) = cn (M.getD k 0) := by simp [List.getD_eq_getElem?_getD, List.getElem?_map, Option.getD_map]
  rw [← e1, ← e2, h]
theorem cn_length {L M : List Nat} (h : L.map cn = M.map cn) : L.length = M.length := by
  have := congrArg List.length h
  simpa using this

set_option maxHeartbeats 1000000 in
theorem eq_cn (w : World) (v1 v2 : Value) (L M : List Nat) (hc : L.map cn = M.map cn) (h1 : Reads w v1 L) (h2 : Reads w v2 M) :
    Calls Try.prog 8 #[v1, v2] w fun e w' => e = .returned (.bool true) ∧ ∃ n, w' = w.drewN n := by
  have hl := cn_length hc
  by_cases hL : L = []
  · subst hL
    have hM : M = [] := List.eq_nil_of_length_eq_zero hl.symm
    subst hM
    obtain ⟨a, cap, rfl⟩ := h1.form
    obtain ⟨a2, cap2, rfl⟩ := h2.form
    go_enter Try.func8, Try.ntmps8
    go_wp2
    go_loop [5] (fun i => i = .int .i64 0) (fun _ => 0)
    case atStart => rfl
    case round =>
      subst hrel
      go_wp2
      go_ret
      exact ⟨rfl, 0, rfl⟩
  · rcases h1 with ⟨e, _⟩ | ⟨b1, o1, c1, rfl, x1, x2, x3, x4⟩
    · exact absurd e hL
    rcases h2 with ⟨e, _⟩ | ⟨b2, o2, c2, rfl, y1, y2, y3, y4⟩
    · subst e; exact absurd (List.eq_nil_of_length_eq_zero hl) hL
    have K1 : Hid (∀ i, i < L.length → w.cell? ⟨b1, o1 + i, none⟩ = some (.float .f64 (L.getD i 0))) := x4
    have K2 : Hid (∀ i, i < M.length → w.cell? ⟨b2, o2 + i, none⟩ = some (.float .f64 (M.getD i 0))) := y4
    have KC : Hid (∀ k, cn (L.getD k 0) = cn (M.getD k 0)) := cn_at hc
    obtain ⟨n, hn⟩ : ∃ n, n = L.length := ⟨_, rfl⟩
    rw [← hl, ← hn] at y1 ⊢
    rw [← hn] at x1
    have HN : Hid (n = L.length) := hn
    have HM : Hid (n = M.length) := hn.trans hl
    unfold maxLen at x2 y2
    clear x4 y4 hn hL hl hc
    go_enter Try.func8, Try.ntmps8
    go_wp2
    go_loopw [5] (fun i wr => ∃ k m : Nat, k ≤ n ∧ i = .int .i64 k ∧ Hid (wr = w.drewN m)) (fun i _ => n - (intOf i).toNat)
    case atStart => exact ⟨0, 0, Nat.zero_le _, rfl, rfl⟩
    case round =>
      obtain ⟨k, m, hk, rfl, HR⟩ := hrel
      by_cases hlt : k < n
      · have q1 : wr.cell? ⟨b1, o1 + k, none⟩ = some (.float .f64 (L.getD k 0)) := by rw [HR.out]; exact K1.out k (by rw [← HN.out]; exact hlt)
        have q2 : wr.cell? ⟨b2, o2 + k, none⟩ = some (.float .f64 (M.getD k 0)) := by rw [HR.out]; exact K2.out k (by rw [← HM.out]; exact hlt)
        have HZ : Hid (cn (L.getD k 0) = cn (M.getD k 0)) := KC.out k
        have i0 : (0 : Int) ≤ (k : Int) := by omega
        have i1 : (k : Int) < (n : Int) := by omega
        generalize L.getD k 0 = z at *
        generalize M.getD k 0 = z2 at *
        go_wp2_with fail
        go_quiet ((go_at_call 17; exact Calls.quiet_of_same (sf_cn _ _ _ HZ.out)))
        go_wp2_with fail
        go_roundw
        case rel => exact ⟨k + 1, m + nq, by omega, by go_num, (by show _ = _; rw [HR.out]; exact World.drewN_drewN _ _ _)⟩
        case measure => simp [intOf]; omega
      · go_wp2
        go_ret
        exact ⟨rfl, m, HR.out⟩

theorem Try.info31 : (Try.prog.info? 31).map (fun i => (i.zero, i.size, i.bytes)) = some (some (.float .f64 0), 1, 8) := by kernel_rfl
def fill (L : List Nat) (j : Nat) : List Nat := (List.range L.length).map fun i => if i < j then L.getD i 0 else 0
theorem fill_len (L : List Nat) (j : Nat) : (fill L j).length = L.length := by simp [fill]
theorem fill_zero (L : List Nat) : (madeCells (Value.float .f64 0).cells (L.length * 1)).toList = flts (fill L 0) := by
  apply List.ext_getElem
  · simp [madeCells, flts, fill]
  · intro i h1 h2
    simp [madeCells, flts, fill, Value.cells, Nat.mod_one]
theorem fill_all (L : List Nat) : fill L L.length = L := by
  apply List.ext_getElem (fill_len _ _)
  intro i h1 h2
  simp [fill, h2]
theorem fill_set (L : List Nat) (j : Nat) : (fill L j).set j (L.getD j 0) = fill L (j + 1) := by
  apply List.ext_getElem (by rw [List.length_set, fill_len, fill_len])
  intro i h1 h2
  rw [List.getElem_set]
  by_cases e : j = i
  · subst e; simp [fill]
  · rw [if_neg e]
    simp only [fill, List.getElem_map, List.getElem_range]
    by_cases x : i < j
    · rw [if_pos x, if_pos (by omega)]
    · rw [if_neg x, if_neg (by omega)]
theorem flts_set (L : List Nat) (j x : Nat) : (flts L).set j (.float .f64 x) = flts (L.set j x) := by simp [flts, List.map_set]

theorem reads_of_row {w : World} {base g : Nat} {L : List Nat} (h : w.ownsRow base 31 1 (.slice (some ⟨g, 0, none⟩) L.length L.length) L.length (flts L)) (hm : L.length ≤ maxLen) : Reads w (.slice (some ⟨g, 0, none⟩) L.length L.length) L := by
  refine Or.inr ⟨g, 0, L.length, rfl, Nat.le_refl _, hm, (h.lt g rfl).2, fun i hi => ?_⟩
  rw [Nat.zero_add, h.cellAt i (by omega)]
  simp [flts, List.getElem?_map, List.getElem?_eq_getElem hi]

theorem run_store_flt {P : Program} (w : World) (a : Addr) (m : Mode) (k : FloatKind) (b : Nat) : (store a (.float k b) m).run P w = stored P w a (.float k b) m := run_store P w a _ m rfl
attribute [local go_sem] run_store_flt

variable {H : Type} {enc : TypeId × Value → H} {w : World} {base : Nat} {spare : Nat → Bool} {held : Bool}

theorem cells31 : Try.prog.cellsOf 31 = 1 := by kernel_rfl

end Go.Proofs.Ytfjkchkcgnjkaaa.Fls
