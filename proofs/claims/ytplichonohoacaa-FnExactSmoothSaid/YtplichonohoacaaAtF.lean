/- Lists of floats: read, compared up to which missing number, copied, opened as an argument. -/
import Derived.Test.YtplichonohoacaaNanC
import Derived.WalkKit
import Derived.ProofKit
import Derived.Below
import Derived.OwnWalk
import Derived.WalkSmall
import Derived.Laws.OwnMore
import Derived.Deep.QuietTactic
import Derived.BigQuiet
import Derived.Deep.RegionHeld3
import Derived.Deep.Slices
import Derived.Laws.Cover2
namespace Go.Proofs.Ytplichonohoacaa.Fls
open Go.ChangeShapes Go.WideShapes Go.ChangeAt Go.RowKit Go.Deep
open Go.Proofs.Ytplichonohoacaa.Flt

abbrev flts (L : List Nat) : List Value := L.map (Value.float .f64)

theorem row_cases {w : World} {base : Nat} {v : Value} {L : List Nat} (h : w.ownsRow base 37 1 v L.length (flts L)) :
    (L = [] ∧ v = .slice none 0 0) ∨ ∃ g cap, v = .slice (some ⟨g, 0, none⟩) L.length cap ∧ base ≤ g ∧ g < w.heap.size ∧ L.length ≤ cap ∧ cap ≤ maxLen := by
  obtain ⟨h0, h⟩ := h
  rcases h with ⟨rfl, hn⟩ | ⟨g, cap, cur, rfl, hb, hh, hc, hm, _⟩
  · exact Or.inl ⟨List.eq_nil_of_length_eq_zero hn, rfl⟩
  · refine Or.inr ⟨g, cap, rfl, hb, ?_, hc, hm⟩
    by_cases x : g < w.heap.size
    · exact x
    · rw [Array.getElem?_eq_none (by omega)] at hh; cases hh

def Reads (w : World) (v : Value) (L : List Nat) : Prop :=
  (L = [] ∧ ∃ a cap, v = .slice a 0 cap) ∨ ∃ b o cap, v = .slice (some ⟨b, o, none⟩) L.length cap ∧ L.length ≤ cap ∧ cap ≤ maxLen ∧ b < w.heap.size ∧ ∀ i, i < L.length → w.cell? ⟨b, o + i, none⟩ = some (.float .f64 (L.getD i 0))
theorem Reads.form {w : World} {v : Value} {L : List Nat} (h : Reads w v L) : ∃ a cap, v = .slice a L.length cap := by
  rcases h with ⟨rfl, a, cap, rfl⟩ | ⟨b, o, cap, rfl, _⟩
  · exact ⟨_, _, rfl⟩
  · exact ⟨_, _, rfl⟩
theorem Reads.on {w w' : World} {v : Value} {L : List Nat} (h : Reads w v L) (hb : Below w.heap.size w w') : Reads w' v L := by
  rcases h with ⟨rfl, a, cap, rfl⟩ | ⟨b, o, cap, rfl, h1, h2, h3, h4⟩
  · exact .inl ⟨rfl, _, _, rfl⟩
  · exact .inr ⟨b, o, cap, rfl, h1, h2, Nat.lt_of_lt_of_le h3 hb.size, fun i hi => (hb.cell (p := ⟨b, o + i, none⟩) h3).trans (h4 i hi)⟩
theorem row_cell {w : World} {base g cap : Nat} {L : List Nat} (h : w.ownsRow base 37 1 (.slice (some ⟨g, 0, none⟩) L.length cap) L.length (flts L)) (i : Nat) (hi : i < L.length) : w.cell? ⟨g, i, none⟩ = some (.float .f64 (L.getD i 0)) := by
  have := h.cellAt i (by omega)
  rw [this]
  simp [flts, List.getElem?_map, List.getElem?_eq_getElem hi]
theorem reads_row {w : World} {base : Nat} {v : Value} {L : List Nat} (h : w.ownsRow base 37 1 v L.length (flts L)) : Reads w v L := by
  rcases row_cases h with ⟨rfl, rfl⟩ | ⟨g, cap, rfl, h1, h2, h3, h4⟩
  · exact .inl ⟨rfl, _, _, rfl⟩
  · exact .inr ⟨g, 0, cap, rfl, h3, h4, h2, fun i hi => by rw [Nat.zero_add]; exact row_cell h i hi⟩

theorem cn_at {L M : List Nat} (h : L.map cn = M.map cn) (k : Nat) : cn (L.getD k 0) = cn (M.getD k 0) := by
  have e1 : (L.map cn).getD k (cn 0) = cn (L.getD k 0) := by simp [List.getD_eq_getElem?_getD, List.getElem?_map, Option.getD_map]
  have e2 : (M.map cn).getD k (cn 0) = cn (M.getD k 0) := by simp [List.getD_eq_getElem?_getD, List.getElem?_map, Option.getD_map]
  rw [← e1, ← e2, h]
theorem cn_length {L M : List Nat} (h : L.map cn = M.map cn) : L.length = M.length := by
  have := congrArg List.length h
  simpa using this

set_option maxHeartbeats 1000000 in
theorem eq_cn (w : World) (v1 v2 : Value) (L M : List Nat) (hc : L.map cn = M.map cn) (h1 : Reads w v1 L) (h2 : Reads w v2 M) :
    Calls Try.prog 9 #[v1, v2] w fun e w' => e = .returned (.bool true) ∧ ∃ n, w' = w.drewN n := by
  have hl := cn_length hc
  by_cases hL : L = []
  · subst hL
    have hM : M = [] := List.eq_nil_of_length_eq_zero hl.symm
    subst hM
    obtain ⟨a, cap, rfl⟩ := h1.form
    obtain ⟨a2, cap2, rfl⟩ := h2.form
    go_enter Try.func9, Try.ntmps9
    go_wp2
    go_loop [5] (fun i => i = .int .i64 0) (fun _ => 0)
    case atStart => rfl
    case round =>
      subst hrel
      go_wp2
      go_ret
      exact ⟨rfl, 0, rfl⟩
  · rcases h1 with ⟨e, _⟩ | ⟨b1, o1, c1, rfl, x1, x2, x3, x4⟩
    · exact absurd e hL
    rcases h2 with ⟨e, _⟩ | ⟨b2, o2, c2, rfl, y1, y2, y3, y4⟩
    · subst e; exact absurd (List.eq_nil_of_length_eq_zero hl) hL
    have K1 : Hid (∀ i, i < L.length → w.cell? ⟨b1, o1 + i, none⟩ = some (.float .f64 (L.getD i 0))) := x4
    have K2 : Hid (∀ i, i < M.length → w.cell? ⟨b2, o2 + i, none⟩ = some (.float .f64 (M.getD i 0))) := y4
    have KC : Hid (∀ k, cn (L.getD k 0) = cn (M.getD k 0)) := cn_at hc
    obtain ⟨n, hn⟩ : ∃ n, n = L.length := ⟨_, rfl⟩
    rw [← hl, ← hn] at y1 ⊢
    rw [← hn] at x1
    have HN : Hid (n = L.length) := hn
    have HM : Hid (n = M.length) := hn.trans hl
    unfold maxLen at x2 y2
    clear x4 y4 hn hL hl hc
    go_enter Try.func9, Try.ntmps9
    go_wp2
    go_loopw [5] (fun i wr => ∃ k m : Nat, k ≤ n ∧ i = .int .i64 k ∧ Hid (wr = w.drewN m)) (fun i _ => n - (intOf i).toNat)
    case atStart => exact ⟨0, 0, Nat.zero_le _, rfl, rfl⟩
    case round =>
      obtain ⟨k, m, hk, rfl, HR⟩ := hrel
      by_cases hlt : k < n
      · have q1 : wr.cell? ⟨b1, o1 + k, none⟩ = some (.float .f64 (L.getD k 0)) := by rw [HR.out]; exact K1.out k (by rw [← HN.out]; exact hlt)
        have q2 : wr.cell? ⟨b2, o2 + k, none⟩ = some (.float .f64 (M.getD k 0)) := by rw [HR.out]; exact K2.out k (by rw [← HM.out]; exact hlt)
        have HZ : Hid (cn (L.getD k 0) = cn (M.getD k 0)) := KC.out k
        have i0 : (0 : Int) ≤ (k : Int) := by omega
        have i1 : (k : Int) < (n : Int) := by omega
        generalize L.getD k 0 = z at *
        generalize M.getD k 0 = z2 at *
        go_wp2_with fail
        go_quiet ((go_at_call 26; exact Calls.quiet_of_same (sf_cn _ _ _ HZ.out)))
        go_wp2_with fail
        go_roundw
        case rel => exact ⟨k + 1, m + nq, by omega, by go_num, (by show _ = _; rw [HR.out]; exact World.drewN_drewN _ _ _)⟩
        case measure => simp [intOf]; omega
      · go_wp2
        go_ret
        exact ⟨rfl, m, HR.out⟩

theorem Try.info37 : (Try.prog.info? 37).map (fun i => (i.zero, i.size, i.bytes)) = some (some (.float .f64 0), 1, 8) := by kernel_rfl
def fill (L : List Nat) (j : Nat) : List Nat := (List.range L.length).map fun i => if i < j then L.getD i 0 else 0
theorem fill_len (L : List Nat) (j : Nat) : (fill L j).length = L.length := by simp [fill]
theorem fill_zero (L : List Nat) : (madeCells (Value.float .f64 0).cells (L.length * 1)).toList = flts (fill L 0) := by
  apply List.ext_getElem
  · simp [madeCells, flts, fill]
  · intro i h1 h2
    simp [madeCells, flts, fill, Value.cells, Nat.mod_one]
theorem fill_all (L : List Nat) : fill L L.length = L := by
  apply List.ext_getElem (fill_len _ _)
  intro i h1 h2
  simp [fill, h2]
theorem fill_set (L : List Nat) (j : Nat) : (fill L j).set j (L.getD j 0) = fill L (j + 1) := by
  apply List.ext_getElem (by rw [List.length_set, fill_len, fill_len])
  intro i h1 h2
  rw [List.getElem_set]
  by_cases e : j = i
  · subst e; simp [fill]
  · rw [if_neg e]
    simp only [fill, List.getElem_map, List.getElem_range]
    by_cases x : i < j
    · rw [if_pos x, if_pos (by omega)]
    · rw [if_neg x, if_neg (by omega)]
theorem flts_set (L : List Nat) (j x : Nat) : (flts L).set j (.float .f64 x) = flts (L.set j x) := by simp [flts, List.map_set]

theorem reads_of_row {w : World} {base g : Nat} {L : List Nat} (h : w.ownsRow base 37 1 (.slice (some ⟨g, 0, none⟩) L.length L.length) L.length (flts L)) (hm : L.length ≤ maxLen) : Reads w (.slice (some ⟨g, 0, none⟩) L.length L.length) L := by
  refine Or.inr ⟨g, 0, L.length, rfl, Nat.le_refl _, hm, (h.lt g rfl).2, fun i hi => ?_⟩
  rw [Nat.zero_add, h.cellAt i (by omega)]
  simp [flts, List.getElem?_map, List.getElem?_eq_getElem hi]

theorem run_store_flt {P : Program} (w : World) (a : Addr) (m : Mode) (k : FloatKind) (b : Nat) : (store a (.float k b) m).run P w = stored P w a (.float k b) m := run_store P w a _ m rfl
attribute [local go_sem] run_store_flt

set_option maxHeartbeats 1000000 in
theorem to_any (w : World) (v : Value) (L : List Nat) (h : Reads w v L) (hl : L.length ≤ 1048576) :
    Calls Try.prog 7 #[v] w fun e w' => ∃ v', e = .returned v' ∧ Reads w' v' L ∧ Below w.heap.size w w' := by
  obtain ⟨i0, hi, hz0, hz1, hz2⟩ := info_parts Try.info37
  have hcell : ∃ f : Nat → Nat × Nat, (∀ i, i < L.length → w.cell? ⟨(f 0).1, (f 0).2 + i, none⟩ = some (.float .f64 (L.getD i 0))) ∧ (0 < L.length → (f 0).1 < w.heap.size ∧ ∃ cap, v = .slice (some ⟨(f 0).1, (f 0).2, none⟩) L.length cap) := by
    rcases h with ⟨rfl, _⟩ | ⟨b, o, cap, h1, h2, h3, h4, h5⟩
    · exact ⟨fun _ => (0, 0), fun i hi => by simp at hi, fun hi => by simp at hi⟩
    · exact ⟨fun _ => (b, o), h5, fun _ => ⟨h4, cap, h1⟩⟩
  obtain ⟨f, hc, hv⟩ := hcell
  obtain ⟨a, cap, rfl⟩ := h.form
  have hcap : L.length ≤ 1048576 := hl
  have HC : Hid (∀ i, i < L.length → w.cell? ⟨(f 0).1, (f 0).2 + i, none⟩ = some (.float .f64 (L.getD i 0))) := hc
  have HV : Hid (0 < L.length → (f 0).1 < w.heap.size ∧ a = some ⟨(f 0).1, (f 0).2, none⟩) := fun hi => by
    obtain ⟨h1, c, h2⟩ := hv hi
    simp at h2
    exact ⟨h1, h2.1⟩
  have FZ : Hid ((madeCells (Value.float .f64 0).cells (L.length * 1)).toList = flts (fill L 0)) := fill_zero L
  obtain ⟨n, hn⟩ : ∃ n, n = L.length := ⟨_, rfl⟩
  rw [← hn] at hl FZ ⊢
  have HN : Hid (n = L.length) := hn
  clear h hc hv hn hcap
  go_enter Try.func7, Try.ntmps7
  go_wp2_with (at_make; refine wpList_make_full _ rfl _ _ 24 rfl w.heap.size 37 i0 (.float .f64 0) 1 Try.underlying24 hi hz0 hz1 .i64 .i64 (n : Int) (n : Int) n rfl rfl rfl rfl (by rw [hz2]; omega) (by unfold maxLen; omega) (Nat.le_refl _) ?_; intro w4 hown hgrow)
  rw [FZ.out] at hown
  have R0 : Hid (w4.ownsRow w.heap.size 37 1 (.slice (some ⟨w.heap.size, 0, none⟩) n n) n (flts (fill L 0))) := hown
  have B0 : Hid (Below w.heap.size w w4) := (Below.refl _ _).grown hgrow (Nat.le_refl _) (fun k hk => by cases hk)
  clear hown hgrow
  go_loopw [4] (fun c wr => ∃ j : Nat, j ≤ n ∧ c = .int .i64 j ∧ Hid (wr.ownsRow w.heap.size 37 1 (.slice (some ⟨w.heap.size, 0, none⟩) n n) n (flts (fill L j))) ∧ Hid (Below w.heap.size w wr)) (fun c _ => n - (intOf c).toNat)
  case atStart => exact ⟨0, Nat.zero_le _, rfl, R0, B0⟩
  case round =>
    obtain ⟨j, hj, rfl, R, BB⟩ := hrel
    by_cases hlt : j < n
    · have hlt' : j < L.length := by rw [← HN.out]; exact hlt
      obtain ⟨v1, v2⟩ := HV.out (by omega)
      subst v2
      have i0 : (0 : Int) ≤ (j : Int) := by omega
      have i1 : (j : Int) < (n : Int) := by omega
      have q0 : wr.cell? ⟨(f 0).1, (f 0).2 + j, none⟩ = some (.float .f64 (L.getD j 0)) := (BB.out.cell (p := ⟨(f 0).1, (f 0).2 + j, none⟩) v1).trans (HC.out j hlt')
      have q1 : ∃ z, wr.cell? ⟨w.heap.size, j, none⟩ = some (.float .f64 z) := by
        have := R.out.cellAt j (by omega)
        rw [this]
        have hl : j < (fill L j).length := by rw [fill_len]; exact hlt'
        exact ⟨(fill L j)[j], by simp [flts, List.getElem?_map, List.getElem?_eq_getElem hl]⟩
      obtain ⟨z, q1⟩ := q1
      have q2 : wr.frozen? ⟨w.heap.size, j, none⟩ = false := R.out.frozenAt j
      have R' : Hid ((wr.setCell ⟨w.heap.size, j, none⟩ (.float .f64 (L.getD j 0))).ownsRow w.heap.size 37 1 (.slice (some ⟨w.heap.size, 0, none⟩) n n) n (flts (fill L (j + 1)))) := by
        show World.ownsRow _ _ _ _ _ _ _
        rw [← fill_set, ← flts_set]
        exact (R.out.stored j _).1
      have B' : Hid (Below w.heap.size w (wr.setCell ⟨w.heap.size, j, none⟩ (.float .f64 (L.getD j 0)))) := BB.out.setCell (p := ⟨w.heap.size, j, none⟩) (Nat.le_refl _) _
      generalize L.getD j 0 = x at *
      go_wp2_with fail
      go_roundw
      case rel => exact ⟨j + 1, by omega, by go_num, R', B'⟩
      case measure => simp [intOf]; omega
    · have hjn : j = n := by omega
      subst hjn
      have RE : Hid (Reads wr (.slice (some ⟨w.heap.size, 0, none⟩) j j) L) := by
        show Reads _ _ _
        have := R.out
        rw [HN.out, fill_all] at this
        rw [HN.out]
        exact reads_of_row this (by rw [← HN.out]; unfold maxLen; omega)
      clear R
      go_wp2_with fail
      go_ret
      exact ⟨_, rfl, RE.out, BB.out⟩
variable {H : Type} {enc : TypeId × Value → H} {w : World} {base : Nat} {spare : Nat → Bool} {held : Bool}

theorem cells37 : Try.prog.cellsOf 37 = 1 := by kernel_rfl

theorem float_of_trod {fuel : Nat} {c : Value} {y : DataW H × List MemPlace} (h : DataW.trod enc Try.prog w base spare held fuel 37 [c] = some y) : ∃ b, c = .float .f64 b ∧ b < 18446744073709551616 := by
  cases fuel with
  | zero => simp [DataW.trod] at h
  | succ n =>
    cases c <;> simp [DataW.trod, Try.underlying37] at h
    rename_i k b
    obtain ⟨⟨rfl, hb⟩, _⟩ := h
    exact ⟨b, rfl, by simpa [Lit.wf] using hb⟩

theorem openFloats {v : Value} {fuel : Nat} {x : DataW H × List MemPlace} {a : Option Addr} {len cap : Nat} (hv : v = .slice a len cap) (h : DataW.trod enc Try.prog w base spare held fuel 24 v.cells.toList = some x) :
    ∃ L : List Nat, Reads w v L ∧ ∀ z ∈ L, z < 18446744073709551616 := by
  subst hv
  rcases open_slice Try.underlying24 h with ⟨hcs, _⟩ | ⟨ad, l, c, m, n, D, Pl, hcs, _, hl, hm, hmm, _, hel⟩
  · simp [Value.cells] at hcs
    obtain ⟨rfl, rfl, rfl⟩ := hcs
    exact ⟨[], Or.inl ⟨rfl, _, _, rfl⟩, fun z hz => by simp at hz⟩
  · simp [Value.cells] at hcs
    obtain ⟨rfl, rfl, rfl⟩ := hcs
    have hle : len ≤ m := by rw [hmm]; split <;> omega
    have hone : ∀ i, i < len → ∃ b, w.cell? (ad.add i) = some (.float .f64 b) ∧ b < 18446744073709551616 := by
      intro i hi
      obtain ⟨cs', h1, h2⟩ := hel i (by omega)
      rw [cells37, Nat.mul_one] at h1
      obtain ⟨c, rfl⟩ : ∃ c, cs' = [c] := by
        have hl := (World.cells?_some h1).2.1
        clear h1 h2
        match cs', hl with
        | [c], _ => exact ⟨c, rfl⟩
      obtain ⟨b, rfl, hb⟩ := float_of_trod h2
      exact ⟨b, cell_of_cells?_one h1, hb⟩
    have hf : ∃ f : Nat → Nat, ∀ i, i < len → w.cell? (ad.add i) = some (.float .f64 (f i)) ∧ f i < 18446744073709551616 :=
      ⟨fun i => if h : i < len then Classical.choose (hone i h) else 0, fun i hi => by simp only [hi, dif_pos]; exact Classical.choose_spec (hone i hi)⟩
    obtain ⟨f, hf⟩ := hf
    have hlen : ((List.range len).map f).length = len := by simp
    refine ⟨(List.range len).map f, ?_, fun z hz => ?_⟩
    · by_cases h0 : len = 0
      · subst h0
        exact Or.inl ⟨rfl, _, _, rfl⟩
      · obtain ⟨b, o, spot⟩ := ad
        have hc := (hf 0 (by omega)).1
        have hspot : spot = none := by simpa [Addr.add] using World.cell?_spot hc
        subst hspot
        refine Or.inr ⟨b, o, cap, by rw [hlen], by rw [hlen]; exact hl, hm, World.block_lt_of_cell? w _ hc, fun i hi => ?_⟩
        rw [hlen] at hi
        have := (hf i hi).1
        have e : (⟨b, o, none⟩ : Addr).add i = ⟨b, o + i, none⟩ := by
          unfold Addr.add
          split
          · rename_i h; subst h; rfl
          · rfl
        rw [e] at this
        rw [this]
        simp [hi]
    · obtain ⟨i, hi, rfl⟩ := List.mem_map.1 hz
      exact (hf i (List.mem_range.1 hi)).2
end Go.Proofs.Ytplichonohoacaa.Fls
