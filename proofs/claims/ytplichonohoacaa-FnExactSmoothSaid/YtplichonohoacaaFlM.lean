/- Lists of floats that a call owns: copied, marked. -/
import Derived.Test.YtplichonohoacaaPr
import Derived.Test.YtplichonohoacaaFltX
import Derived.OwnWalk
import Derived.WalkSmall
import Derived.Laws.OwnMore
import Derived.Deep.QuietTactic
import Derived.BigQuiet
namespace Go.Proofs.Ytplichonohoacaa.Fls
open Go.ChangeShapes Go.WideShapes Go.ChangeAt Go.RowKit Go.Deep
open Go.Proofs.Ytplichonohoacaa.Flt
attribute [local go_sem] run_store_flt

set_option maxHeartbeats 1000000 in
theorem to_own (w : World) (v : Value) (L : List Nat) (h : Reads w v L) (hl : L.length ≤ 1048576) :
    Calls Try.prog 7 #[v] w fun e w' => e = .returned (.slice (some ⟨w.heap.size, 0, none⟩) L.length L.length) ∧ w'.ownsRow w.heap.size 37 1 (.slice (some ⟨w.heap.size, 0, none⟩) L.length L.length) L.length (flts L) ∧ Below w.heap.size w w' := by
  obtain ⟨i0, hi, hz0, hz1, hz2⟩ := info_parts Try.info37
  have hcell : ∃ f : Nat → Nat × Nat, (∀ i, i < L.length → w.cell? ⟨(f 0).1, (f 0).2 + i, none⟩ = some (.float .f64 (L.getD i 0))) ∧ (0 < L.length → (f 0).1 < w.heap.size ∧ ∃ cap, v = .slice (some ⟨(f 0).1, (f 0).2, none⟩) L.length cap) := by
    rcases h with ⟨rfl, _⟩ | ⟨b, o, cap, h1, h2, h3, h4, h5⟩
    · exact ⟨fun _ => (0, 0), fun i hi => by simp at hi, fun hi => by simp at hi⟩
    · exact ⟨fun _ => (b, o), h5, fun _ => ⟨h4, cap, h1⟩⟩
  obtain ⟨f, hc, hv⟩ := hcell
  obtain ⟨a, cap, rfl⟩ := h.form
  have hcap : L.length ≤ 1048576 := hl
  have HC : Hid (∀ i, i < L.length → w.cell? ⟨(f 0).1, (f 0).2 + i, none⟩ = some (.float .f64 (L.getD i 0))) := hc
  have HV : Hid (0 < L.length → (f 0).1 < w.heap.size ∧ a = some ⟨(f 0).1, (f 0).2, none⟩) := fun hi => by
    obtain ⟨h1, c, h2⟩ := hv hi
    simp at h2
    exact ⟨h1, h2.1⟩
  have FZ : Hid ((madeCells (Value.float .f64 0).cells (L.length * 1)).toList = flts (fill L 0)) := fill_zero L
  obtain ⟨n, hn⟩ : ∃ n, n = L.length := ⟨_, rfl⟩
  rw [← hn] at hl FZ ⊢
  have HN : Hid (n = L.length) := hn
  clear h hc hv hn hcap
  go_enter Try.func7, Try.ntmps7
  go_wp2_with (at_make; refine wpList_make_full _ rfl _ _ 24 rfl w.heap.size 37 i0 (.float .f64 0) 1 Try.underlying24 hi hz0 hz1 .i64 .i64 (n : Int) (n : Int) n rfl rfl rfl rfl (by rw [hz2]; omega) (by unfold maxLen; omega) (Nat.le_refl _) ?_; intro w4 hown hgrow)
  rw [FZ.out] at hown
  have R0 : Hid (w4.ownsRow w.heap.size 37 1 (.slice (some ⟨w.heap.size, 0, none⟩) n n) n (flts (fill L 0))) := hown
  have B0 : Hid (Below w.heap.size w w4) := (Below.refl _ _).grown hgrow (Nat.le_refl _) (fun k hk => by cases hk)
  clear hown hgrow
  go_loopw [4] (fun c wr => ∃ j : Nat, j ≤ n ∧ c = .int .i64 j ∧ Hid (wr.ownsRow w.heap.size 37 1 (.slice (some ⟨w.heap.size, 0, none⟩) n n) n (flts (fill L j))) ∧ Hid (Below w.heap.size w wr)) (fun c _ => n - (intOf c).toNat)
  case atStart => exact ⟨0, Nat.zero_le _, rfl, R0, B0⟩
  case round =>
    obtain ⟨j, hj, rfl, R, BB⟩ := hrel
    by_cases hlt : j < n
    · have hlt' : j < L.length := by rw [← HN.out]; exact hlt
      obtain ⟨v1, v2⟩ := HV.out (by omega)
      subst v2
      have i0 : (0 : Int) ≤ (j : Int) := by omega
      have i1 : (j : Int) < (n : Int) := by omega
      have q0 : wr.cell? ⟨(f 0).1, (f 0).2 + j, none⟩ = some (.float .f64 (L.getD j 0)) := (BB.out.cell (p := ⟨(f 0).1, (f 0).2 + j, none⟩) v1).trans (HC.out j hlt')
      have q1 : ∃ z, wr.cell? ⟨w.heap.size, j, none⟩ = some (.float .f64 z) := by
        have := R.out.cellAt j (by omega)
        rw [this]
        have hl : j < (fill L j).length := by rw [fill_len]; exact hlt'
        exact ⟨(fill L j)[j], by simp [flts, List.getElem?_map, List.getElem?_eq_getElem hl]⟩
      obtain ⟨z, q1⟩ := q1
      have q2 : wr.frozen? ⟨w.heap.size, j, none⟩ = false := R.out.frozenAt j
      have R' : Hid ((wr.setCell ⟨w.heap.size, j, none⟩ (.float .f64 (L.getD j 0))).ownsRow w.heap.size 37 1 (.slice (some ⟨w.heap.size, 0, none⟩) n n) n (flts (fill L (j + 1)))) := by
        show World.ownsRow _ _ _ _ _ _ _
        rw [← fill_set, ← flts_set]
        exact (R.out.stored j _).1
      have B' : Hid (Below w.heap.size w (wr.setCell ⟨w.heap.size, j, none⟩ (.float .f64 (L.getD j 0)))) := BB.out.setCell (p := ⟨w.heap.size, j, none⟩) (Nat.le_refl _) _
      generalize L.getD j 0 = x at *
      go_wp2_with fail
      go_roundw
      case rel => exact ⟨j + 1, by omega, by go_num, R', B'⟩
      case measure => simp [intOf]; omega
    · have hjn : j = n := by omega
      subst hjn
      have RE : Hid (wr.ownsRow w.heap.size 37 1 (.slice (some ⟨w.heap.size, 0, none⟩) j j) j (flts L)) := by
        show World.ownsRow _ _ _ _ _ _ _
        have := R.out
        rw [HN.out, fill_all] at this
        rw [HN.out]
        exact this
      clear R
      go_wp2_with fail
      go_ret
      exact ⟨rfl, RE.out, BB.out⟩
def fi (n : Int) : Nat := floatOfInt .f64 n
def mid (k0 : Int) (L : List Nat) (j : Nat) : List Nat := (List.range L.length).map fun (i : Nat) => if i < j then fi (k0 + (i : Int)) else L.getD i 0
def sq (k0 : Int) (n : Nat) : List Nat := (List.range n).map fun (i : Nat) => fi (k0 + (i : Int))
theorem mid_len (k0 : Int) (L : List Nat) (j : Nat) : (mid k0 L j).length = L.length := by simp [mid]
theorem sq_len (k0 : Int) (n : Nat) : (sq k0 n).length = n := by simp [sq]
theorem mid_zero (k0 : Int) (L : List Nat) : mid k0 L 0 = L := by
  apply List.ext_getElem (mid_len _ _ _)
  intro i h1 h2
  simp [mid, List.getElem?_eq_getElem h2]
theorem mid_all (k0 : Int) (L : List Nat) : mid k0 L L.length = sq k0 L.length := by
  apply List.ext_getElem (by rw [mid_len, sq_len])
  intro i h1 h2
  rw [mid_len] at h1
  simp [mid, sq, h1]
theorem mid_set (k0 : Int) (L : List Nat) (j : Nat) : (mid k0 L j).set j (fi (k0 + (j : Int))) = mid k0 L (j + 1) := by
  apply List.ext_getElem (by rw [List.length_set, mid_len, mid_len])
  intro i h1 h2
  rw [mid_len] at h2
  rw [List.getElem_set]
  by_cases e : j = i
  · subst e; simp [mid]
  · rw [if_neg e]
    simp only [mid, List.getElem_map, List.getElem_range]
    by_cases x : i < j
    · rw [if_pos x, if_pos (by omega)]
    · rw [if_neg x, if_neg (by omega)]
theorem sq_get (k0 : Int) (n i : Nat) (h : i < n) : (sq k0 n).getD i 0 = fi (k0 + (i : Int)) := by simp [sq, List.getD_eq_getElem?_getD, h]

attribute [local go_sem] run_store_flt

set_option maxHeartbeats 1000000 in
theorem mark_any (w : World) (base : Nat) (v : Value) (L : List Nat) (k0 : Int) (hk0 : 0 ≤ k0) (hk1 : k0 ≤ 1000000) (hn : L.length ≤ 2000000) (h : w.ownsRow base 37 1 v L.length (flts L)) :
    Calls Try.prog 10 #[v, .int .i64 k0] w fun e w' => e = .returned (.int .i64 (k0 + L.length)) ∧ w'.ownsRow base 37 1 v L.length (flts (sq k0 L.length)) ∧ w.grownBy w' v.ownBlock := by
  rcases row_cases h with ⟨rfl, rfl⟩ | ⟨g, c, rfl, _, _, x1, x2⟩
  · go_enter Try.func10, Try.ntmps10
    go_wp2
    go_loop [1, 5] (fun k i => k = .int .i64 k0 ∧ i = .int .i64 0) (fun _ _ => 0)
    case atStart => exact ⟨rfl, rfl⟩
    case round =>
      obtain ⟨rfl, rfl⟩ := hrel
      go_wp2
      go_ret
      exact ⟨by simp, h, World.grownBy.refl _ _⟩
  · have e0 : flts L = flts (mid k0 L 0) := by rw [mid_zero]
    have R0 : Hid (w.ownsRow base 37 1 (.slice (some ⟨g, 0, none⟩) L.length c) L.length (flts (mid k0 L 0))) := (by show World.ownsRow _ _ _ _ _ _ _; rw [← e0]; exact h)
    obtain ⟨n, hn'⟩ : ∃ n, n = L.length := ⟨_, rfl⟩
    rw [← hn'] at x1 hn R0 ⊢
    have HN : Hid (n = L.length) := hn'
    unfold maxLen at x2
    clear h e0 hn'
    go_enter Try.func10, Try.ntmps10
    go_wp2
    go_loopw [1, 5] (fun k i wr => ∃ j : Nat, j ≤ n ∧ k = .int .i64 (k0 + j) ∧ i = .int .i64 j ∧ Hid (wr.ownsRow base 37 1 (.slice (some ⟨g, 0, none⟩) n c) n (flts (mid k0 L j))) ∧ Hid (w.grownBy wr (some g))) (fun _ i _ => n - (intOf i).toNat)
    case atStart => exact ⟨0, Nat.zero_le _, by simp, rfl, R0, World.grownBy.refl _ _⟩
    case round =>
      obtain ⟨j, hj, rfl, rfl, R, G⟩ := hrel
      by_cases hlt : j < n
      · have i0 : (0 : Int) ≤ (j : Int) := by omega
        have i1 : (j : Int) < (n : Int) := by omega
        have q1 : ∃ z, wr.cell? ⟨g, j, none⟩ = some (.float .f64 z) := by
          have := R.out.cellAt j (by omega)
          rw [this]
          have hl : j < (mid k0 L j).length := by rw [mid_len, ← HN.out]; exact hlt
          exact ⟨(mid k0 L j)[j], by simp [flts, List.getElem?_map, List.getElem?_eq_getElem hl]⟩
        obtain ⟨z, q1⟩ := q1
        have q2 : wr.frozen? ⟨g, j, none⟩ = false := R.out.frozenAt j
        have R' : Hid ((wr.setCell ⟨g, j, none⟩ (.float .f64 (floatOfInt .f64 (k0 + j)))).ownsRow base 37 1 (.slice (some ⟨g, 0, none⟩) n c) n (flts (mid k0 L (j + 1)))) := by
          show World.ownsRow _ _ _ _ _ _ _
          rw [← mid_set, ← flts_set]
          exact (R.out.stored j _).1
        have G' : Hid (w.grownBy (wr.setCell ⟨g, j, none⟩ (.float .f64 (floatOfInt .f64 (k0 + j)))) (some g)) := Pr.grown_setCell G.out j _
        go_wp2_with fail
        go_roundw
        case rel => exact ⟨j + 1, by omega, by go_num, by go_num, R', G'⟩
        case measure => simp [intOf]; omega
      · have hjn : j = n := by omega
        subst hjn
        have R' : wr.ownsRow base 37 1 (.slice (some ⟨g, 0, none⟩) j c) j (flts (sq k0 j)) := by
          have := R.out
          rw [HN.out, mid_all] at this
          rw [HN.out]
          exact this
        have RH : Hid (wr.ownsRow base 37 1 (.slice (some ⟨g, 0, none⟩) j c) j (flts (sq k0 j))) := R'
        clear R' R
        go_wp2
        go_ret
        exact ⟨rfl, RH.out, G.out⟩

end Go.Proofs.Ytplichonohoacaa.Fls
