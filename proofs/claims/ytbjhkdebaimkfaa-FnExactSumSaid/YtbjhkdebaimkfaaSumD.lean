/- The model's sum; lists copied and held against each other. -/
import Derived.Test.YtbjhkdebaimkfaaSumC
namespace Go.Proofs.Ytbjhkdebaimkfaa.Flt
open Go.ChangeShapes Go.WideShapes Go.ChangeAt Go.RowKit

theorem Reads.form {w : World} {v : Value} {L : List Nat} (h : Reads w v L) : ∃ a cap, v = .slice a L.length cap := by
  rcases h with ⟨rfl, a, cap, rfl⟩ | ⟨b, o, cap, rfl, _⟩
  · exact ⟨_, _, rfl⟩
  · exact ⟨_, _, rfl⟩

set_option maxHeartbeats 1000000 in
theorem ssum (w : World) (v : Value) (L : List Nat) (h : Reads w v L) (hl : L.length ≤ 4000) :
    Calls Try.prog 5 #[v] w fun e w' => e = two (sumOf L).1 (sumOf L).2 ∧ ∃ m, w' = w.drewN m := by
  rcases h with ⟨rfl, a, cap, rfl⟩ | ⟨b, o, cap, rfl, h2, h3, h4, h5⟩
  · go_enter Try.func5, Try.ntmps5
    go_wp2
    go_loop [4, 5, 6] (fun s c i => s = .float .f64 0 ∧ c = .int .i64 0 ∧ i = .int .i64 0) (fun _ _ _ => 0)
    case atStart => exact ⟨rfl, rfl, rfl⟩
    case round =>
      obtain ⟨rfl, rfl, rfl⟩ := hrel
      go_wp2
      go_ret2
      exact ⟨rfl, 0, rfl⟩
  · have HC : Hid (∀ i, i < L.length → w.cell? ⟨b, o + i, none⟩ = some (.float .f64 (L.getD i 0))) := h5
    obtain ⟨n, hn⟩ : ∃ n, n = L.length := ⟨_, rfl⟩
    rw [← hn] at h2 hl ⊢
    have HN : Hid (n = L.length) := hn
    unfold maxLen at h3
    clear h5 hn
    go_enter Try.func5, Try.ntmps5
    go_wp2
    go_loopw [4, 5, 6] (fun s c i wr => ∃ k m : Nat, k ≤ n ∧ i = .int .i64 k ∧ s = .float .f64 (sumOf (L.take k)).1 ∧ c = .int .i64 (sumOf (L.take k)).2 ∧ wr = w.drewN m) (fun _ _ i _ => n - (intOf i).toNat)
    case atStart => exact ⟨0, 0, Nat.zero_le _, rfl, rfl, rfl, rfl⟩
    case round =>
      obtain ⟨k, m, hk, rfl, rfl, rfl, rfl⟩ := hrel
      by_cases hlt : k < n
      · have hlt' : k < L.length := by rw [← HN.out]; exact hlt
        have q1 := HC.out k hlt'
        have sn := sum_snoc L k hlt'
        have so := sum_ok (L.take k)
        have so2 : (sumOf (L.take k)).2 ≤ 4000 := by have := so.2; simp at this; omega
        have i0 : (0 : Int) ≤ (k : Int) := by omega
        have i1 : (k : Int) < (n : Int) := by omega
        generalize L.getD k 0 = x at *
        generalize sumOf (L.take k) = p at *
        have SN : Hid (sumOf (L.take (k + 1)) = stp p x) := sn
        clear sn
        by_cases hx : kn x = true
        · have ar := add_run p.1 x so.1 hx
          have hr : rng x < 9218868437227405312 := by unfold kn at hx; simpa using hx
          have HR : Hid (rng x < 9218868437227405312) := hr
          have e1 : stp p x = ((Ieee.double.add p.1 x).getD 0, p.2 + 1) := by unfold stp; rw [if_pos hx]
          have E1 : Hid (sumOf (L.take (k + 1)) = ((Ieee.double.add p.1 x).getD 0, p.2 + 1)) := SN.out.trans e1
          generalize (Ieee.double.add p.1 x).getD 0 = y at *
          clear so e1 SN hr hx
          go_wp2_with (go_at_call 12; refine (known_yes _ _ HR.out).mono ?_; rintro e w' ⟨rfl, hw'⟩; subst hw')
          go_roundw
          case rel => exact ⟨k + 1, m, by omega, by go_num, by rw [E1.out], by rw [E1.out]; go_num, rfl⟩
          case measure => simp [intOf]; omega
        · have hr : 9218868437227405312 ≤ rng x := by unfold kn at hx; simpa using hx
          have HR : Hid (9218868437227405312 ≤ rng x) := hr
          have e1 : stp p x = p := by unfold stp; rw [if_neg hx]
          have E1 : Hid (sumOf (L.take (k + 1)) = p) := SN.out.trans e1
          clear so e1 SN hx hr
          go_wp2_with (go_at_call 12; refine (known_no _ _ HR.out).mono ?_; rintro e w' ⟨rfl, hw'⟩; subst hw')
          go_roundw
          case rel => exact ⟨k + 1, m + 1, by omega, by go_num, by rw [E1.out], by rw [E1.out], rfl⟩
          case measure => simp [intOf]; omega
      · have e : L.take k = L := List.take_of_length_le (by rw [← HN.out]; omega)
        rw [e]
        go_wp2
        go_ret2
        exact ⟨rfl, m, rfl⟩

set_option maxHeartbeats 400000 in
theorem ssum_far (w : World) (v : Value) (L : List Nat) (h : Reads w v L) (hl : 4000 < L.length) :
    Calls Try.prog 5 #[v] w fun e w' => e = two 0 (-1) ∧ ∃ m, w' = w.drewN m := by
  obtain ⟨a, cap, rfl⟩ := h.form
  have i1 : (4000 : Int) < (L.length : Int) := by omega
  go_enter Try.func5, Try.ntmps5
  go_wp2
  go_ret2
  exact ⟨rfl, 0, rfl⟩
set_option maxHeartbeats 400000 in
theorem isum_far (w : World) (v : Value) (L : List Nat) (h : Reads w v L) (hl : 4000 < L.length) :
    Calls Try.prog 7 #[v] w fun e w' => e = two 0 (-1) ∧ w' = w := by
  obtain ⟨a, cap, rfl⟩ := h.form
  have i1 : (4000 : Int) < (L.length : Int) := by omega
  go_enter Try.func7, Try.ntmps7
  go_wp2
  go_ret2
  exact ⟨rfl, rfl⟩

set_option maxHeartbeats 1000000 in
theorem eq_same (w : World) (v1 v2 : Value) (L : List Nat) (h1 : Reads w v1 L) (h2 : Reads w v2 L) :
    Calls Try.prog 9 #[v1, v2] w fun e w' => e = .returned (.bool true) ∧ ∃ n, w' = w.drewN n := by
  by_cases hL : L = []
  · subst hL
    obtain ⟨a, cap, rfl⟩ := h1.form
    obtain ⟨a2, cap2, rfl⟩ := h2.form
    go_enter Try.func9, Try.ntmps9
    go_wp2
    go_loop [5] (fun i => i = .int .i64 0) (fun _ => 0)
    case atStart => rfl
    case round =>
      subst hrel
      go_wp2
      go_ret
      exact ⟨rfl, 0, rfl⟩
  · rcases h1 with ⟨e, _⟩ | ⟨b1, o1, c1, rfl, x1, x2, x3, x4⟩
    · exact absurd e hL
    rcases h2 with ⟨e, _⟩ | ⟨b2, o2, c2, rfl, y1, y2, y3, y4⟩
    · exact absurd e hL
    have K1 : Hid (∀ i, i < L.length → w.cell? ⟨b1, o1 + i, none⟩ = some (.float .f64 (L.getD i 0))) := x4
    have K2 : Hid (∀ i, i < L.length → w.cell? ⟨b2, o2 + i, none⟩ = some (.float .f64 (L.getD i 0))) := y4
    obtain ⟨n, hn⟩ : ∃ n, n = L.length := ⟨_, rfl⟩
    rw [← hn] at x1 y1 ⊢
    have HN : Hid (n = L.length) := hn
    unfold maxLen at x2 y2
    clear x4 y4 hn hL
    go_enter Try.func9, Try.ntmps9
    go_wp2
    go_loopw [5] (fun i wr => ∃ k m : Nat, k ≤ n ∧ i = .int .i64 k ∧ Hid (wr = w.drewN m)) (fun i _ => n - (intOf i).toNat)
    case atStart => exact ⟨0, 0, Nat.zero_le _, rfl, rfl⟩
    case round =>
      obtain ⟨k, m, hk, rfl, HR⟩ := hrel
      by_cases hlt : k < n
      · have q1 : wr.cell? ⟨b1, o1 + k, none⟩ = some (.float .f64 (L.getD k 0)) := by rw [HR.out]; exact K1.out k (by rw [← HN.out]; exact hlt)
        have q2 : wr.cell? ⟨b2, o2 + k, none⟩ = some (.float .f64 (L.getD k 0)) := by rw [HR.out]; exact K2.out k (by rw [← HN.out]; exact hlt)
        have i0 : (0 : Int) ≤ (k : Int) := by omega
        have i1 : (k : Int) < (n : Int) := by omega
        generalize L.getD k 0 = z at *
        go_wp2_with fail
        go_quiet ((go_at_call 8; exact Calls.quiet_of_same (sf_same _ _)))
        go_wp2_with fail
        go_roundw
        case rel => exact ⟨k + 1, m + nq, by omega, by go_num, (by show _ = _; rw [HR.out]; exact World.drewN_drewN _ _ _)⟩
        case measure => simp [intOf]; omega
      · go_wp2
        go_ret
        exact ⟨rfl, m, HR.out⟩

theorem Try.info23 : (Try.prog.info? 23).map (fun i => (i.zero, i.size, i.bytes)) = some (some (.float .f64 0), 1, 8) := by kernel_rfl
abbrev flts (L : List Nat) : List Value := L.map (Value.float .f64)
def fill (L : List Nat) (j : Nat) : List Nat := (List.range L.length).map fun i => if i < j then L.getD i 0 else 0
theorem fill_len (L : List Nat) (j : Nat) : (fill L j).length = L.length := by simp [fill]
theorem fill_zero (L : List Nat) : (madeCells (Value.float .f64 0).cells (L.length * 1)).toList = flts (fill L 0) := by
  apply List.ext_getElem
  · simp [madeCells, flts, fill]
  · intro i h1 h2
    simp [madeCells, flts, fill, Value.cells, Nat.mod_one]
theorem fill_all (L : List Nat) : fill L L.length = L := by
  apply List.ext_getElem (fill_len _ _)
  intro i h1 h2
  simp [fill, h2]
theorem fill_set (L : List Nat) (j : Nat) : (fill L j).set j (L.getD j 0) = fill L (j + 1) := by
  apply List.ext_getElem (by rw [List.length_set, fill_len, fill_len])
  intro i h1 h2
  rw [List.getElem_set]
  by_cases e : j = i
  · subst e; simp [fill]
  · rw [if_neg e]
    simp only [fill, List.getElem_map, List.getElem_range]
    by_cases x : i < j
    · rw [if_pos x, if_pos (by omega)]
    · rw [if_neg x, if_neg (by omega)]
theorem flts_set (L : List Nat) (j x : Nat) : (flts L).set j (.float .f64 x) = flts (L.set j x) := by simp [flts, List.map_set]

theorem reads_of_row {w : World} {base g : Nat} {L : List Nat} (h : w.ownsRow base 23 1 (.slice (some ⟨g, 0, none⟩) L.length L.length) L.length (flts L)) (hm : L.length ≤ maxLen) : Reads w (.slice (some ⟨g, 0, none⟩) L.length L.length) L := by
  refine Or.inr ⟨g, 0, L.length, rfl, Nat.le_refl _, hm, (h.lt g rfl).2, fun i hi => ?_⟩
  rw [Nat.zero_add, h.cellAt i (by omega)]
  simp [flts, List.getElem?_map, List.getElem?_eq_getElem hi]

theorem run_store_float {P : Program} (w : World) (a : Addr) (m : Mode) (k : FloatKind) (b : Nat) : (store a (.float k b) m).run P w = stored P w a (.float k b) m := run_store P w a _ m rfl
attribute [local go_sem] run_store_float

set_option maxHeartbeats 1000000 in
theorem to_any (w : World) (v : Value) (L : List Nat) (h : Reads w v L) (hl : L.length ≤ 1048576) :
    Calls Try.prog 6 #[v] w fun e w' => ∃ v', e = .returned v' ∧ Reads w' v' L ∧ Below w.heap.size w w' := by
  obtain ⟨i0, hi, hz0, hz1, hz2⟩ := info_parts Try.info23
  have hcell : ∃ f : Nat → Nat × Nat, (∀ i, i < L.length → w.cell? ⟨(f 0).1, (f 0).2 + i, none⟩ = some (.float .f64 (L.getD i 0))) ∧ (0 < L.length → (f 0).1 < w.heap.size ∧ ∃ cap, v = .slice (some ⟨(f 0).1, (f 0).2, none⟩) L.length cap) := by
    rcases h with ⟨rfl, _⟩ | ⟨b, o, cap, h1, h2, h3, h4, h5⟩
    · exact ⟨fun _ => (0, 0), fun i hi => by simp at hi, fun hi => by simp at hi⟩
    · exact ⟨fun _ => (b, o), h5, fun _ => ⟨h4, cap, h1⟩⟩
  obtain ⟨f, hc, hv⟩ := hcell
  obtain ⟨a, cap, rfl⟩ := h.form
  have hcap : L.length ≤ 1048576 := hl
  have HC : Hid (∀ i, i < L.length → w.cell? ⟨(f 0).1, (f 0).2 + i, none⟩ = some (.float .f64 (L.getD i 0))) := hc
  have HV : Hid (0 < L.length → (f 0).1 < w.heap.size ∧ a = some ⟨(f 0).1, (f 0).2, none⟩) := fun hi => by
    obtain ⟨h1, c, h2⟩ := hv hi
    simp at h2
    exact ⟨h1, h2.1⟩
  have FZ : Hid ((madeCells (Value.float .f64 0).cells (L.length * 1)).toList = flts (fill L 0)) := fill_zero L
  obtain ⟨n, hn⟩ : ∃ n, n = L.length := ⟨_, rfl⟩
  rw [← hn] at hl FZ ⊢
  have HN : Hid (n = L.length) := hn
  clear h hc hv hn hcap
  go_enter Try.func6, Try.ntmps6
  go_wp2_with (at_make; refine wpList_make_full _ rfl _ _ 22 rfl w.heap.size 23 i0 (.float .f64 0) 1 Try.underlying22 hi hz0 hz1 .i64 .i64 (n : Int) (n : Int) n rfl rfl rfl rfl (by rw [hz2]; omega) (by unfold maxLen; omega) (Nat.le_refl _) ?_; intro w4 hown hgrow)
  rw [FZ.out] at hown
  have R0 : Hid (w4.ownsRow w.heap.size 23 1 (.slice (some ⟨w.heap.size, 0, none⟩) n n) n (flts (fill L 0))) := hown
  have B0 : Hid (Below w.heap.size w w4) := (Below.refl _ _).grown hgrow (Nat.le_refl _) (fun k hk => by cases hk)
  clear hown hgrow
  go_loopw [4] (fun c wr => ∃ j : Nat, j ≤ n ∧ c = .int .i64 j ∧ Hid (wr.ownsRow w.heap.size 23 1 (.slice (some ⟨w.heap.size, 0, none⟩) n n) n (flts (fill L j))) ∧ Hid (Below w.heap.size w wr)) (fun c _ => n - (intOf c).toNat)
  case atStart => exact ⟨0, Nat.zero_le _, rfl, R0, B0⟩
  case round =>
    obtain ⟨j, hj, rfl, R, BB⟩ := hrel
    by_cases hlt : j < n
    · have hlt' : j < L.length := by rw [← HN.out]; exact hlt
      obtain ⟨v1, v2⟩ := HV.out (by omega)
      subst v2
      have i0 : (0 : Int) ≤ (j : Int) := by omega
      have i1 : (j : Int) < (n : Int) := by omega
      have q0 : wr.cell? ⟨(f 0).1, (f 0).2 + j, none⟩ = some (.float .f64 (L.getD j 0)) := (BB.out.cell (p := ⟨(f 0).1, (f 0).2 + j, none⟩) v1).trans (HC.out j hlt')
      have q1 : ∃ z, wr.cell? ⟨w.heap.size, j, none⟩ = some (.float .f64 z) := by
        have := R.out.cellAt j (by omega)
        rw [this]
        have hl : j < (fill L j).length := by rw [fill_len]; exact hlt'
        exact ⟨(fill L j)[j], by simp [flts, List.getElem?_map, List.getElem?_eq_getElem hl]⟩
      obtain ⟨z, q1⟩ := q1
      have q2 : wr.frozen? ⟨w.heap.size, j, none⟩ = false := R.out.frozenAt j
      have R' : Hid ((wr.setCell ⟨w.heap.size, j, none⟩ (.float .f64 (L.getD j 0))).ownsRow w.heap.size 23 1 (.slice (some ⟨w.heap.size, 0, none⟩) n n) n (flts (fill L (j + 1)))) := by
        show World.ownsRow _ _ _ _ _ _ _
        rw [← fill_set, ← flts_set]
        exact (R.out.stored j _).1
      have B' : Hid (Below w.heap.size w (wr.setCell ⟨w.heap.size, j, none⟩ (.float .f64 (L.getD j 0)))) := BB.out.setCell (p := ⟨w.heap.size, j, none⟩) (Nat.le_refl _) _
      generalize L.getD j 0 = x at *
      go_wp2_with fail
      go_roundw
      case rel => exact ⟨j + 1, by omega, by go_num, R', B'⟩
      case measure => simp [intOf]; omega
    · have hjn : j = n := by omega
      subst hjn
      have RE : Hid (Reads wr (.slice (some ⟨w.heap.size, 0, none⟩) j j) L) := by
        show Reads _ _ _
        have := R.out
        rw [HN.out, fill_all] at this
        rw [HN.out]
        exact reads_of_row this (by rw [← HN.out]; unfold maxLen; omega)
      clear R
      go_wp2_with fail
      go_ret
      exact ⟨_, rfl, RE.out, BB.out⟩
end Go.Proofs.Ytbjhkdebaimkfaa.Flt
