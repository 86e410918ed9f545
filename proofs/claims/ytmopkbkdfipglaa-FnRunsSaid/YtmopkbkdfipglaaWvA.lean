/- Lists of whole numbers: read, copied, cloned, held within bounds. -/
import Derived.Test.YtmopkbkdfipglaaRowsOf
import Derived.Laws.MakeOwn
import Derived.Deep.RegionWith
import Derived.Deep.RegionHeld3
namespace Go.Proofs.Ytmopkbkdfipglaa.Lists
open Go.ChangeShapes Go.WideShapes Go.ChangeAt Go.RowKit

theorem Try.info2 : (Try.prog.info? 2).map (fun i => (i.zero, i.size, i.bytes)) = some (some (.int .i64 0), 1, 8) := by kernel_rfl

def Reads (w : World) (v : Value) (L : List Int) : Prop :=
  (L = [] ∧ ∃ a cap, v = .slice a 0 cap) ∨ ∃ b o cap, v = .slice (some ⟨b, o, none⟩) L.length cap ∧ L.length ≤ cap ∧ cap ≤ maxLen ∧ b < w.heap.size ∧ ∀ i, i < L.length → w.cell? ⟨b, o + i, none⟩ = some (.int .i64 (L.getD i 0))

theorem Reads.form {w : World} {v : Value} {L : List Int} (h : Reads w v L) : ∃ a cap, v = .slice a L.length cap := by
  rcases h with ⟨rfl, a, cap, rfl⟩ | ⟨b, o, cap, rfl, _⟩
  · exact ⟨_, _, rfl⟩
  · exact ⟨_, _, rfl⟩
theorem Reads.on {w w' : World} {v : Value} {L : List Int} (h : Reads w v L) (hb : Below w.heap.size w w') : Reads w' v L := by
  rcases h with ⟨rfl, a, cap, rfl⟩ | ⟨b, o, cap, rfl, h1, h2, h3, h4⟩
  · exact .inl ⟨rfl, _, _, rfl⟩
  · exact .inr ⟨b, o, cap, rfl, h1, h2, Nat.lt_of_lt_of_le h3 hb.size, fun i hi => (hb.cell (p := ⟨b, o + i, none⟩) h3).trans (h4 i hi)⟩
theorem reads_row {w : World} {base : Nat} {v : Value} {L : List Int} (h : w.ownsRow base 2 1 v L.length (ints L)) : Reads w v L := by
  rcases row_cases h with ⟨rfl, rfl⟩ | ⟨g, cap, rfl, h1, h2, h3, h4⟩
  · exact .inl ⟨rfl, _, _, rfl⟩
  · exact .inr ⟨g, 0, cap, rfl, h3, h4, h2, fun i hi => by rw [Nat.zero_add]; exact row_cell h i hi⟩

def sml (m : Int) (L : List Int) : Bool := decide (L.length ≤ 4096) && L.all fun z => decide (-m ≤ z) && decide (z ≤ m)
theorem sml_iff {m : Int} {L : List Int} : sml m L = true ↔ L.length ≤ 4096 ∧ ∀ i, i < L.length → -m ≤ L.getD i 0 ∧ L.getD i 0 ≤ m := by
  unfold sml
  rw [Bool.and_eq_true, decide_eq_true_eq, List.all_eq_true]
  refine and_congr_right fun _ => ⟨fun h i hi => ?_, fun h z hz => ?_⟩
  · have := h (L.getD i 0) (by simp [List.getD_eq_getElem?_getD, List.getElem?_eq_getElem hi])
    simpa using this
  · obtain ⟨i, hi, rfl⟩ := List.mem_iff_getElem.1 hz
    have := h i hi
    simp [List.getD_eq_getElem?_getD, List.getElem?_eq_getElem hi] at this
    simpa using this

set_option maxHeartbeats 400000 in
theorem win_any (n a b : Int) (w : World) : Calls Try.prog 38 #[.int .i64 n, .int .i64 a, .int .i64 b] w fun e w' => e = .returned (.bool (decide (a ≤ n) && decide (n ≤ b))) ∧ w' = w := by
  by_cases h1 : a ≤ n
  · by_cases h2 : n ≤ b
    · go_enter Try.func38, Try.ntmps38
      go_wp2
      go_ret
      exact ⟨by simp [h1, h2], rfl⟩
    · have h2' : decide (n ≤ b) = false := by simp; omega
      go_enter Try.func38, Try.ntmps38
      go_wp2
      go_ret
      exact ⟨by simp, rfl⟩
  · have h1' : decide (a ≤ n) = false := by simp; omega
    go_enter Try.func38, Try.ntmps38
    go_wp2
    go_ret
    exact ⟨by simp, rfl⟩

def fill (L : List Int) (j : Nat) : List Int := (List.range L.length).map fun i => if i < j then L.getD i 0 else 0
theorem fill_len (L : List Int) (j : Nat) : (fill L j).length = L.length := by simp [fill]
theorem fill_zero (L : List Int) : (madeCells (Value.int .i64 0).cells (L.length * 1)).toList = ints (fill L 0) := by
  apply List.ext_getElem
  · simp [madeCells, ints, fill]
  · intro i h1 h2
    simp [madeCells, ints, fill, Value.cells, Nat.mod_one]
theorem fill_all (L : List Int) : fill L L.length = L := by
  apply List.ext_getElem (fill_len _ _)
  intro i h1 h2
  simp [fill, h2]
theorem fill_set (L : List Int) (j : Nat) : (fill L j).set j (L.getD j 0) = fill L (j + 1) := by
  apply List.ext_getElem (by rw [List.length_set, fill_len, fill_len])
  intro i h1 h2
  rw [List.getElem_set]
  by_cases e : j = i
  · subst e; simp [fill]
  · rw [if_neg e]
    simp only [fill, List.getElem_map, List.getElem_range]
    by_cases x : i < j
    · rw [if_pos x, if_pos (by omega)]
    · rw [if_neg x, if_neg (by omega)]

set_option maxHeartbeats 1000000 in
theorem to_any (w : World) (v : Value) (L : List Int) (h : Reads w v L) (hl : L.length ≤ 1048576) :
    Calls Try.prog 7 #[v] w fun e w' => e = .returned (.slice (some ⟨w.heap.size, 0, none⟩) L.length L.length) ∧ w'.ownsRow w.heap.size 2 1 (.slice (some ⟨w.heap.size, 0, none⟩) L.length L.length) L.length (ints L) ∧ Below w.heap.size w w' := by
  obtain ⟨i0, hi, hz0, hz1, hz2⟩ := info_parts Try.info2
  have hcell : ∃ f : Nat → Nat × Nat, (∀ i, i < L.length → w.cell? ⟨(f 0).1, (f 0).2 + i, none⟩ = some (.int .i64 (L.getD i 0))) ∧ (0 < L.length → (f 0).1 < w.heap.size ∧ ∃ cap, v = .slice (some ⟨(f 0).1, (f 0).2, none⟩) L.length cap) := by
    rcases h with ⟨rfl, _⟩ | ⟨b, o, cap, h1, h2, h3, h4, h5⟩
    · exact ⟨fun _ => (0, 0), fun i hi => by simp at hi, fun hi => by simp at hi⟩
    · exact ⟨fun _ => (b, o), h5, fun _ => ⟨h4, cap, h1⟩⟩
  obtain ⟨f, hc, hv⟩ := hcell
  obtain ⟨a, cap, rfl⟩ := h.form
  have hcap : L.length ≤ 1048576 := hl
  have HC : Hid (∀ i, i < L.length → w.cell? ⟨(f 0).1, (f 0).2 + i, none⟩ = some (.int .i64 (L.getD i 0))) := hc
  have HV : Hid (0 < L.length → (f 0).1 < w.heap.size ∧ a = some ⟨(f 0).1, (f 0).2, none⟩) := fun hi => by
    obtain ⟨h1, c, h2⟩ := hv hi
    simp at h2
    exact ⟨h1, h2.1⟩
  have FZ : Hid ((madeCells (Value.int .i64 0).cells (L.length * 1)).toList = ints (fill L 0)) := fill_zero L
  obtain ⟨n, hn⟩ : ∃ n, n = L.length := ⟨_, rfl⟩
  rw [← hn] at hl FZ ⊢
  have HN : Hid (n = L.length) := hn
  clear h hc hv hn hcap
  go_enter Try.func7, Try.ntmps7
  go_wp2_with (at_make; refine wpList_make_full _ rfl _ _ 22 rfl w.heap.size 2 i0 (.int .i64 0) 1 Try.underlying22 hi hz0 hz1 .i64 .i64 (n : Int) (n : Int) n rfl rfl rfl rfl (by rw [hz2]; omega) (by unfold maxLen; omega) (Nat.le_refl _) ?_; intro w4 hown hgrow)
  rw [FZ.out] at hown
  have R0 : Hid (w4.ownsRow w.heap.size 2 1 (.slice (some ⟨w.heap.size, 0, none⟩) n n) n (ints (fill L 0))) := hown
  have B0 : Hid (Below w.heap.size w w4) := (Below.refl _ _).grown hgrow (Nat.le_refl _) (fun k hk => by cases hk)
  clear hown hgrow
  go_loopw [4] (fun c wr => ∃ j : Nat, j ≤ n ∧ c = .int .i64 j ∧ Hid (wr.ownsRow w.heap.size 2 1 (.slice (some ⟨w.heap.size, 0, none⟩) n n) n (ints (fill L j))) ∧ Hid (Below w.heap.size w wr)) (fun c _ => n - (intOf c).toNat)
  case atStart => exact ⟨0, Nat.zero_le _, rfl, R0, B0⟩
  case round =>
    obtain ⟨j, hj, rfl, R, BB⟩ := hrel
    by_cases hlt : j < n
    · have hlt' : j < L.length := by rw [← HN.out]; exact hlt
      obtain ⟨v1, v2⟩ := HV.out (by omega)
      subst v2
      have i0 : (0 : Int) ≤ (j : Int) := by omega
      have i1 : (j : Int) < (n : Int) := by omega
      have q0 : wr.cell? ⟨(f 0).1, (f 0).2 + j, none⟩ = some (.int .i64 (L.getD j 0)) := (BB.out.cell (p := ⟨(f 0).1, (f 0).2 + j, none⟩) v1).trans (HC.out j hlt')
      have q1 : ∃ z, wr.cell? ⟨w.heap.size, j, none⟩ = some (.int .i64 z) := by
        have := R.out.cellAt j (by omega)
        rw [this]
        have hl : j < (fill L j).length := by rw [fill_len]; exact hlt'
        exact ⟨(fill L j)[j], by simp [ints, List.getElem?_map, List.getElem?_eq_getElem hl]⟩
      obtain ⟨z, q1⟩ := q1
      have q2 : wr.frozen? ⟨w.heap.size, j, none⟩ = false := R.out.frozenAt j
      have R' : Hid ((wr.setCell ⟨w.heap.size, j, none⟩ (.int .i64 (L.getD j 0))).ownsRow w.heap.size 2 1 (.slice (some ⟨w.heap.size, 0, none⟩) n n) n (ints (fill L (j + 1)))) := by
        show World.ownsRow _ _ _ _ _ _ _
        rw [← fill_set, ← ints_set]
        exact (R.out.stored j _).1
      have B' : Hid (Below w.heap.size w (wr.setCell ⟨w.heap.size, j, none⟩ (.int .i64 (L.getD j 0)))) := BB.out.setCell (p := ⟨w.heap.size, j, none⟩) (Nat.le_refl _) _
      generalize L.getD j 0 = x at *
      go_wp2_with fail
      go_roundw
      case rel => exact ⟨j + 1, by omega, by go_num, R', B'⟩
      case measure => simp [intOf]; omega
    · have hjn : j = n := by omega
      subst hjn
      have RE : Hid (wr.ownsRow w.heap.size 2 1 (.slice (some ⟨w.heap.size, 0, none⟩) j j) j (ints L)) := by
        have := R.out
        rw [HN.out, fill_all] at this
        rw [HN.out]
        exact this
      clear R
      go_wp2_with fail
      go_ret
      exact ⟨rfl, RE.out, BB.out⟩

theorem sml_no_at {m : Int} {L : List Int} (h : sml m L = false) (hl : L.length ≤ 4096) : ∃ k, k < L.length ∧ ((decide (-m ≤ L.getD k 0) && decide (L.getD k 0 ≤ m)) = false) ∧ ∀ j, j < k → (decide (-m ≤ L.getD j 0) && decide (L.getD j 0 ≤ m)) = true := by
  have hex : ∃ k, k < L.length ∧ ((decide (-m ≤ L.getD k 0) && decide (L.getD k 0 ≤ m)) = false) := by
    apply Classical.byContradiction
    intro hn
    have : sml m L = true := sml_iff.2 ⟨hl, fun i hi => by
      cases hq : (decide (-m ≤ L.getD i 0) && decide (L.getD i 0 ≤ m))
      · exact absurd ⟨i, hi, hq⟩ hn
      · simpa using hq⟩
    rw [h] at this
    cases this
  have : ∀ n, (∃ k, k < n ∧ k < L.length ∧ ((decide (-m ≤ L.getD k 0) && decide (L.getD k 0 ≤ m)) = false)) → ∃ k, k < L.length ∧ ((decide (-m ≤ L.getD k 0) && decide (L.getD k 0 ≤ m)) = false) ∧ ∀ j, j < k → (decide (-m ≤ L.getD j 0) && decide (L.getD j 0 ≤ m)) = true := by
    intro n
    induction n with
    | zero => rintro ⟨k, hk, _⟩; omega
    | succ n ih =>
      rintro ⟨k, hk, h1, h2⟩
      by_cases hx : ∃ k, k < n ∧ k < L.length ∧ ((decide (-m ≤ L.getD k 0) && decide (L.getD k 0 ≤ m)) = false)
      · exact ih hx
      · refine ⟨k, h1, h2, fun j hj => ?_⟩
        cases hq : (decide (-m ≤ L.getD j 0) && decide (L.getD j 0 ≤ m))
        · exact absurd ⟨j, by omega, by omega, hq⟩ hx
        · rfl
  obtain ⟨k, h1, h2⟩ := hex
  exact this L.length ⟨k, h1, h1, h2⟩

set_option maxHeartbeats 1000000 in
theorem inum_any (w : World) (v : Value) (L : List Int) (m : Int) (h : Reads w v L) (hm0 : 0 ≤ m) (hm : m ≤ 1152921504606846976) (hmax : L.length < 9223372036854775808) :
    Calls Try.prog 32 #[v, .int .i64 m] w fun e w' => e = .returned (.bool (sml m L)) ∧ w' = w := by
  obtain ⟨a, cap, rfl⟩ := h.form
  by_cases hb : 4096 < L.length
  · have e : sml m L = false := by unfold sml; simp; omega
    rw [e]
    have i1 : (4096 : Int) < (L.length : Int) := by omega
    go_enter Try.func32, Try.ntmps32
    go_wp2
    go_ret
    exact ⟨rfl, rfl⟩
  have c1 : ¬ ((4096 : Int) < (L.length : Int)) := by omega
  have HS : Hid (L.length ≤ 4096 → (sml m L = true ∨ ∃ k, k < L.length ∧ ((decide (-m ≤ L.getD k 0) && decide (L.getD k 0 ≤ m)) = false) ∧ ∀ j, j < k → (decide (-m ≤ L.getD j 0) && decide (L.getD j 0 ≤ m)) = true)) := fun hl => by
    cases hq : sml m L
    · exact .inr (sml_no_at hq hl)
    · exact .inl rfl
  have SA : Hid (sml m L = true → ∀ i, i < L.length → (decide (-m ≤ L.getD i 0) && decide (L.getD i 0 ≤ m)) = true) := fun hq i hi => by have := (sml_iff.1 hq).2 i hi; simpa using this
  have HC : Hid (∀ i, i < L.length → ∃ b o, a = some ⟨b, o, none⟩ ∧ L.length ≤ cap ∧ cap ≤ maxLen ∧ w.cell? ⟨b, o + i, none⟩ = some (.int .i64 (L.getD i 0))) := fun i hi => by
    rcases h with ⟨rfl, _⟩ | ⟨b, o, cap', h1, h2, h3, h4, h5⟩
    · simp at hi
    · injection h1 with q1 q2 q3
      subst q3
      exact ⟨b, o, q1, h2, h3, h5 i hi⟩
  have WN : Hid (IntKind.i64.wrap (-m) = -m) := (by show _ = _; exact IntWalk.i64_in _ (by omega))
  obtain ⟨n, hn⟩ : ∃ n, n = L.length := ⟨_, rfl⟩
  have HN : Hid (n = L.length) := hn
  rw [← hn] at c1 hmax ⊢
  obtain ⟨r, hr⟩ : ∃ r, r = sml m L := ⟨_, rfl⟩
  have HRR : Hid (r = sml m L) := hr
  rw [← hr]
  clear h hb hn hr
  go_enter Try.func32, Try.ntmps32
  go_wp2_with fail
  go_loop [6, 12] (fun _ c => ∃ j : Nat, j ≤ n ∧ c = .int .i64 j ∧ Hid (∀ i, i < j → (decide (-m ≤ L.getD i 0) && decide (L.getD i 0 ≤ m)) = true)) (fun _ c => n - (intOf c).toNat)
  case atStart => exact ⟨0, Nat.zero_le _, rfl, fun i hi => by omega⟩
  case round =>
    obtain ⟨j, hj, rfl, HJ⟩ := hrel
    by_cases hlt : j < n
    · obtain ⟨b, o, rfl, x1, x2, q0⟩ := HC.out j (by rw [← HN.out]; exact hlt)
      rw [← HN.out] at x1
      unfold maxLen at x2
      have i0 : (0 : Int) ≤ (j : Int) := by omega
      have i1 : (j : Int) < (n : Int) := by omega
      obtain ⟨z, hz⟩ : ∃ z, z = L.getD j 0 := ⟨_, rfl⟩
      have HZ : Hid (z = L.getD j 0) := hz
      rw [← hz] at q0
      clear hz
      have wn := WN.out
      cases hq : (decide (-m ≤ z) && decide (z ≤ m))
      · have R1 : Hid (r = false) := (by
          show r = false
          rw [HRR.out]
          cases hs : sml m L
          · rfl
          · have := SA.out hs j (by rw [← HN.out]; exact hlt); rw [← HZ.out, hq] at this; cases this)
        have HQ : Hid ((decide (-m ≤ z) && decide (z ≤ m)) = false) := hq
        clear hq
        go_wp2_with (go_at_call 38; refine (win_any _ _ _ _).mono ?_; rintro e w' ⟨rfl, hw⟩; subst hw; rw [HQ.out])
        go_ret
        exact ⟨congrArg (fun x => Ending.returned (Value.bool x)) R1.out.symm, rfl⟩
      · have HQ : Hid ((decide (-m ≤ z) && decide (z ≤ m)) = true) := hq
        clear hq
        go_wp2_with (go_at_call 38; refine (win_any _ _ _ _).mono ?_; rintro e w' ⟨rfl, hw⟩; subst hw; rw [HQ.out])
        go_round
        case rel => exact ⟨j + 1, by omega, by go_num, fun i hi => by
          by_cases e : i = j
          · subst e; rw [← HZ.out]; exact HQ.out
          · exact HJ.out i (by omega)⟩
        case measure => simp [intOf]; omega
    · have hjn : j = n := by omega
      subst hjn
      have R1 : Hid (r = true) := (by
        show r = true
        rw [HRR.out]
        refine sml_iff.2 ⟨by rw [← HN.out]; omega, fun i hi => ?_⟩
        have := HJ.out i (by rw [HN.out]; exact hi)
        simpa using this)
      go_wp2_with fail
      go_ret
      exact ⟨congrArg (fun x => Ending.returned (Value.bool x)) R1.out.symm, rfl⟩
end Go.Proofs.Ytmopkbkdfipglaa.Lists
