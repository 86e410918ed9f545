/- What the law asks of floats and of bytes: copied, marked, held. -/
import Derived.Test.YtgajajpcjbpalaaYn
import Derived.Laws.OwnMore
namespace Go.Proofs.Ytgajajpcjbpalaa.Pkd
open Go.ChangeShapes Go.WideShapes Go.ChangeAt Go.RowKit
open Go.Proofs.Ytgajajpcjbpalaa.Lists Go.Proofs.Ytgajajpcjbpalaa.Flt Go.Proofs.Ytgajajpcjbpalaa.Fls


theorem Try.info40 : (Try.prog.info? 40).map (fun i => (i.zero, i.size, i.bytes)) = some (some (.float .f64 0), 1, 8) := by kernel_rfl
theorem run_store_float {P : Program} (w : World) (a : Addr) (m : Mode) (k : FloatKind) (b : Nat) : (store a (.float k b) m).run P w = stored P w a (.float k b) m := run_store P w a _ m rfl
attribute [local go_sem] run_store_float
def ffill (L : List Nat) (j : Nat) : List Nat := (List.range L.length).map fun i => if i < j then L.getD i 0 else 0
theorem ffill_len (L : List Nat) (j : Nat) : (ffill L j).length = L.length := by simp [ffill]
theorem ffill_zero (L : List Nat) : (madeCells (Value.float .f64 0).cells (L.length * 1)).toList = flts (ffill L 0) := by
  apply List.ext_getElem
  · simp [madeCells, flts, ffill]
  · intro i h1 h2
    simp [madeCells, flts, ffill, Value.cells, Nat.mod_one]
theorem ffill_all (L : List Nat) : ffill L L.length = L := by
  apply List.ext_getElem (ffill_len _ _)
  intro i h1 h2
  simp [ffill, h2]
theorem ffill_set (L : List Nat) (j : Nat) : (ffill L j).set j (L.getD j 0) = ffill L (j + 1) := by
  apply List.ext_getElem (by rw [List.length_set, ffill_len, ffill_len])
  intro i h1 h2
  rw [List.getElem_set]
  by_cases e : j = i
  · subst e; simp [ffill]
  · rw [if_neg e]
    simp only [ffill, List.getElem_map, List.getElem_range]
    by_cases x : i < j
    · rw [if_pos x, if_pos (by omega)]
    · rw [if_neg x, if_neg (by omega)]

set_option maxHeartbeats 1000000 in
theorem fto_own (w : World) (v : Value) (L : List Nat) (h : Fls.Reads w v L) (hl : L.length ≤ 1048576) :
    Calls Try.prog 6 #[v] w fun e w' => e = .returned (.slice (some ⟨w.heap.size, 0, none⟩) L.length L.length) ∧ w'.ownsRow w.heap.size 40 1 (.slice (some ⟨w.heap.size, 0, none⟩) L.length L.length) L.length (flts L) ∧ Below w.heap.size w w' := by
  obtain ⟨i0, hi, hz0, hz1, hz2⟩ := info_parts Try.info40
  have hcell : ∃ f : Nat → Nat × Nat, (∀ i, i < L.length → w.cell? ⟨(f 0).1, (f 0).2 + i, none⟩ = some (.float .f64 (L.getD i 0))) ∧ (0 < L.length → (f 0).1 < w.heap.size ∧ ∃ cap, v = .slice (some ⟨(f 0).1, (f 0).2, none⟩) L.length cap) := by
    rcases h with ⟨rfl, _⟩ | ⟨b, o, cap, h1, h2, h3, h4, h5⟩
    · exact ⟨fun _ => (0, 0), fun i hi => by simp at hi, fun hi => by simp at hi⟩
    · exact ⟨fun _ => (b, o), h5, fun _ => ⟨h4, cap, h1⟩⟩
  obtain ⟨f, hc, hv⟩ := hcell
  obtain ⟨a, cap, rfl⟩ := h.form
  have hcap : L.length ≤ 1048576 := hl
  have HC : Hid (∀ i, i < L.length → w.cell? ⟨(f 0).1, (f 0).2 + i, none⟩ = some (.float .f64 (L.getD i 0))) := hc
  have HV : Hid (0 < L.length → (f 0).1 < w.heap.size ∧ a = some ⟨(f 0).1, (f 0).2, none⟩) := fun hi => by
    obtain ⟨h1, c, h2⟩ := hv hi
    simp at h2
    exact ⟨h1, h2.1⟩
  have FZ : Hid ((madeCells (Value.float .f64 0).cells (L.length * 1)).toList = flts (ffill L 0)) := ffill_zero L
  obtain ⟨n, hn⟩ : ∃ n, n = L.length := ⟨_, rfl⟩
  rw [← hn] at hl FZ ⊢
  have HN : Hid (n = L.length) := hn
  clear h hc hv hn hcap
  go_enter Try.func6, Try.ntmps6
  go_wp2_with (at_make; refine wpList_make_full _ rfl _ _ 22 rfl w.heap.size 40 i0 (.float .f64 0) 1 Try.underlying22 hi hz0 hz1 .i64 .i64 (n : Int) (n : Int) n rfl rfl rfl rfl (by rw [hz2]; omega) (by unfold maxLen; omega) (Nat.le_refl _) ?_; intro w4 hown hgrow)
  rw [FZ.out] at hown
  have R0 : Hid (w4.ownsRow w.heap.size 40 1 (.slice (some ⟨w.heap.size, 0, none⟩) n n) n (flts (ffill L 0))) := hown
  have B0 : Hid (Below w.heap.size w w4) := (Below.refl _ _).grown hgrow (Nat.le_refl _) (fun k hk => by cases hk)
  clear hown hgrow
  go_loopw [4] (fun c wr => ∃ j : Nat, j ≤ n ∧ c = .int .i64 j ∧ Hid (wr.ownsRow w.heap.size 40 1 (.slice (some ⟨w.heap.size, 0, none⟩) n n) n (flts (ffill L j))) ∧ Hid (Below w.heap.size w wr)) (fun c _ => n - (intOf c).toNat)
  case atStart => exact ⟨0, Nat.zero_le _, rfl, R0, B0⟩
  case round =>
    obtain ⟨j, hj, rfl, R, BB⟩ := hrel
    by_cases hlt : j < n
    · have hlt' : j < L.length := by rw [← HN.out]; exact hlt
      obtain ⟨v1, v2⟩ := HV.out (by omega)
      subst v2
      have i0 : (0 : Int) ≤ (j : Int) := by omega
      have i1 : (j : Int) < (n : Int) := by omega
      have q0 : wr.cell? ⟨(f 0).1, (f 0).2 + j, none⟩ = some (.float .f64 (L.getD j 0)) := (BB.out.cell (p := ⟨(f 0).1, (f 0).2 + j, none⟩) v1).trans (HC.out j hlt')
      have q1 : ∃ z, wr.cell? ⟨w.heap.size, j, none⟩ = some (.float .f64 z) := by
        have := R.out.cellAt j (by omega)
        rw [this]
        have hl : j < (ffill L j).length := by rw [ffill_len]; exact hlt'
        exact ⟨(ffill L j)[j], by simp [flts, List.getElem?_map, List.getElem?_eq_getElem hl]⟩
      obtain ⟨z, q1⟩ := q1
      have q2 : wr.frozen? ⟨w.heap.size, j, none⟩ = false := R.out.frozenAt j
      have R' : Hid ((wr.setCell ⟨w.heap.size, j, none⟩ (.float .f64 (L.getD j 0))).ownsRow w.heap.size 40 1 (.slice (some ⟨w.heap.size, 0, none⟩) n n) n (flts (ffill L (j + 1)))) := by
        show World.ownsRow _ _ _ _ _ _ _
        rw [← ffill_set, ← flts_set]
        exact (R.out.stored j _).1
      have B' : Hid (Below w.heap.size w (wr.setCell ⟨w.heap.size, j, none⟩ (.float .f64 (L.getD j 0)))) := BB.out.setCell (p := ⟨w.heap.size, j, none⟩) (Nat.le_refl _) _
      generalize L.getD j 0 = x at *
      go_wp2_with fail
      go_roundw
      case rel => exact ⟨j + 1, by omega, by go_num, R', B'⟩
      case measure => simp [intOf]; omega
    · have hjn : j = n := by omega
      subst hjn
      have RE : Hid (wr.ownsRow w.heap.size 40 1 (.slice (some ⟨w.heap.size, 0, none⟩) j j) j (flts L)) := by
        show World.ownsRow _ _ _ _ _ _ _
        have := R.out
        rw [HN.out, ffill_all] at this
        rw [HN.out]
        exact this
      clear R
      go_wp2_with fail
      go_ret
      exact ⟨rfl, RE.out, BB.out⟩
set_option maxHeartbeats 1000000 in
theorem iheld_any (w : World) (v : Value) (n : Nat) (k0 : Int) (hk0 : 0 ≤ k0) (hk1 : k0 ≤ 1000000) (hn : n ≤ 2000000) (h : Lists.Reads w v (Lists.sq k0 n)) :
    Calls Try.prog 29 #[v, .int .i64 k0] w fun e w' => e = .returned (.int .i64 (k0 + n)) ∧ ∃ m, w' = w.drewN m := by
  by_cases h0 : n = 0
  · subst h0
    obtain ⟨a, cap, rfl⟩ := h.form
    rw [Lists.sq_len]
    clear h
    go_enter Try.func29, Try.ntmps29
    go_wp2
    go_loop [1, 5] (fun k i => k = .int .i64 k0 ∧ i = .int .i64 0) (fun _ _ => 0)
    case atStart => exact ⟨rfl, rfl⟩
    case round =>
      obtain ⟨rfl, rfl⟩ := hrel
      go_wp2
      go_ret
      exact ⟨by simp, 0, rfl⟩
  · rcases h with ⟨e, _⟩ | ⟨b, o, c, rfl, x1, x2, x3, x4⟩
    · exact absurd (by have := Lists.sq_len k0 n; rw [e] at this; exact this.symm) h0
    rw [Lists.sq_len] at x1 x4 ⊢
    have HC : Hid (∀ i, i < n → w.cell? ⟨b, o + i, none⟩ = some (.int .i64 ((Lists.sq k0 n).getD i 0))) := x4
    unfold maxLen at x2
    clear x4
    go_enter Try.func29, Try.ntmps29
    go_wp2
    go_loopw [1, 5] (fun k i wr => ∃ j m : Nat, j ≤ n ∧ k = .int .i64 (k0 + j) ∧ i = .int .i64 j ∧ Hid (wr = w.drewN m)) (fun _ i _ => n - (intOf i).toNat)
    case atStart => exact ⟨0, 0, Nat.zero_le _, by simp, rfl, rfl⟩
    case round =>
      obtain ⟨j, m, hj, rfl, rfl, HR⟩ := hrel
      by_cases hlt : j < n
      · have q1 : wr.cell? ⟨b, o + j, none⟩ = some (.int .i64 (k0 + j)) := by
          rw [HR.out]; have := HC.out j hlt; rw [Lists.sq_get _ _ _ hlt] at this; exact this
        have i0 : (0 : Int) ≤ (j : Int) := by omega
        have i1 : (j : Int) < (n : Int) := by omega
        go_wp2_with fail
        go_roundw
        case rel => exact ⟨j + 1, m, by omega, by go_num, by go_num, HR⟩
        case measure => simp [intOf]; omega
      · have hjn : j = n := by omega
        subst hjn
        go_wp2
        go_ret
        exact ⟨rfl, m, HR.out⟩

def wb (x : Int) : Int := IntKind.u8.wrap x
/-- Bytes that bear their marks. -/
def MB (M : List Int) (k0 : Int) (n : Nat) : Prop := M.length = n ∧ ∀ i, i < n → M.getD i 0 = wb (k0 + (i : Int))

set_option maxHeartbeats 1000000 in
theorem bmark_any (w : World) (base : Nat) (v : Value) (L : List Int) (k0 : Int) (hk0 : 0 ≤ k0) (hk1 : k0 ≤ 1000000) (hn : L.length ≤ 2000000) (h : w.ownsRow base 5 1 v L.length (Bytes.bys L)) :
    Calls Try.prog 26 #[v, .int .i64 k0] w fun e w' => e = .returned (.int .i64 (k0 + L.length)) ∧ (∃ M, MB M k0 L.length ∧ w'.ownsRow base 5 1 v L.length (Bytes.bys M)) ∧ w.grownBy w' v.ownBlock := by
  rcases Bytes.row_cases h with ⟨rfl, rfl⟩ | ⟨g, c, rfl, _, _, x1, x2⟩
  · go_enter Try.func26, Try.ntmps26
    go_wp2
    go_loop [1, 5] (fun k i => k = .int .i64 k0 ∧ i = .int .i64 0) (fun _ _ => 0)
    case atStart => exact ⟨rfl, rfl⟩
    case round =>
      obtain ⟨rfl, rfl⟩ := hrel
      go_wp2
      go_ret
      exact ⟨by simp, ⟨[], ⟨rfl, fun i hi => absurd hi (by simp)⟩, h⟩, World.grownBy.refl _ _⟩
  · have R0 : Hid (∃ M : List Int, M.length = L.length ∧ (∀ i, i < 0 → M.getD i 0 = wb (k0 + (i : Int))) ∧ w.ownsRow base 5 1 (.slice (some ⟨g, 0, none⟩) L.length c) L.length (Bytes.bys M)) := ⟨L, rfl, fun i hi => absurd hi (by omega), h⟩
    obtain ⟨n, hn'⟩ : ∃ n, n = L.length := ⟨_, rfl⟩
    rw [← hn'] at x1 hn R0 ⊢
    unfold maxLen at x2
    clear h hn'
    go_enter Try.func26, Try.ntmps26
    go_wp2
    go_loopw [1, 5] (fun k i wr => ∃ j : Nat, j ≤ n ∧ k = .int .i64 (k0 + j) ∧ i = .int .i64 j ∧ Hid (∃ M : List Int, M.length = n ∧ (∀ i, i < j → M.getD i 0 = wb (k0 + (i : Int))) ∧ wr.ownsRow base 5 1 (.slice (some ⟨g, 0, none⟩) n c) n (Bytes.bys M)) ∧ Hid (w.grownBy wr (some g))) (fun _ i _ => n - (intOf i).toNat)
    case atStart => exact ⟨0, Nat.zero_le _, by simp, rfl, R0, World.grownBy.refl _ _⟩
    case round =>
      obtain ⟨j, hj, rfl, rfl, R, G⟩ := hrel
      by_cases hlt : j < n
      · have i0 : (0 : Int) ≤ (j : Int) := by omega
        have i1 : (j : Int) < (n : Int) := by omega
        obtain ⟨M, hM, hMC, RM⟩ := R.out
        have q1 : wr.cell? ⟨g, j, none⟩ = some (.int .u8 (M.getD j 0)) := by subst hM; exact Bytes.row_cell RM j hlt
        have q2 : wr.frozen? ⟨g, j, none⟩ = false := RM.frozenAt j
        obtain ⟨u, hu⟩ : ∃ u, u = wb (k0 + (j : Int)) := ⟨_, rfl⟩
        have hu2 : IntKind.u8.wrap (k0 + (j : Int)) = u := hu.symm
        have RN : Hid (∃ M : List Int, M.length = n ∧ (∀ i, i < j + 1 → M.getD i 0 = wb (k0 + (i : Int))) ∧ (wr.setCell ⟨g, j, none⟩ (.int .u8 u)).ownsRow base 5 1 (.slice (some ⟨g, 0, none⟩) n c) n (Bytes.bys M)) := ⟨M.set j u, by rw [List.length_set, hM], fun i hi => by
          by_cases e : i = j
          · subst e; rw [← hu]; simp [List.getD_eq_getElem?_getD, show i < M.length by omega]
          · have := hMC i (by omega)
            rw [← this]
            simp [List.getD_eq_getElem?_getD, Ne.symm e], by
          have := (RM.stored j (.int .u8 u)).1
          rw [Bytes.bys_set] at this
          exact this⟩
        have GN : Hid (w.grownBy (wr.setCell ⟨g, j, none⟩ (.int .u8 u)) (some g)) := Lists.grown_setCell G.out j _
        generalize M.getD j 0 = z at *
        clear R RM hM hMC hu
        go_wp2_with fail
        go_roundw
        case rel => exact ⟨j + 1, by omega, by go_num, by go_num, RN, GN⟩
        case measure => simp [intOf]; omega
      · have hjn : j = n := by omega
        subst hjn
        have RE : Hid (∃ M, MB M k0 j ∧ wr.ownsRow base 5 1 (.slice (some ⟨g, 0, none⟩) j c) j (Bytes.bys M)) := (by obtain ⟨M, h1, h2, h3⟩ := R.out; exact ⟨M, ⟨h1, h2⟩, h3⟩)
        clear R
        go_wp2
        go_ret
        exact ⟨rfl, RE.out, G.out⟩

set_option maxHeartbeats 1000000 in
theorem bheld_any (w : World) (v : Value) (M : List Int) (n : Nat) (k0 : Int) (hk0 : 0 ≤ k0) (hk1 : k0 ≤ 1000000) (hn : n ≤ 2000000) (hM : MB M k0 n) (h : Bytes.Reads w v M) :
    Calls Try.prog 28 #[v, .int .i64 k0] w fun e w' => e = .returned (.int .i64 (k0 + n)) ∧ ∃ m, w' = w.drewN m := by
  by_cases h0 : n = 0
  · subst h0
    obtain ⟨a, cap, rfl⟩ := h.form
    rw [hM.1]
    clear h
    go_enter Try.func28, Try.ntmps28
    go_wp2
    go_loop [1, 5] (fun k i => k = .int .i64 k0 ∧ i = .int .i64 0) (fun _ _ => 0)
    case atStart => exact ⟨rfl, rfl⟩
    case round =>
      obtain ⟨rfl, rfl⟩ := hrel
      go_wp2
      go_ret
      exact ⟨by simp, 0, rfl⟩
  · rcases h with ⟨e, _⟩ | ⟨b, o, c, rfl, x1, x2, x3, x4⟩
    · exact absurd (by have := hM.1; rw [e] at this; exact this.symm) h0
    rw [hM.1] at x1 x4 ⊢
    have HC : Hid (∀ i, i < n → w.cell? ⟨b, o + i, none⟩ = some (.int .u8 (wb (k0 + (i : Int))))) := fun i hi => by rw [x4 i hi, hM.2 i hi]
    unfold maxLen at x2
    clear x4 hM
    go_enter Try.func28, Try.ntmps28
    go_wp2
    go_loopw [1, 5] (fun k i wr => ∃ j m : Nat, j ≤ n ∧ k = .int .i64 (k0 + j) ∧ i = .int .i64 j ∧ Hid (wr = w.drewN m)) (fun _ i _ => n - (intOf i).toNat)
    case atStart => exact ⟨0, 0, Nat.zero_le _, by simp, rfl, rfl⟩
    case round =>
      obtain ⟨j, m, hj, rfl, rfl, HR⟩ := hrel
      by_cases hlt : j < n
      · have q1 : wr.cell? ⟨b, o + j, none⟩ = some (.int .u8 (wb (k0 + (j : Int)))) := by
          rw [HR.out]; exact HC.out j hlt
        have i0 : (0 : Int) ≤ (j : Int) := by omega
        have i1 : (j : Int) < (n : Int) := by omega
        obtain ⟨u, hu⟩ : ∃ u, u = wb (k0 + (j : Int)) := ⟨_, rfl⟩
        have hu2 : IntKind.u8.wrap (k0 + (j : Int)) = u := hu.symm
        rw [← hu] at q1
        have hne : (u != u) = false := by simp
        clear hu
        go_wp2_with fail
        go_roundw
        case rel => exact ⟨j + 1, m, by omega, by go_num, by go_num, HR⟩
        case measure => simp [intOf]; omega
      · have hjn : j = n := by omega
        subst hjn
        go_wp2
        go_ret
        exact ⟨rfl, m, HR.out⟩

end Go.Proofs.Ytgajajpcjbpalaa.Pkd
