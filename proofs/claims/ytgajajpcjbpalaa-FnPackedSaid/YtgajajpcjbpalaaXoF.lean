/- Rows of floats that a call owns: compared up to which missing number, marked, held. -/
import Derived.Test.YtgajajpcjbpalaaXoA
import Derived.Test.YtgajajpcjbpalaaNanC
import Derived.Test.YtgajajpcjbpalaaFltX
namespace Go.Proofs.Ytgajajpcjbpalaa.Fls
open Go.ChangeShapes Go.WideShapes Go.ChangeAt Go.RowKit
open Go.Proofs.Ytgajajpcjbpalaa.Flt Go.Proofs.Ytgajajpcjbpalaa.Lists

abbrev flts (L : List Nat) : List Value := L.map (Value.float .f64)

theorem row_cases {w : World} {base : Nat} {v : Value} {L : List Nat} (h : w.ownsRow base 40 1 v L.length (flts L)) :
    (L = [] ∧ v = .slice none 0 0) ∨ ∃ g cap, v = .slice (some ⟨g, 0, none⟩) L.length cap ∧ base ≤ g ∧ g < w.heap.size ∧ L.length ≤ cap ∧ cap ≤ maxLen := by
  obtain ⟨h0, h⟩ := h
  rcases h with ⟨rfl, hn⟩ | ⟨g, cap, cur, rfl, hb, hh, hc, hm, _⟩
  · exact Or.inl ⟨List.eq_nil_of_length_eq_zero hn, rfl⟩
  · refine Or.inr ⟨g, cap, rfl, hb, ?_, hc, hm⟩
    by_cases x : g < w.heap.size
    · exact x
    · rw [Array.getElem?_eq_none (by omega)] at hh; cases hh

def Reads (w : World) (v : Value) (L : List Nat) : Prop :=
  (L = [] ∧ ∃ a cap, v = .slice a 0 cap) ∨ ∃ b o cap, v = .slice (some ⟨b, o, none⟩) L.length cap ∧ L.length ≤ cap ∧ cap ≤ maxLen ∧ b < w.heap.size ∧ ∀ i, i < L.length → w.cell? ⟨b, o + i, none⟩ = some (.float .f64 (L.getD i 0))
theorem Reads.form {w : World} {v : Value} {L : List Nat} (h : Reads w v L) : ∃ a cap, v = .slice a L.length cap := by
  rcases h with ⟨rfl, a, cap, rfl⟩ | ⟨b, o, cap, rfl, _⟩
  · exact ⟨_, _, rfl⟩
  · exact ⟨_, _, rfl⟩
theorem Reads.on {w w' : World} {v : Value} {L : List Nat} (h : Reads w v L) (hb : Below w.heap.size w w') : Reads w' v L := by
  rcases h with ⟨rfl, a, cap, rfl⟩ | ⟨b, o, cap, rfl, h1, h2, h3, h4⟩
  · exact .inl ⟨rfl, _, _, rfl⟩
  · exact .inr ⟨b, o, cap, rfl, h1, h2, Nat.lt_of_lt_of_le h3 hb.size, fun i hi => (hb.cell (p := ⟨b, o + i, none⟩) h3).trans (h4 i hi)⟩
theorem row_cell {w : World} {base g cap : Nat} {L : List Nat} (h : w.ownsRow base 40 1 (.slice (some ⟨g, 0, none⟩) L.length cap) L.length (flts L)) (i : Nat) (hi : i < L.length) : w.cell? ⟨g, i, none⟩ = some (.float .f64 (L.getD i 0)) := by
  have := h.cellAt i (by omega)
  rw [this]
  simp [flts, List.getElem?_map, List.getElem?_eq_getElem hi]
theorem reads_row {w : World} {base : Nat} {v : Value} {L : List Nat} (h : w.ownsRow base 40 1 v L.length (flts L)) : Reads w v L := by
  rcases row_cases h with ⟨rfl, rfl⟩ | ⟨g, cap, rfl, h1, h2, h3, h4⟩
  · exact .inl ⟨rfl, _, _, rfl⟩
  · exact .inr ⟨g, 0, cap, rfl, h3, h4, h2, fun i hi => by rw [Nat.zero_add]; exact row_cell h i hi⟩

theorem cn_at {L M : List Nat} (h : L.map cn = M.map cn) (k : Nat) : cn (L.getD k 0) = cn (M.getD k 0) := by
  have e1 : (L.map cn).getD k (cn 0) = cn (L.getD k 0) := by simp [List.getD_eq_getElem?_getD, List.getElem?_map, Option.getD_map]
  have e2 : (M.map cn).getD k (cn 0) = cn (M.getD k 0) := by simp [List.getD_eq_getElem?_getD, List.getElem?_map, Option.getD_map]
  rw [← e1, ← e2, h]
theorem cn_length {L M : List Nat} (h : L.map cn = M.map cn) : L.length = M.length := by
  have := congrArg List.length h
  simpa using this

set_option maxHeartbeats 1000000 in
theorem eq_cn (w : World) (v1 v2 : Value) (L M : List Nat) (hc : L.map cn = M.map cn) (h1 : Reads w v1 L) (h2 : Reads w v2 M) :
    Calls Try.prog 9 #[v1, v2] w fun e w' => e = .returned (.bool true) ∧ ∃ n, w' = w.drewN n := by
  have hl := cn_length hc
  by_cases hL : L = []
  · subst hL
    have hM : M = [] := List.eq_nil_of_length_eq_zero hl.symm
    subst hM
    obtain ⟨a, cap, rfl⟩ := h1.form
    obtain ⟨a2, cap2, rfl⟩ := h2.form
    go_enter Try.func9, Try.ntmps9
    go_wp2
    go_loop [5] (fun i => i = .int .i64 0) (fun _ => 0)
    case atStart => rfl
    case round =>
      subst hrel
      go_wp2
      go_ret
      exact ⟨rfl, 0, rfl⟩
  · rcases h1 with ⟨e, _⟩ | ⟨b1, o1, c1, rfl, x1, x2, x3, x4⟩
    · exact absurd e hL
    rcases h2 with ⟨e, _⟩ | ⟨b2, o2, c2, rfl, y1, y2, y3, y4⟩
    · subst e; exact absurd (List.eq_nil_of_length_eq_zero hl) hL
    have K1 : Hid (∀ i, i < L.length → w.cell? ⟨b1, o1 + i, none⟩ = some (.float .f64 (L.getD i 0))) := x4
    have K2 : Hid (∀ i, i < M.length → w.cell? ⟨b2, o2 + i, none⟩ = some (.float .f64 (M.getD i 0))) := y4
    have KC : Hid (∀ k, cn (L.getD k 0) = cn (M.getD k 0)) := cn_at hc
    obtain ⟨n, hn⟩ : ∃ n, n = L.length := ⟨_, rfl⟩
    rw [← hl, ← hn] at y1 ⊢
    rw [← hn] at x1
    have HN : Hid (n = L.length) := hn
    have HM : Hid (n = M.length) := hn.trans hl
    unfold maxLen at x2 y2
    clear x4 y4 hn hL hl hc
    go_enter Try.func9, Try.ntmps9
    go_wp2
    go_loopw [5] (fun i wr => ∃ k m : Nat, k ≤ n ∧ i = .int .i64 k ∧ Hid (wr = w.drewN m)) (fun i _ => n - (intOf i).toNat)
    case atStart => exact ⟨0, 0, Nat.zero_le _, rfl, rfl⟩
    case round =>
      obtain ⟨k, m, hk, rfl, HR⟩ := hrel
      by_cases hlt : k < n
      · have q1 : wr.cell? ⟨b1, o1 + k, none⟩ = some (.float .f64 (L.getD k 0)) := by rw [HR.out]; exact K1.out k (by rw [← HN.out]; exact hlt)
        have q2 : wr.cell? ⟨b2, o2 + k, none⟩ = some (.float .f64 (M.getD k 0)) := by rw [HR.out]; exact K2.out k (by rw [← HM.out]; exact hlt)
        have HZ : Hid (cn (L.getD k 0) = cn (M.getD k 0)) := KC.out k
        have i0 : (0 : Int) ≤ (k : Int) := by omega
        have i1 : (k : Int) < (n : Int) := by omega
        generalize L.getD k 0 = z at *
        generalize M.getD k 0 = z2 at *
        go_wp2_with fail
        go_quiet ((go_at_call 25; exact Calls.quiet_of_same (sf_cn _ _ _ HZ.out)))
        go_wp2_with fail
        go_roundw
        case rel => exact ⟨k + 1, m + nq, by omega, by go_num, (by show _ = _; rw [HR.out]; exact World.drewN_drewN _ _ _)⟩
        case measure => simp [intOf]; omega
      · go_wp2
        go_ret
        exact ⟨rfl, m, HR.out⟩

def fi (n : Int) : Nat := floatOfInt .f64 n
def mid (k0 : Int) (L : List Nat) (j : Nat) : List Nat := (List.range L.length).map fun (i : Nat) => if i < j then fi (k0 + (i : Int)) else L.getD i 0
def sq (k0 : Int) (n : Nat) : List Nat := (List.range n).map fun (i : Nat) => fi (k0 + (i : Int))
theorem mid_len (k0 : Int) (L : List Nat) (j : Nat) : (mid k0 L j).length = L.length := by simp [mid]
theorem sq_len (k0 : Int) (n : Nat) : (sq k0 n).length = n := by simp [sq]
theorem mid_zero (k0 : Int) (L : List Nat) : mid k0 L 0 = L := by
  apply List.ext_getElem (mid_len _ _ _)
  intro i h1 h2
  simp [mid, List.getElem?_eq_getElem h2]
theorem mid_all (k0 : Int) (L : List Nat) : mid k0 L L.length = sq k0 L.length := by
  apply List.ext_getElem (by rw [mid_len, sq_len])
  intro i h1 h2
  rw [mid_len] at h1
  simp [mid, sq, h1]
theorem mid_set (k0 : Int) (L : List Nat) (j : Nat) : (mid k0 L j).set j (fi (k0 + (j : Int))) = mid k0 L (j + 1) := by
  apply List.ext_getElem (by rw [List.length_set, mid_len, mid_len])
  intro i h1 h2
  rw [mid_len] at h2
  rw [List.getElem_set]
  by_cases e : j = i
  · subst e; simp [mid]
  · rw [if_neg e]
    simp only [mid, List.getElem_map, List.getElem_range]
    by_cases x : i < j
    · rw [if_pos x, if_pos (by omega)]
    · rw [if_neg x, if_neg (by omega)]
theorem flts_set (L : List Nat) (j : Nat) (x : Nat) : (flts L).set j (.float .f64 x) = flts (L.set j x) := by simp [flts, List.map_set]
theorem sq_get (k0 : Int) (n i : Nat) (h : i < n) : (sq k0 n).getD i 0 = fi (k0 + (i : Int)) := by simp [sq, List.getD_eq_getElem?_getD, h]

theorem run_store_float {P : Program} (w : World) (a : Addr) (m : Mode) (k : FloatKind) (b : Nat) : (store a (.float k b) m).run P w = stored P w a (.float k b) m := run_store P w a _ m rfl
attribute [local go_sem] run_store_float

set_option maxHeartbeats 1000000 in
theorem mark_any (w : World) (base : Nat) (v : Value) (L : List Nat) (k0 : Int) (hk0 : 0 ≤ k0) (hk1 : k0 ≤ 1000000) (hn : L.length ≤ 2000000) (h : w.ownsRow base 40 1 v L.length (flts L)) :
    Calls Try.prog 10 #[v, .int .i64 k0] w fun e w' => e = .returned (.int .i64 (k0 + L.length)) ∧ w'.ownsRow base 40 1 v L.length (flts (sq k0 L.length)) ∧ w.grownBy w' v.ownBlock := by
  rcases row_cases h with ⟨rfl, rfl⟩ | ⟨g, c, rfl, _, _, x1, x2⟩
  · go_enter Try.func10, Try.ntmps10
    go_wp2
    go_loop [1, 5] (fun k i => k = .int .i64 k0 ∧ i = .int .i64 0) (fun _ _ => 0)
    case atStart => exact ⟨rfl, rfl⟩
    case round =>
      obtain ⟨rfl, rfl⟩ := hrel
      go_wp2
      go_ret
      exact ⟨by simp, h, World.grownBy.refl _ _⟩
  · have e0 : flts L = flts (mid k0 L 0) := by rw [mid_zero]
    have R0 : Hid (w.ownsRow base 40 1 (.slice (some ⟨g, 0, none⟩) L.length c) L.length (flts (mid k0 L 0))) := (by show World.ownsRow _ _ _ _ _ _ _; rw [← e0]; exact h)
    obtain ⟨n, hn'⟩ : ∃ n, n = L.length := ⟨_, rfl⟩
    rw [← hn'] at x1 hn R0 ⊢
    have HN : Hid (n = L.length) := hn'
    unfold maxLen at x2
    clear h e0 hn'
    go_enter Try.func10, Try.ntmps10
    go_wp2
    go_loopw [1, 5] (fun k i wr => ∃ j : Nat, j ≤ n ∧ k = .int .i64 (k0 + j) ∧ i = .int .i64 j ∧ Hid (wr.ownsRow base 40 1 (.slice (some ⟨g, 0, none⟩) n c) n (flts (mid k0 L j))) ∧ Hid (w.grownBy wr (some g))) (fun _ i _ => n - (intOf i).toNat)
    case atStart => exact ⟨0, Nat.zero_le _, by simp, rfl, R0, World.grownBy.refl _ _⟩
    case round =>
      obtain ⟨j, hj, rfl, rfl, R, G⟩ := hrel
      by_cases hlt : j < n
      · have i0 : (0 : Int) ≤ (j : Int) := by omega
        have i1 : (j : Int) < (n : Int) := by omega
        have q1 : ∃ z, wr.cell? ⟨g, j, none⟩ = some (.float .f64 z) := by
          have := R.out.cellAt j (by omega)
          rw [this]
          have hl : j < (mid k0 L j).length := by rw [mid_len, ← HN.out]; exact hlt
          exact ⟨(mid k0 L j)[j], by simp [flts, List.getElem?_map, List.getElem?_eq_getElem hl]⟩
        obtain ⟨z, q1⟩ := q1
        have q2 : wr.frozen? ⟨g, j, none⟩ = false := R.out.frozenAt j
        have R' : Hid ((wr.setCell ⟨g, j, none⟩ (.float .f64 (floatOfInt .f64 (k0 + j)))).ownsRow base 40 1 (.slice (some ⟨g, 0, none⟩) n c) n (flts (mid k0 L (j + 1)))) := by
          show World.ownsRow _ _ _ _ _ _ _
          rw [← mid_set, ← flts_set]
          exact (R.out.stored j _).1
        have G' : Hid (w.grownBy (wr.setCell ⟨g, j, none⟩ (.float .f64 (floatOfInt .f64 (k0 + j)))) (some g)) := grown_setCell G.out j _
        go_wp2_with fail
        go_roundw
        case rel => exact ⟨j + 1, by omega, by go_num, by go_num, R', G'⟩
        case measure => simp [intOf]; omega
      · have hjn : j = n := by omega
        subst hjn
        have R' : wr.ownsRow base 40 1 (.slice (some ⟨g, 0, none⟩) j c) j (flts (sq k0 j)) := by
          have := R.out
          rw [HN.out, mid_all] at this
          rw [HN.out]
          exact this
        have RH : Hid (wr.ownsRow base 40 1 (.slice (some ⟨g, 0, none⟩) j c) j (flts (sq k0 j))) := R'
        clear R' R
        go_wp2
        go_ret
        exact ⟨rfl, RH.out, G.out⟩

theorem fi_self (n : Int) (h : n.natAbs < 9007199254740992) : (ord (fi n) (fi n) != some .eq) = false := by
  rw [self_ne]
  have := (fl_num n h).1
  unfold nan
  exact decide_eq_false (by show ¬ _ < rng (floatOfInt .f64 n); omega)

end Go.Proofs.Ytgajajpcjbpalaa.Fls
