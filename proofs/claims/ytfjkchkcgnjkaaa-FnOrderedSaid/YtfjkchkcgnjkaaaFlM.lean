/- Lists of floats that a call owns: copied, marked. -/
import Derived.Test.YtfjkchkcgnjkaaaAtF
import Derived.Test.YtfjkchkcgnjkaaaFltX
import Derived.OwnWalk
import Derived.WalkSmall
import Derived.Laws.OwnMore
import Derived.Deep.QuietTactic
import Derived.BigQuiet
namespace Go.Proofs.Ytfjkchkcgnjkaaa.Fls
open Go.ChangeShapes Go.WideShapes Go.ChangeAt Go.RowKit Go.Deep
open Go.Proofs.Ytfjkchkcgnjkaaa.Flt
attribute [local go_sem] run_store_flt

theorem grown_setCell {w w1 : World} {g : Nat} (h : w.grownBy w1 (some g)) (o : Nat) (u : Value) : w.grownBy (w1.setCell ⟨g, o, none⟩ u) (some g) := by
  refine ⟨h.os, h.tape, h.output, ?_, ?_⟩
  · have := ((Below.refl 0 w1).setCell (p := ⟨g, o, none⟩) (Nat.zero_le _) u).size
    exact Nat.le_trans h.size this
  · intro k hk hne
    rw [Below.heap_setCell w1 ⟨g, o, none⟩ u k (fun e => hne (by rw [e]))]
    exact h.block k hk hne
def fi (n : Int) : Nat := floatOfInt .f64 n
def mid (k0 : Int) (L : List Nat) (j : Nat) : List Nat := (List.range L.length).map fun (i : Nat) => if i < j then fi (k0 + (i : Int)) else L.getD i 0
def sq (k0 : Int) (n : Nat) : List Nat := (List.range n).map fun (i : Nat) => fi (k0 + (i : Int))
theorem mid_len (k0 : Int) (L : List Nat) (j : Nat) : (mid k0 L j).length = L.length := by simp [mid]
theorem sq_len (k0 : Int) (n : Nat) : (sq k0 n).length = n := by simp [sq]
theorem mid_zero (k0 : Int) (L : List Nat) : mid k0 L 0 = L := by
  apply List.ext_getElem (mid_len _ _ _)
  intro i h1 h2
  simp [mid, List.getElem?_eq_getElem h2]
theorem mid_all (k0 : Int) (L : List Nat) : mid k0 L L.length = sq k0 L.length := by
  apply List.ext_getElem (by rw [mid_len, sq_len])
  intro i h1 h2
  rw [mid_len] at h1
  simp [mid, sq, h1]
theorem mid_set (k0 : Int) (L : List Nat) (j : Nat) : (mid k0 L j).set j (fi (k0 + (j : Int))) = mid k0 L (j + 1) := by
  apply List.ext_getElem (by rw [List.length_set, mid_len, mid_len])
  intro i h1 h2
  rw [mid_len] at h2
  rw [List.getElem_set]
  by_cases e : j = i
  · subst e; simp [mid]
  · rw [if_neg e]
    simp only [mid, List.getElem_map, List.getElem_range]
    by_cases x : i < j
    · rw [if_pos x, if_pos (by omega)]
    · rw [if_neg x, if_neg (by omega)]
theorem sq_get (k0 : Int) (n i : Nat) (h : i < n) : (sq k0 n).getD i 0 = fi (k0 + (i : Int)) := by simp [sq, List.getD_eq_getElem?_getD, h]

attribute [local go_sem] run_store_flt

set_option maxHeartbeats 1000000 in
theorem mark_any (w : World) (base : Nat) (v : Value) (L : List Nat) (k0 : Int) (hk0 : 0 ≤ k0) (hk1 : k0 ≤ 1000000) (hn : L.length ≤ 2000000) (h : w.ownsRow base 31 1 v L.length (flts L)) :
    Calls Try.prog 9 #[v, .int .i64 k0] w fun e w' => e = .returned (.int .i64 (k0 + L.length)) ∧ w'.ownsRow base 31 1 v L.length (flts (sq k0 L.length)) ∧ w.grownBy w' v.ownBlock := by
  rcases row_cases h with ⟨rfl, rfl⟩ | ⟨g, c, rfl, _, _, x1, x2⟩
  · go_enter Try.func9, Try.ntmps9
    go_wp2
    go_loop [1, 5] (fun k i => k = .int .i64 k0 ∧ i = .int .i64 0) (fun _ _ => 0)
    case atStart => exact ⟨rfl, rfl⟩
    case round =>
      obtain ⟨rfl, rfl⟩ := hrel
      go_wp2
      go_ret
      exact ⟨by simp, h, World.grownBy.refl _ _⟩
  · have e0 : flts L = flts (mid k0 L 0) := by rw [mid_zero]
    have R0 : Hid (w.ownsRow base 31 1 (.slice (some ⟨g, 0, none⟩) L.length c) L.length (flts (mid k0 L 0))) := (by show World.ownsRow _ _ _ _ _ _ _; rw [← e0]; exact h)
    obtain ⟨n, hn'⟩ : ∃ n, n = L.length := ⟨_, rfl⟩
    rw [← hn'] at x1 hn R0 ⊢
    have HN : Hid (n = L.length) := hn'
    unfold maxLen at x2
    clear h e0 hn'
    go_enter Try.func9, Try.ntmps9
    go_wp2
    go_loopw [1, 5] (fun k i wr => ∃ j : Nat, j ≤ n ∧ k = .int .i64 (k0 + j) ∧ i = .int .i64 j ∧ Hid (wr.ownsRow base 31 1 (.slice (some ⟨g, 0, none⟩) n c) n (flts (mid k0 L j))) ∧ Hid (w.grownBy wr (some g))) (fun _ i _ => n - (intOf i).toNat)
    case atStart => exact ⟨0, Nat.zero_le _, by simp, rfl, R0, World.grownBy.refl _ _⟩
    case round =>
      obtain ⟨j, hj, rfl, rfl, R, G⟩ := hrel
      by_cases hlt : j < n
      · have i0 : (0 : Int) ≤ (j : Int) := by omega
        have i1 : (j : Int) < (n : Int) := by omega
        have q1 : ∃ z, wr.cell? ⟨g, j, none⟩ = some (.float .f64 z) := by
          have := R.out.cellAt j (by omega)
          rw [this]
          have hl : j < (mid k0 L j).length := by rw [mid_len, ← HN.out]; exact hlt
          exact ⟨(mid k0 L j)[j], by simp [flts, List.getElem?_map, List.getElem?_eq_getElem hl]⟩
        obtain ⟨z, q1⟩ := q1
        have q2 : wr.frozen? ⟨g, j, none⟩ = false := R.out.frozenAt j
        have R' : Hid ((wr.setCell ⟨g, j, none⟩ (.float .f64 (floatOfInt .f64 (k0 + j)))).ownsRow base 31 1 (.slice (some ⟨g, 0, none⟩) n c) n (flts (mid k0 L (j + 1)))) := by
          show World.ownsRow _ _ _ _ _ _ _
          rw [← mid_set, ← flts_set]
          exact (R.out.stored j _).1
        have G' : Hid (w.grownBy (wr.setCell ⟨g, j, none⟩ (.float .f64 (floatOfInt .f64 (k0 + j)))) (some g)) := grown_setCell G.out j _
        go_wp2_with fail
        go_roundw
        case rel => exact ⟨j + 1, by omega, by go_num, by go_num, R', G'⟩
        case measure => simp [intOf]; omega
      · have hjn : j = n := by omega
        subst hjn
        have R' : wr.ownsRow base 31 1 (.slice (some ⟨g, 0, none⟩) j c) j (flts (sq k0 j)) := by
          have := R.out
          rw [HN.out, mid_all] at this
          rw [HN.out]
          exact this
        have RH : Hid (wr.ownsRow base 31 1 (.slice (some ⟨g, 0, none⟩) j c) j (flts (sq k0 j))) := R'
        clear R' R
        go_wp2
        go_ret
        exact ⟨rfl, RH.out, G.out⟩

theorem fi_same (n : Int) (h : n.natAbs < 9007199254740992) : (ord (floatOfInt .f64 n) (floatOfInt .f64 n) != some .eq) = false := by
  rw [self_ne]
  have := (fl_num n h).1
  unfold nan
  exact decide_eq_false (by show ¬ _ < rng (floatOfInt .f64 n); omega)
set_option maxHeartbeats 1000000 in
theorem held_any (w : World) (v : Value) (n : Nat) (hn : n ≤ 4000) (h : Reads w v (sq 1 n)) :
    Calls Try.prog 10 #[v, .int .i64 1] w fun e w' => e = .returned (.int .i64 (1 + (n : Int))) ∧ w' = w := by
  by_cases h0 : n = 0
  · subst h0
    obtain ⟨a, cap, rfl⟩ := h.form
    rw [sq_len]
    clear h
    go_enter Try.func10, Try.ntmps10
    go_wp2
    go_loop [1, 5] (fun k i => k = .int .i64 1 ∧ i = .int .i64 0) (fun _ _ => 0)
    case atStart => exact ⟨rfl, rfl⟩
    case round =>
      obtain ⟨rfl, rfl⟩ := hrel
      go_wp2
      go_ret
      exact ⟨rfl, rfl⟩
  · rcases h with ⟨e, _⟩ | ⟨b, o, cap, rfl, h1, h2, h3, h4⟩
    · have := congrArg List.length e
      rw [sq_len] at this
      simp at this
      omega
    rw [sq_len] at h1 h4 ⊢
    have K : Hid (∀ i, i < n → w.cell? ⟨b, o + i, none⟩ = some (.float .f64 (floatOfInt .f64 (1 + (i : Int))))) := fun i hi => by
      have := h4 i hi
      rw [sq_get 1 n i hi] at this
      exact this
    clear h1 h2 h4 h0
    go_enter Try.func10, Try.ntmps10
    go_wp2_with fail
    go_loop [1, 5] (fun k i => ∃ j : Nat, j ≤ n ∧ k = .int .i64 (1 + (j : Int)) ∧ i = .int .i64 j) (fun _ i => n - (intOf i).toNat)
    case atStart => exact ⟨0, Nat.zero_le _, by simp, rfl⟩
    case round =>
      obtain ⟨j, hj, rfl, rfl⟩ := hrel
      by_cases hlt : j < n
      · have i0 : (0 : Int) ≤ (j : Int) := by omega
        have i1 : (j : Int) < (n : Int) := by omega
        have q := K.out j hlt
        have fs := fi_same (1 + (j : Int)) (by omega)
        unfold ord at fs
        have j1 : IntKind.i64.wrap (1 + (j : Int) + 1) = 1 + (j : Int) + 1 := IntWalk.i64_in _ (by omega)
        go_wp2_with fail
        go_round
        case rel => exact ⟨j + 1, by omega, by go_num, by go_num⟩
        case measure => simp [intOf]; omega
      · have hjn : j = n := by omega
        subst hjn
        go_wp2_with fail
        go_ret
        exact ⟨rfl, rfl⟩
end Go.Proofs.Ytfjkchkcgnjkaaa.Fls
