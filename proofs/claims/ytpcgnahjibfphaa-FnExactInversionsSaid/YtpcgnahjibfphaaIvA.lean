/- Rows of spans that a call owns: compared, marked, held; a row of levels marked. -/
import Derived.Test.YtpcgnahjibfphaaAscL
namespace Go.Proofs.Ytpcgnahjibfphaa.Flt
open Go.ChangeShapes Go.WideShapes Go.ChangeAt Go.RowKit
attribute [local go_sem] run_store_float

abbrev ints (C : List Int) : List Value := C.map (Value.int .i64)
abbrev sp (a b : Int) : Value := .agg #[.int .i64 a, .int .i64 b]
theorem row_cases {w : World} {base n : Nat} {e : TypeId} {k : Nat} {v : Value} {xs : List Value} (h : w.ownsRow base e k v n xs) :
    (n = 0 ∧ v = .slice none 0 0) ∨ ∃ g cap, v = .slice (some ⟨g, 0, none⟩) n cap ∧ base ≤ g ∧ g < w.heap.size ∧ n ≤ cap ∧ cap ≤ maxLen := by
  obtain ⟨h0, h⟩ := h
  rcases h with ⟨rfl, hn⟩ | ⟨g, cap, cur, rfl, hb, hh, hc, hm, _⟩
  · exact Or.inl ⟨hn, rfl⟩
  · refine Or.inr ⟨g, cap, rfl, hb, ?_, hc, hm⟩
    by_cases x : g < w.heap.size
    · exact x
    · rw [Array.getElem?_eq_none (by omega)] at hh; cases hh
theorem row_cell {w : World} {base g cap n : Nat} {e : TypeId} {C : List Int} (h : w.ownsRow base e 2 (.slice (some ⟨g, 0, none⟩) n cap) n (ints C)) (i : Nat) (hi : i < n * 2) : w.cell? ⟨g, i, none⟩ = some (.int .i64 (C.getD i 0)) := by
  have hl : C.length = n * 2 := by have := h.1; simpa [ints] using this
  rw [h.cellAt i hi]
  simp [ints, List.getElem?_map, List.getElem?_eq_getElem (by omega : i < C.length)]
theorem row_grown {w w' : World} {base n k : Nat} {e : TypeId} {v : Value} {xs : List Value} {row : Option Nat} (h : w.ownsRow base e k v n xs) (hg : w.grownBy w' row) (hne : ∀ g, v.ownBlock = some g → row ≠ some g) : w'.ownsRow base e k v n xs := by
  refine ⟨h.1, ?_⟩
  rcases h.2 with h2 | ⟨g, cap, cur, h1, h2, h3, h4⟩
  · exact .inl h2
  · have hlt : g < w.heap.size := by
      rcases Nat.lt_or_ge g w.heap.size with x | x
      · exact x
      · rw [Array.getElem?_eq_none x] at h3; cases h3
    exact .inr ⟨g, cap, cur, h1, h2, (hg.block g hlt (fun e => hne g (by rw [h1]; rfl) e.symm)).trans h3, h4⟩
theorem grown_setCell {w w1 : World} {g : Nat} (h : w.grownBy w1 (some g)) (o : Nat) (u : Value) : w.grownBy (w1.setCell ⟨g, o, none⟩ u) (some g) := by
  refine ⟨h.os, h.tape, h.output, ?_, ?_⟩
  · have := ((Below.refl 0 w1).setCell (p := ⟨g, o, none⟩) (Nat.zero_le _) u).size
    exact Nat.le_trans h.size this
  · intro k hk hne
    rw [Below.heap_setCell w1 ⟨g, o, none⟩ u k (fun e => hne (by rw [e]))]
    exact h.block k hk hne

set_option maxHeartbeats 1000000 in
theorem eqSpan_any (a b : Int) (w : World) : Calls Try.prog 34 #[sp a b, sp a b] w fun e w' => e = .returned (.bool true) ∧ Below w.heap.size w w' := by
  go_enter Try.func34, Try.ntmps34
  go_wp2_with fail
  go_ret
  exact ⟨rfl, ((Below.refl _ _).alloc (Nat.le_refl _) _).alloc (by simp) _⟩

set_option maxHeartbeats 1000000 in
theorem eqs_zero (w : World) (a1 a2 : Option Addr) (c1 c2 : Nat) : Calls Try.prog 21 #[.slice a1 0 c1, .slice a2 0 c2] w fun e w' => e = .returned (.bool true) ∧ Below w.heap.size w w' := by
  go_enter Try.func21, Try.ntmps21
  go_wp2
  go_loop [5] (fun i => i = .int .i64 0) (fun _ => 0)
  case atStart => rfl
  case round =>
    subst hrel
    go_wp2
    go_ret
    exact ⟨rfl, Below.refl _ _⟩

set_option maxHeartbeats 1000000 in
theorem eqs (w : World) (B1 B2 n : Nat) (v1 v2 : Value) (C : List Int) (h1 : w.ownsRow B1 51 2 v1 n (ints C)) (h2 : w.ownsRow B2 51 2 v2 n (ints C)) :
    Calls Try.prog 21 #[v1, v2] w fun e w' => e = .returned (.bool true) ∧ Below w.heap.size w w' := by
  rcases row_cases h1 with ⟨rfl, rfl⟩ | ⟨b1, c1, rfl, _, x3, x1, x2⟩
  · rcases row_cases h2 with ⟨_, rfl⟩ | ⟨b2, c2, rfl, _, _, _, _⟩
    · exact eqs_zero w _ _ _ _
    · exact eqs_zero w _ _ _ _
  · rcases row_cases h2 with ⟨rfl, rfl⟩ | ⟨b2, c2, rfl, _, y3, y1, y2⟩
    · exact eqs_zero w _ _ _ _
    have K1 : Hid (b1 < w.heap.size ∧ ∀ i, i < n * 2 → w.cell? ⟨b1, i, none⟩ = some (.int .i64 (C.getD i 0))) := ⟨x3, row_cell h1⟩
    have K2 : Hid (b2 < w.heap.size ∧ ∀ i, i < n * 2 → w.cell? ⟨b2, i, none⟩ = some (.int .i64 (C.getD i 0))) := ⟨y3, row_cell h2⟩
    unfold maxLen at x2 y2
    clear h1 h2
    go_enter Try.func21, Try.ntmps21
    go_wp2
    go_loopw [5] (fun i wr => ∃ k : Nat, k ≤ n ∧ i = .int .i64 k ∧ Hid (Below w.heap.size w wr)) (fun i _ => n - (intOf i).toNat)
    case atStart => exact ⟨0, Nat.zero_le _, rfl, Below.refl _ _⟩
    case round =>
      obtain ⟨k, hk, rfl, BR⟩ := hrel
      by_cases hlt : k < n
      · have q1 : wr.cell? ⟨b1, k * 2, none⟩ = some (.int .i64 (C.getD (k * 2) 0)) := (BR.out.cell (p := ⟨b1, k * 2, none⟩) K1.out.1).trans (K1.out.2 (k * 2) (by omega))
        have q2 : wr.cell? ⟨b1, k * 2 + 1, none⟩ = some (.int .i64 (C.getD (k * 2 + 1) 0)) := (BR.out.cell (p := ⟨b1, k * 2 + 1, none⟩) K1.out.1).trans (K1.out.2 (k * 2 + 1) (by omega))
        have q3 : wr.cell? ⟨b2, k * 2, none⟩ = some (.int .i64 (C.getD (k * 2) 0)) := (BR.out.cell (p := ⟨b2, k * 2, none⟩) K2.out.1).trans (K2.out.2 (k * 2) (by omega))
        have q4 : wr.cell? ⟨b2, k * 2 + 1, none⟩ = some (.int .i64 (C.getD (k * 2 + 1) 0)) := (BR.out.cell (p := ⟨b2, k * 2 + 1, none⟩) K2.out.1).trans (K2.out.2 (k * 2 + 1) (by omega))
        have i0 : (0 : Int) ≤ (k : Int) := by omega
        have i1 : (k : Int) < (n : Int) := by omega
        generalize C.getD (k * 2) 0 = z at *
        generalize C.getD (k * 2 + 1) 0 = u at *
        go_wp2_with fail
        go_region_held3 (fun w' => w'.cell? ⟨b1, k * 2, none⟩ = some (.int .i64 z) ∧ w'.cell? ⟨b1, k * 2 + 1, none⟩ = some (.int .i64 u) ∧ w'.cell? ⟨b2, k * 2, none⟩ = some (.int .i64 z) ∧ w'.cell? ⟨b2, k * 2 + 1, none⟩ = some (.int .i64 u)) (go_keep)
          (first
          | (go_at_call 34; refine (eqSpan_any _ _ _).mono ?_; rintro e w1 ⟨rfl, hb1⟩; have B1 := BR.out.drew.trans (hb1.mono BR.out.size); have k1 := K1.out.1; have k2 := K2.out.1; have r1 := (hb1.cell (p := ⟨b1, k * 2, none⟩) (Nat.lt_of_lt_of_le k1 BR.out.size)).trans q1; have r2 := (hb1.cell (p := ⟨b1, k * 2 + 1, none⟩) (Nat.lt_of_lt_of_le k1 BR.out.size)).trans q2; have r3 := (hb1.cell (p := ⟨b2, k * 2, none⟩) (Nat.lt_of_lt_of_le k2 BR.out.size)).trans q3; have r4 := (hb1.cell (p := ⟨b2, k * 2 + 1, none⟩) (Nat.lt_of_lt_of_le k2 BR.out.size)).trans q4))
        go_wp2_with fail
        go_roundw
        case rel => exact ⟨k + 1, by omega, by go_num, B1⟩
        case measure => simp [intOf]; omega
      · go_wp2
        go_ret
        exact ⟨rfl, BR.out⟩

def sq (k0 : Int) (m : Nat) : List Int := (List.range m).map fun (i : Nat) => k0 + (i : Int)
theorem sq_get (k0 : Int) (m i : Nat) (h : i < m) : (sq k0 m).getD i 0 = k0 + (i : Int) := by simp [sq, List.getD_eq_getElem?_getD, h]
theorem sq_of {xs : List Value} {k0 : Int} {m : Nat} (hl : xs.length = m) (h : ∀ i, i < m → xs[i]? = some (.int .i64 (k0 + (i : Int)))) : xs = ints (sq k0 m) := by
  apply List.ext_getElem (by simp [sq, hl])
  intro i h1 h2
  have := h i (by omega)
  rw [List.getElem?_eq_getElem h1] at this
  simp at this
  rw [this]
  simp [sq]

set_option maxHeartbeats 1000000 in
theorem marks (w : World) (base n : Nat) (v : Value) (C : List Int) (hn : n ≤ 1048576) (h : w.ownsRow base 51 2 v n (ints C)) :
    Calls Try.prog 23 #[v, .int .i64 1] w fun e w' => e = .returned (.int .i64 (1 + (n : Int) * 2)) ∧ w'.ownsRow base 51 2 v n (ints (sq 1 (n * 2))) ∧ w.grownBy w' v.ownBlock := by
  rcases row_cases h with ⟨rfl, rfl⟩ | ⟨g, c, rfl, g0, g1, x1, x2⟩
  · go_enter Try.func23, Try.ntmps23
    go_wp2
    go_loop [1, 5] (fun k i => k = .int .i64 1 ∧ i = .int .i64 0) (fun _ _ => 0)
    case atStart => exact ⟨rfl, rfl⟩
    case round =>
      obtain ⟨rfl, rfl⟩ := hrel
      go_wp2
      go_ret
      exact ⟨rfl, ⟨rfl, .inl ⟨rfl, rfl⟩⟩, World.grownBy.refl _ _⟩
  · have H0 : Hid (∃ xs, w.ownsRow base 51 2 (.slice (some ⟨g, 0, none⟩) n c) n xs ∧ ∀ i, i < 0 * 2 → xs[i]? = some (.int .i64 (1 + (i : Int)))) := ⟨_, h, fun i hi => absurd hi (by omega)⟩
    unfold maxLen at x2
    clear h
    go_enter Try.func23, Try.ntmps23
    go_wp2
    go_loopw [1, 5] (fun q i wr => ∃ k : Nat, k ≤ n ∧ i = .int .i64 k ∧ q = .int .i64 (1 + (k : Int) * 2) ∧ Hid (∃ xs, wr.ownsRow base 51 2 (.slice (some ⟨g, 0, none⟩) n c) n xs ∧ ∀ i, i < k * 2 → xs[i]? = some (.int .i64 (1 + (i : Int)))) ∧ Hid (w.grownBy wr (some g))) (fun _ i _ => n - (intOf i).toNat)
    case atStart => exact ⟨0, Nat.zero_le _, rfl, rfl, H0, World.grownBy.refl _ _⟩
    case round =>
      obtain ⟨k, hk, rfl, rfl, R, GR⟩ := hrel
      by_cases hlt : k < n
      · obtain ⟨xs, R1, R2⟩ := R.out
        have lx : xs.length = n * 2 := R1.1
        have i0 : (0 : Int) ≤ (k : Int) := by omega
        have i1 : (k : Int) < (n : Int) := by omega
        obtain ⟨z1, q1⟩ : ∃ z, wr.cell? ⟨g, k * 2, none⟩ = some z := ⟨xs[k * 2]'(by omega), by rw [R1.cellAt (k * 2) (by omega)]; exact List.getElem?_eq_getElem _⟩
        obtain ⟨z2, q2⟩ : ∃ z, wr.cell? ⟨g, k * 2 + 1, none⟩ = some z := ⟨xs[k * 2 + 1]'(by omega), by rw [R1.cellAt (k * 2 + 1) (by omega)]; exact List.getElem?_eq_getElem _⟩
        have q3 : wr.frozen? ⟨g, k * 2, none⟩ = false := R1.frozenAt _
        have q4 : wr.frozen? ⟨g, k * 2 + 1, none⟩ = false := R1.frozenAt _
        have R' : Hid (∃ xs, ((wr.setCell ⟨g, k * 2, none⟩ (.int .i64 (1 + (k : Int) * 2))).setCell ⟨g, k * 2 + 1, none⟩ (.int .i64 (1 + (k : Int) * 2 + 1))).ownsRow base 51 2 (.slice (some ⟨g, 0, none⟩) n c) n xs ∧ ∀ i, i < (k + 1) * 2 → xs[i]? = some (.int .i64 (1 + (i : Int)))) := by
          refine ⟨_, ((R1.stored (k * 2) _).1.stored (k * 2 + 1) _).1, fun i hi => ?_⟩
          by_cases e1 : i = k * 2 + 1
          · subst e1; rw [List.getElem?_set_self (by simp; omega)]; congr 2
          · rw [List.getElem?_set_ne (by omega)]
            by_cases e2 : i = k * 2
            · subst e2; rw [List.getElem?_set_self (by omega)]; congr 2
            · rw [List.getElem?_set_ne (by omega)]; exact R2 i (by omega)
        have G' : Hid (w.grownBy ((wr.setCell ⟨g, k * 2, none⟩ (.int .i64 (1 + (k : Int) * 2))).setCell ⟨g, k * 2 + 1, none⟩ (.int .i64 (1 + (k : Int) * 2 + 1))) (some g)) := grown_setCell (grown_setCell GR.out _ _) _ _
        have j1 : IntKind.i64.wrap (1 + (k : Int) * 2 + 1) = 1 + (k : Int) * 2 + 1 := IntWalk.i64_in _ (by omega)
        have j2 : IntKind.i64.wrap (1 + (k : Int) * 2 + 1 + 1) = 1 + (k : Int) * 2 + 1 + 1 := IntWalk.i64_in _ (by omega)
        have j3 : IntKind.i64.wrap (1 + (k : Int) * 2) = 1 + (k : Int) * 2 := IntWalk.i64_in _ (by omega)
        obtain ⟨y, hy⟩ : ∃ y, 1 + (k : Int) * 2 = y := ⟨_, rfl⟩
        have HY : Hid (1 + (k : Int) * 2 = y) := hy
        rw [hy] at R' G' j1 j2 j3 ⊢
        clear R R1 R2 lx hy
        go_wp2_with fail
        go_roundw
        case rel => exact ⟨k + 1, by omega, by go_num, by congr 1; have := HY.out; omega, R', G'⟩
        case measure => simp [intOf]; omega
      · have e : k = n := by omega
        subst e
        have RE : Hid (wr.ownsRow base 51 2 (.slice (some ⟨g, 0, none⟩) k c) k (ints (sq 1 (k * 2)))) := by
          obtain ⟨xs, R1, R2⟩ := R.out
          have := sq_of R1.1 R2
          rw [← this]
          exact R1
        have j1 : ¬ (k : Int) < (k : Int) := by omega
        clear R
        go_wp2_with fail
        go_ret
        exact ⟨rfl, RE.out, GR.out⟩
end Go.Proofs.Ytpcgnahjibfphaa.Flt
