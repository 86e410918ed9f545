/- The reader of a code's bytes: what it holds, and one byte taken. -/
import Derived.Test.YtmopkbkdfipglaaRows
import Derived.WalkKit
import Derived.ProofKit
import Derived.OpenShut
import Derived.WalkSpells
import Derived.Below
import Derived.Outline
import Derived.OwnWalk
import Derived.WalkSmall
import Derived.Laws.OwnMore
import Derived.Deep.QuietTactic
import Derived.BigQuiet
namespace Go.Proofs.Ytmopkbkdfipglaa.Rd
open Go.ChangeShapes Go.WideShapes Go.ChangeAt Go.RowKit

/-- Nothing but block r and new blocks has turned. -/
structure Turn (r : Nat) (w w' : World) : Prop where
  bel : Below r w w'
  abv : ∀ k, r < k → k < w.heap.size → w'.heap[k]? = w.heap[k]?

theorem Turn.refl (r : Nat) (w : World) : Turn r w w := ⟨Below.refl _ _, fun _ _ _ => rfl⟩
theorem Turn.trans {r : Nat} {a b c : World} (h : Turn r a b) (k : Turn r b c) : Turn r a c :=
  ⟨h.bel.trans k.bel, fun i h1 h2 => (k.abv i h1 (Nat.lt_of_lt_of_le h2 h.bel.size)).trans (h.abv i h1 h2)⟩
theorem Turn.of {r B : Nat} {a b : World} (h : Below B a b) (hB : a.heap.size ≤ B) (hr : r ≤ B) : Turn r a b :=
  ⟨h.mono hr, fun i _ h2 => h.block i (by omega)⟩
theorem Turn.cell {r : Nat} {w w' : World} (h : Turn r w w') {b : Nat} (o : Nat) (h1 : b < w.heap.size) (h2 : b ≠ r) : w'.cell? ⟨b, o, none⟩ = w.cell? ⟨b, o, none⟩ := by
  refine World.cell?_of_block (w := w) ?_
  by_cases hb : b < r
  · exact h.bel.block b hb
  · exact h.abv b (by omega) h1
theorem Turn.frozen {r : Nat} {w w' : World} (h : Turn r w w') {b : Nat} (o : Nat) (h1 : b < w.heap.size) (h2 : b ≠ r) : w'.frozen? ⟨b, o, none⟩ = w.frozen? ⟨b, o, none⟩ := by
  refine World.frozen?_of_block (w := w) ?_
  by_cases hb : b < r
  · exact h.bel.block b hb
  · exact h.abv b (by omega) h1
theorem Turn.size {r : Nat} {w w' : World} (h : Turn r w w') : w.heap.size ≤ w'.heap.size := h.bel.size

/-- A reader lies at block r, over bytes that lie ahead of it. -/
def Rd (r : Nat) (w : World) : Prop := ∃ (a : Option Addr) (n cap p : Nat), r < w.heap.size ∧ w.cell? ⟨r, 0, none⟩ = some (.slice a n cap) ∧ w.cell? ⟨r, 1, none⟩ = some (.int .i64 p) ∧
  w.frozen? ⟨r, 1, none⟩ = false ∧ p ≤ n ∧ n ≤ 1048576 ∧ (n = 0 ∨ ∃ b o, a = some ⟨b, o, none⟩ ∧ b < r ∧ n ≤ cap ∧ cap ≤ maxLen ∧ ∀ i, i < n → ∃ u : Nat, u ≤ 255 ∧ w.cell? ⟨b, o + i, none⟩ = some (.int .u8 u))

theorem Rd.lt {r : Nat} {w : World} (h : Rd r w) : r < w.heap.size := by
  obtain ⟨a, n, cap, p, h1, _⟩ := h
  exact h1

theorem Rd.kept {r : Nat} {w w' : World} (h : Rd r w) {B : Nat} (hb : Below B w w') (hB : r < B) : Rd r w' := by
  obtain ⟨a, n, cap, p, h1, h2, h3, h4, h5, h6, h7⟩ := h
  refine ⟨a, n, cap, p, Nat.lt_of_lt_of_le h1 hb.size, (hb.cell (by simpa using hB)).trans h2, (hb.cell (by simpa using hB)).trans h3, (hb.frozen (by simpa using hB)).trans h4, h5, h6, ?_⟩
  rcases h7 with h7 | ⟨b, o, q1, q2, q3, q4, q5⟩
  · exact Or.inl h7
  · refine Or.inr ⟨b, o, q1, q2, q3, q4, fun i hi => ?_⟩
    obtain ⟨u, g1, g2⟩ := q5 i hi
    exact ⟨u, g1, (hb.cell (p := ⟨b, o + i, none⟩) (by show b < B; omega)).trans g2⟩

/-- The reader is moved on by one. -/
theorem Rd.on {r : Nat} {w w' : World} (a : Option Addr) (n cap p : Nat) (h1 : r < w'.heap.size) (h2 : w'.cell? ⟨r, 0, none⟩ = some (.slice a n cap)) (h3 : w'.cell? ⟨r, 1, none⟩ = some (.int .i64 p))
    (h4 : w'.frozen? ⟨r, 1, none⟩ = false) (h5 : p ≤ n) (h6 : n ≤ 1048576)
    (h7 : n = 0 ∨ ∃ b o, a = some ⟨b, o, none⟩ ∧ b < r ∧ n ≤ cap ∧ cap ≤ maxLen ∧ ∀ i, i < n → ∃ u : Nat, u ≤ 255 ∧ w.cell? ⟨b, o + i, none⟩ = some (.int .u8 u)) (hb : Below r w w') : Rd r w' := by
  refine ⟨a, n, cap, p, h1, h2, h3, h4, h5, h6, ?_⟩
  rcases h7 with h7 | ⟨b, o, q1, q2, q3, q4, q5⟩
  · exact Or.inl h7
  · refine Or.inr ⟨b, o, q1, q2, q3, q4, fun i hi => ?_⟩
    obtain ⟨u, g1, g2⟩ := q5 i hi
    exact ⟨u, g1, (hb.cell (p := ⟨b, o + i, none⟩) q2).trans g2⟩

set_option maxHeartbeats 1000000 in
theorem next_any (r : Nat) (w : World) (h : Rd r w) :
    Calls Try.prog 37 #[.pointer (some ⟨r, 0, none⟩)] w fun e w' => (∃ u : Nat, u ≤ 255 ∧ e = .returned (.int .i64 u)) ∧ Rd r w' ∧ Turn r w w' := by
  have h' := h
  obtain ⟨a, n, cap, p, h1, h2, h3, h4, h5, h6, h7⟩ := h
  by_cases hp : p = n
  · subst hp
    have h8 : (p : Int) ≤ (p : Int) := by omega
    have H7 : Hid (Rd r w) := h'
    clear h7 h' h5 h6
    go_enter Try.func37, Try.ntmps37
    go_wp2_with fail
    go_region
    go_wp2_with fail
    go_ret
    exact ⟨⟨0, by omega, rfl⟩, H7.out.kept (Below.refl (r + 1) w).drew (by omega), ⟨(Below.refl _ _).drew, fun _ _ _ => rfl⟩⟩
  · have hlt : p < n := by omega
    have H7 : Hid (n = 0 ∨ ∃ b o, a = some ⟨b, o, none⟩ ∧ b < r ∧ n ≤ cap ∧ cap ≤ maxLen ∧ ∀ i, i < n → ∃ u : Nat, u ≤ 255 ∧ w.cell? ⟨b, o + i, none⟩ = some (.int .u8 u)) := h7
    rcases h7 with h7 | ⟨b, o, rfl, q2, q3, q4, q5⟩
    · omega
    · obtain ⟨u, g1, g2⟩ := q5 p hlt
      have hbr : ¬ (b = r) := by omega
      have hbr2 : ¬ (r = b) := by omega
      have i1 : (p : Int) < (n : Int) := by omega
      have i0 : (0 : Int) ≤ (p : Int) := by omega
      clear q5 h' hp
      go_enter Try.func37, Try.ntmps37
      go_wp2_with fail
      go_region
      go_wp2_with fail
      go_region
      go_wp2_with fail
      go_ret
      have hb : Below r w ((w.setCell ⟨r, 1, none⟩ (.int .i64 ((p : Int) + 1))).drew.drew) := ((Below.refl _ _).setCell (p := ⟨r, 1, none⟩) (Nat.le_refl _) _).drew.drew
      refine ⟨⟨u, g1, rfl⟩, Rd.on (w := w) (some ⟨b, o, none⟩) n cap (p + 1) (by simpa using h1) (by simpa [go_sem] using h2) (by simp [go_sem, h3]) (by simpa [go_sem] using h4) (by omega) h6 H7.out hb, ⟨hb, fun k h1 h2 => ?_⟩⟩
      exact Below.heap_setCell w _ _ k (by simp; omega)

/-- What every draw gives: a number of which Q holds, the reader again, nothing else turned. -/
abbrev Drawn (r : Nat) (w : World) (Q : Int → Prop) (e : Ending) (w' : World) : Prop := (∃ u : Int, Q u ∧ e = .returned (.int .i64 u)) ∧ Rd r w' ∧ Turn r w w'

set_option maxHeartbeats 1000000 in
theorem below_any (r : Nat) (w : World) (h : Rd r w) (n : Nat) (h1 : 1 < n) (h2 : n ≤ 60000) :
    Calls Try.prog 31 #[.pointer (some ⟨r, 0, none⟩), .int .i64 n] w (Drawn r w fun u => 0 ≤ u ∧ u < n) := by
  by_cases hn : n ≤ 256
  · have i0 : (n : Int) ≤ 256 := by omega
    have i2 : ¬ ((n : Int) ≤ 1) := by omega
    have i3 : ¬ ((n : Int) = 0) := by omega
    go_enter Try.func31, Try.ntmps31
    go_wp2_with fail
    refine (next_any r _ h).mono ?_
    rintro e w1 ⟨⟨u, hu, rfl⟩, k1, k2⟩
    go_wp2_with fail
    go_ret
    exact ⟨⟨_, ⟨Int.emod_nonneg _ (by omega), Int.emod_lt_of_pos _ (by omega)⟩, rfl⟩, k1, k2⟩
  · have i0 : ¬ ((n : Int) ≤ 256) := by omega
    have i2 : ¬ ((n : Int) ≤ 1) := by omega
    have i3 : ¬ ((n : Int) = 0) := by omega
    go_enter Try.func31, Try.ntmps31
    go_wp2_with fail
    refine (next_any r _ h).mono ?_
    rintro e w1 ⟨⟨u, hu, rfl⟩, k1, k2⟩
    go_wp2_with fail
    refine (next_any r _ k1).mono ?_
    rintro e w2 ⟨⟨v, hv, rfl⟩, k3, k4⟩
    go_wp2_with fail
    go_ret
    exact ⟨⟨_, ⟨Int.emod_nonneg _ (by omega), Int.emod_lt_of_pos _ (by omega)⟩, rfl⟩, k3, k2.trans k4⟩


set_option maxHeartbeats 1000000 in
theorem once_any (r : Nat) (w : World) (h : Rd r w) (n : Nat) (h1 : 1 < n) (h2 : n ≤ 60000) :
    Calls Try.prog 36 #[.pointer (some ⟨r, 0, none⟩), .int .i64 n] w fun e w' => (∃ u : Bool, e = .returned (.bool u)) ∧ Rd r w' ∧ Turn r w w' := by
  go_enter Try.func36, Try.ntmps36
  go_wp2_with fail
  refine (below_any r _ h n h1 h2).mono ?_
  rintro e w1 ⟨⟨u, ⟨hu1, hu2⟩, rfl⟩, k1, k2⟩
  go_wp2_with fail
  go_ret
  exact ⟨⟨_, rfl⟩, k1, k2⟩

theorem or_in (a b : Int) : 0 ≤ bits .or .u64 a b ∧ bits .or .u64 a b < 18446744073709551616 := by
  obtain ⟨z, hz⟩ : ∃ z, bits .or .u64 a b = IntKind.u64.wrap z := ⟨_, rfl⟩
  rw [hz]
  simp only [IntKind.wrap, IntKind.bits, IntKind.signed]
  simp
  omega

abbrev Any (_ : Int) : Prop := True

abbrev six : Obj := .cells #[.int .i64 (-1), .int .i64 52596000, .int .i64 52596001, .int .i64 0, .int .i64 9223372036854775807, .int .i64 (-9223372036854775808)] 2
theorem oneOf (u : Int) (h0 : 0 ≤ u) (h1 : u < 6) : u = 0 ∨ u = 1 ∨ u = 2 ∨ u = 3 ∨ u = 4 ∨ u = 5 := by omega

theorem Turn.alloc {r : Nat} {a w : World} (h : Turn r a w) (hr : r < a.heap.size) (o : Obj) : Turn r a (w.alloc o) :=
  h.trans (Turn.of ((Below.refl w.heap.size w).alloc (Nat.le_refl _) o) (Nat.le_refl _) (by have := h.size; omega))
theorem Turn.setCell {r : Nat} {a w : World} (h : Turn r a w) {p : Addr} (hp : a.heap.size ≤ p.block) (hr : r < a.heap.size) (u : Value) : Turn r a (w.setCell p u) :=
  ⟨h.bel.setCell (by omega) u, fun k h1 h2 => (Below.heap_setCell w p u k (by omega)).trans (h.abv k h1 h2)⟩

end Go.Proofs.Ytmopkbkdfipglaa.Rd
