/- The reader of a code's bytes: what each draw gives, told as a function of the bytes and of the place. -/
import Derived.Test.YtfjkchkcgnjkaaaRows
import Derived.WalkKit
import Derived.ProofKit
import Derived.OpenShut
import Derived.WalkSpells
import Derived.Below
import Derived.Outline
import Derived.OwnWalk
import Derived.WalkSmall
import Derived.Laws.OwnMore
import Derived.Deep.QuietTactic
import Derived.BigQuiet
namespace Go.Proofs.Ytfjkchkcgnjkaaa.Fd
open Go.ChangeShapes Go.WideShapes Go.ChangeAt Go.RowKit

/-- Nothing but block r and new blocks has turned. -/
structure Turn (r : Nat) (w w' : World) : Prop where
  bel : Below r w w'
  abv : ∀ k, r < k → k < w.heap.size → w'.heap[k]? = w.heap[k]?

theorem Turn.refl (r : Nat) (w : World) : Turn r w w := ⟨Below.refl _ _, fun _ _ _ => rfl⟩
theorem Turn.trans {r : Nat} {a b c : World} (h : Turn r a b) (k : Turn r b c) : Turn r a c :=
  ⟨h.bel.trans k.bel, fun i h1 h2 => (k.abv i h1 (Nat.lt_of_lt_of_le h2 h.bel.size)).trans (h.abv i h1 h2)⟩
theorem Turn.of {r B : Nat} {a b : World} (h : Below B a b) (hB : a.heap.size ≤ B) (hr : r ≤ B) : Turn r a b :=
  ⟨h.mono hr, fun i _ h2 => h.block i (by omega)⟩
theorem Turn.cell {r : Nat} {w w' : World} (h : Turn r w w') {b : Nat} (o : Nat) (h1 : b < w.heap.size) (h2 : b ≠ r) : w'.cell? ⟨b, o, none⟩ = w.cell? ⟨b, o, none⟩ := by
  refine World.cell?_of_block (w := w) ?_
  by_cases hb : b < r
  · exact h.bel.block b hb
  · exact h.abv b (by omega) h1
theorem Turn.heap {r : Nat} {w w' : World} (h : Turn r w w') {b : Nat} (h1 : b < w.heap.size) (h2 : b ≠ r) : w'.heap[b]? = w.heap[b]? := by
  by_cases hb : b < r
  · exact h.bel.block b hb
  · exact h.abv b (by omega) h1
theorem Turn.frozen {r : Nat} {w w' : World} (h : Turn r w w') {b : Nat} (o : Nat) (h1 : b < w.heap.size) (h2 : b ≠ r) : w'.frozen? ⟨b, o, none⟩ = w.frozen? ⟨b, o, none⟩ := by
  refine World.frozen?_of_block (w := w) ?_
  by_cases hb : b < r
  · exact h.bel.block b hb
  · exact h.abv b (by omega) h1
theorem Turn.size {r : Nat} {w w' : World} (h : Turn r w w') : w.heap.size ≤ w'.heap.size := h.bel.size
theorem Turn.alloc {r : Nat} {a w : World} (h : Turn r a w) (hr : r < a.heap.size) (o : Obj) : Turn r a (w.alloc o) :=
  h.trans (Turn.of ((Below.refl w.heap.size w).alloc (Nat.le_refl _) o) (Nat.le_refl _) (by have := h.size; omega))
theorem Turn.setCell {r : Nat} {a w : World} (h : Turn r a w) {p : Addr} (hp : a.heap.size ≤ p.block) (hr : r < a.heap.size) (u : Value) : Turn r a (w.setCell p u) :=
  ⟨h.bel.setCell (by omega) u, fun k h1 h2 => (Below.heap_setCell w p u k (by omega)).trans (h.abv k h1 h2)⟩

/-- The bytes B lie in memory, in a block below lim. -/
def Cod (B : List UInt8) (a : Option Addr) (cap : Nat) (w : World) (lim : Nat) : Prop :=
  B.length = 0 ∨ ∃ b o, a = some ⟨b, o, none⟩ ∧ b < lim ∧ B.length ≤ cap ∧ cap ≤ maxLen ∧ ∀ i, i < B.length → w.cell? ⟨b, o + i, none⟩ = some (.int .u8 ((B.getD i 0).toNat : Nat))
theorem Cod.kept {B : List UInt8} {a : Option Addr} {cap lim : Nat} {w w' : World} (h : Cod B a cap w lim) {K : Nat} (hb : Below K w w') (hK : lim ≤ K) : Cod B a cap w' lim := by
  rcases h with h | ⟨b, o, q1, q2, q3, q4, q5⟩
  · exact Or.inl h
  · exact Or.inr ⟨b, o, q1, q2, q3, q4, fun i hi => (hb.cell (p := ⟨b, o + i, none⟩) (by show b < K; omega)).trans (q5 i hi)⟩
theorem Cod.up {B : List UInt8} {a : Option Addr} {cap lim lim' : Nat} {w : World} (h : Cod B a cap w lim) (hl : lim ≤ lim') : Cod B a cap w lim' := by
  rcases h with h | ⟨b, o, q1, q2, q3⟩
  · exact Or.inl h
  · exact Or.inr ⟨b, o, q1, by omega, q3⟩

/-- A slice of bytes that came in. -/
def Code (w : World) (a : Option Addr) (n cap : Nat) : Prop :=
  n = 0 ∨ ∃ b o, a = some ⟨b, o, none⟩ ∧ b < w.heap.size ∧ n ≤ cap ∧ cap ≤ maxLen ∧ ∀ i, i < n → ∃ u : Nat, u ≤ 255 ∧ w.cell? ⟨b, o + i, none⟩ = some (.int .u8 u)
theorem Code.bytes {w : World} {a : Option Addr} {n cap : Nat} (h : Code w a n cap) : ∃ B : List UInt8, B.length = n ∧ Cod B a cap w w.heap.size := by
  rcases h with h | ⟨b, o, h1, h2, h3, h4, h5⟩
  · exact ⟨[], h.symm, Or.inl rfl⟩
  · have hx : ∀ i : Nat, ∃ u : Nat, u ≤ 255 ∧ (i < n → w.cell? ⟨b, o + i, none⟩ = some (.int .u8 u)) := by
      intro i
      by_cases hi : i < n
      · obtain ⟨u, g1, g2⟩ := h5 i hi
        exact ⟨u, g1, fun _ => g2⟩
      · exact ⟨0, by omega, fun x => absurd x hi⟩
    obtain ⟨f, hf⟩ := Classical.axiomOfChoice hx
    refine ⟨(List.range n).map fun i => UInt8.ofNat (f i), by simp, Or.inr ⟨b, o, h1, h2, by simpa using h3, h4, fun i hi => ?_⟩⟩
    have hi' : i < n := by simpa using hi
    rw [(hf i).2 hi']
    have e : ((List.range n).map fun i => UInt8.ofNat (f i)).getD i 0 = UInt8.ofNat (f i) := by
      simp [List.getD, hi']
    rw [e]
    have : (UInt8.ofNat (f i)).toNat = f i := by
      have := (hf i).1
      simp; omega
    rw [this]

/-- what the next byte is, and the place behind it -/
def nx (B : List UInt8) (p : Nat) : Nat := (B.getD p 0).toNat
def np (B : List UInt8) (p : Nat) : Nat := if p < B.length then p + 1 else p
def bw (B : List UInt8) (p n : Nat) : Nat := if n ≤ 1 then 0 else if n ≤ 256 then nx B p % n else (nx B p * 256 + nx B (np B p)) % n
def bp (B : List UInt8) (p n : Nat) : Nat := if n ≤ 1 then p else if n ≤ 256 then np B p else np B (np B p)
def ow (B : List UInt8) (p n : Nat) : Bool := bw B p n + 1 == n
def szm (B : List UInt8) (per most : Nat) : Nat := if most < 1 + B.length / per then most else 1 + B.length / per
theorem nx_le (B : List UInt8) (p : Nat) : nx B p ≤ 255 := by
  have := (B.getD p 0).toNat_lt
  unfold nx; omega
theorem nx_end {B : List UInt8} {p : Nat} (h : B.length ≤ p) : nx B p = 0 := by
  unfold nx
  simp [List.getD, List.getElem?_eq_none h]
theorem np_on {B : List UInt8} {p : Nat} (h : p < B.length) : np B p = p + 1 := by unfold np; rw [if_pos h]
theorem np_end {B : List UInt8} {p : Nat} (h : B.length ≤ p) : np B p = p := by unfold np; rw [if_neg (by omega)]
theorem np_le {B : List UInt8} {p : Nat} (h : p ≤ B.length) : np B p ≤ B.length := by unfold np; split <;> omega
theorem bw_lt (B : List UInt8) (p n : Nat) (h : 0 < n) : bw B p n < n := by
  unfold bw
  split
  · exact h
  · split
    · exact Nat.mod_lt _ h
    · exact Nat.mod_lt _ h

/-- A reader lies at block r, over the bytes B, at place p. -/
def Rd (B : List UInt8) (p r : Nat) (w : World) : Prop := ∃ (a : Option Addr) (cap : Nat), r < w.heap.size ∧ w.cell? ⟨r, 0, none⟩ = some (.slice a B.length cap) ∧ w.cell? ⟨r, 1, none⟩ = some (.int .i64 p) ∧
  w.frozen? ⟨r, 1, none⟩ = false ∧ p ≤ B.length ∧ B.length ≤ 1048576 ∧ Cod B a cap w r
theorem Rd.lt {B : List UInt8} {p r : Nat} {w : World} (h : Rd B p r w) : r < w.heap.size := by
  obtain ⟨a, cap, h1, _⟩ := h
  exact h1
theorem Rd.kept {B : List UInt8} {p r : Nat} {w w' : World} (h : Rd B p r w) {K : Nat} (hb : Below K w w') (hK : r < K) : Rd B p r w' := by
  obtain ⟨a, cap, h1, h2, h3, h4, h5, h6, h7⟩ := h
  exact ⟨a, cap, Nat.lt_of_lt_of_le h1 hb.size, (hb.cell (by simpa using hK)).trans h2, (hb.cell (by simpa using hK)).trans h3, (hb.frozen (by simpa using hK)).trans h4, h5, h6, h7.kept hb (by omega)⟩
theorem Rd.new {B : List UInt8} {w : World} {a : Option Addr} {cap : Nat} (h : Cod B a cap w w.heap.size) (hn : B.length ≤ 1048576) : Rd B 0 w.heap.size (w.alloc (.cells #[.slice a B.length cap, .int .i64 0] 49)) :=
  ⟨a, cap, by simp, by simp [go_sem], by simp [go_sem], by simp [go_sem], by omega, hn, h.kept ((Below.refl w.heap.size w).alloc (Nat.le_refl _) _) (Nat.le_refl _)⟩

/-- What a draw does: it gives v, the reader goes on to p', nothing else turns. -/
abbrev Gives (B : List UInt8) (r : Nat) (w : World) (v : Value) (p' : Nat) (e : Ending) (w' : World) : Prop := e = .returned v ∧ Rd B p' r w' ∧ Turn r w w'

set_option maxHeartbeats 400000 in
theorem open_any (v : Value) (a : Option Addr) (n cap : Nat) (hv : v = .slice a n cap) (w : World) :
    Calls Try.prog 24 #[v] w fun e w' => e = .returned (.pointer (some ⟨w.heap.size, 0, none⟩)) ∧ w' = w.alloc (.cells #[v, .int .i64 0] 49) := by
  subst hv
  go_enter Try.func24, Try.ntmps24
  go_wp2_with fail
  go_ret
  exact ⟨rfl, rfl⟩

set_option maxHeartbeats 1000000 in
theorem next_any (B : List UInt8) (p r : Nat) (w : World) (h : Rd B p r w) :
    Calls Try.prog 36 #[.pointer (some ⟨r, 0, none⟩)] w (Gives B r w (.int .i64 (nx B p : Nat)) (np B p)) := by
  have H : Hid (Rd B p r w) := h
  obtain ⟨a, cap, h1, h2, h3, h4, h5, h6, h7⟩ := h
  obtain ⟨n, hn⟩ : ∃ n, B.length = n := ⟨_, rfl⟩
  rw [hn] at h2 h5
  by_cases hp : p = n
  · have e1 : Hid (nx B p = 0) := nx_end (by omega)
    have e2 : Hid (np B p = p) := np_end (by omega)
    have h8 : (n : Int) ≤ (p : Int) := by omega
    generalize nx B p = u at *
    generalize np B p = q at *
    clear h7 h5 h6 hn hp
    go_enter Try.func36, Try.ntmps36
    go_wp2_with fail
    go_region
    go_wp2_with fail
    go_ret
    have q1 := e1.out
    have q2 := e2.out
    subst q1 q2
    exact ⟨rfl, H.out.kept (Below.refl (r + 1) w).drew (by omega), ⟨(Below.refl _ _).drew, fun _ _ _ => rfl⟩⟩
  · have hlt : p < n := by omega
    have H7 : Hid (Cod B a cap w r) := h7
    rcases h7 with h7 | ⟨b, o, rfl, q2, q3, q4, q5⟩
    · omega
    · have g2 : w.cell? ⟨b, o + p, none⟩ = some (.int .u8 (nx B p : Nat)) := q5 p (by omega)
      have e2 : Hid (np B p = p + 1) := np_on (by omega)
      have hu := nx_le B p
      generalize nx B p = u at *
      generalize np B p = q at *
      have hbr : ¬ (b = r) := by omega
      have hbr2 : ¬ (r = b) := by omega
      have i1 : (p : Int) < (n : Int) := by omega
      have i0 : (0 : Int) ≤ (p : Int) := by omega
      have hN : Hid (B.length = n) := hn
      rw [hn] at q3
      have n6 : n ≤ 1048576 := by omega
      clear q5 hp hn
      go_enter Try.func36, Try.ntmps36
      go_wp2_with fail
      go_region
      go_wp2_with fail
      go_region
      go_wp2_with fail
      go_ret
      have hb : Below r w ((w.setCell ⟨r, 1, none⟩ (.int .i64 ((p : Int) + 1))).drew.drew) := ((Below.refl _ _).setCell (p := ⟨r, 1, none⟩) (Nat.le_refl _) _).drew.drew
      have q2' := e2.out
      subst q2'
      refine ⟨rfl, ⟨some ⟨b, o, none⟩, cap, by simpa using h1, by rw [hN.out]; simpa [go_sem] using h2, by simp [go_sem, h3], by simpa [go_sem] using h4, by rw [hN.out]; omega, h6, H7.out.kept hb (Nat.le_refl _)⟩, ⟨hb, fun k h1 h2 => ?_⟩⟩
      exact Below.heap_setCell w _ _ k (by simp; omega)

set_option maxHeartbeats 1000000 in
theorem below_any (B : List UInt8) (p r : Nat) (w : World) (h : Rd B p r w) (n : Nat) (h1 : 1 ≤ n) (h2 : n ≤ 60000) :
    Calls Try.prog 27 #[.pointer (some ⟨r, 0, none⟩), .int .i64 n] w (Gives B r w (.int .i64 (bw B p n : Nat)) (bp B p n)) := by
  by_cases h0 : n = 1
  · subst h0
    have e1 : bw B p 1 = 0 := rfl
    have e2 : bp B p 1 = p := rfl
    rw [e1, e2]
    have H : Hid (Rd B p r w) := h
    clear h e1 e2
    go_enter Try.func27, Try.ntmps27
    go_wp2_with fail
    go_ret
    exact ⟨rfl, H.out, Turn.refl _ _⟩
  · have NX : Hid (∀ p w, Rd B p r w → Calls Try.prog 36 #[.pointer (some ⟨r, 0, none⟩)] w (Gives B r w (.int .i64 (nx B p : Nat)) (np B p))) := fun p w h => next_any B p r w h
    have b1 := nx_le B p
    have H : Hid (Rd B p r w) := h
    clear h
    by_cases hn : n ≤ 256
    · have i0 : (n : Int) ≤ 256 := by omega
      have i2 : ¬ ((n : Int) ≤ 1) := by omega
      have i3 : ¬ ((n : Int) = 0) := by omega
      have e1 : Hid (bw B p n = nx B p % n) := by show bw B p n = _; unfold bw; rw [if_neg (by omega), if_pos hn]
      have e2 : Hid (bp B p n = np B p) := by show bp B p n = _; unfold bp; rw [if_neg (by omega), if_pos hn]
      obtain ⟨z, hz⟩ : ∃ z, z = bw B p n := ⟨_, rfl⟩
      obtain ⟨q, hq⟩ : ∃ q, q = bp B p n := ⟨_, rfl⟩
      rw [← hz, ← hq]
      rw [← hz] at e1
      rw [← hq] at e2
      clear hz hq
      have C1 : Hid (Calls Try.prog 36 #[.pointer (some ⟨r, 0, none⟩)] w (Gives B r w (.int .i64 (nx B p : Nat)) (np B p))) := NX.out p w H.out
      generalize nx B p = u at *
      generalize np B p = p1 at *
      clear NX
      go_enter Try.func27, Try.ntmps27
      go_wp2_with fail
      refine (Calls.mono C1.out) ?_
      rintro e w1 ⟨rfl, k1, k2⟩
      have K1 : Hid (Rd B p1 r w1) := k1
      have K2 : Hid (Turn r w w1) := k2
      clear k1 k2
      go_wp2_with fail
      go_ret
      have q1 := e1.out
      have q2 := e2.out
      subst q1 q2
      exact ⟨rfl, K1.out, K2.out⟩
    · have i0 : ¬ ((n : Int) ≤ 256) := by omega
      have i2 : ¬ ((n : Int) ≤ 1) := by omega
      have i3 : ¬ ((n : Int) = 0) := by omega
      have b2 := nx_le B (np B p)
      have e1 : Hid (bw B p n = (nx B p * 256 + nx B (np B p)) % n) := by show bw B p n = _; unfold bw; rw [if_neg (by omega), if_neg hn]
      have e2 : Hid (bp B p n = np B (np B p)) := by show bp B p n = _; unfold bp; rw [if_neg (by omega), if_neg hn]
      obtain ⟨z, hz⟩ : ∃ z, z = bw B p n := ⟨_, rfl⟩
      obtain ⟨q, hq⟩ : ∃ q, q = bp B p n := ⟨_, rfl⟩
      rw [← hz, ← hq]
      rw [← hz] at e1
      rw [← hq] at e2
      clear hz hq
      have C1 : Hid (Calls Try.prog 36 #[.pointer (some ⟨r, 0, none⟩)] w (Gives B r w (.int .i64 (nx B p : Nat)) (np B p))) := NX.out p w H.out
      have C2 : Hid (∀ w1, Rd B (np B p) r w1 → Calls Try.prog 36 #[.pointer (some ⟨r, 0, none⟩)] w1 (Gives B r w1 (.int .i64 (nx B (np B p) : Nat)) (np B (np B p)))) := fun w1 h => NX.out _ w1 h
      generalize nx B (np B p) = v at *
      generalize np B (np B p) = p2 at *
      generalize nx B p = u at *
      generalize np B p = p1 at *
      clear NX
      go_enter Try.func27, Try.ntmps27
      go_wp2_with fail
      refine (Calls.mono C1.out) ?_
      rintro e w1 ⟨rfl, k1, k2⟩
      have K2 : Hid (Turn r w w1) := k2
      go_wp2_with fail
      refine (C2.out w1 k1).mono ?_
      rintro e w2 ⟨rfl, k3, k4⟩
      have K3 : Hid (Rd B p2 r w2) := k3
      have K4 : Hid (Turn r w w2) := K2.out.trans k4
      clear k3 k4 k1 k2 K2 C1 C2
      go_wp2_with fail
      go_ret
      have q1 := e1.out
      have q2 := e2.out
      subst q1 q2
      exact ⟨by first | rfl | (congr 2; simp), K3.out, K4.out⟩

set_option maxHeartbeats 1000000 in
theorem once_any (B : List UInt8) (p r : Nat) (w : World) (h : Rd B p r w) (n : Nat) (h1 : 1 < n) (h2 : n ≤ 60000) :
    Calls Try.prog 26 #[.pointer (some ⟨r, 0, none⟩), .int .i64 n] w (Gives B r w (.bool (ow B p n)) (bp B p n)) := by
  have C1 : Hid (Calls Try.prog 27 #[.pointer (some ⟨r, 0, none⟩), .int .i64 n] w (Gives B r w (.int .i64 (bw B p n : Nat)) (bp B p n))) := below_any B p r w h n (by omega) h2
  have e1 : Hid (ow B p n = (bw B p n + 1 == n)) := rfl
  have hl := bw_lt B p n (by omega)
  generalize ow B p n = z at *
  generalize bw B p n = u at *
  generalize bp B p n = q at *
  clear h
  go_enter Try.func26, Try.ntmps26
  go_wp2_with fail
  refine (Calls.mono C1.out) ?_
  rintro e w1 ⟨rfl, k1, k2⟩
  have K1 : Hid (Rd B q r w1) := k1
  have K2 : Hid (Turn r w w1) := k2
  clear k1 k2
  go_wp2_with fail
  go_ret
  refine ⟨?_, K1.out, K2.out⟩
  have q1 := e1.out
  subst q1
  show Ending.returned (Value.bool ((u : Int) == (n : Int) - 1)) = _
  congr 2
  rw [Bool.eq_iff_iff]
  simp
  omega

set_option maxHeartbeats 1000000 in
theorem size_any (B : List UInt8) (p r : Nat) (w : World) (h : Rd B p r w) (per most : Nat) (hp : 1 ≤ per) (hp2 : per ≤ 1000) (hm : 1 ≤ most) (hm2 : most ≤ 60000) :
    Calls Try.prog 34 #[.pointer (some ⟨r, 0, none⟩), .int .i64 per, .int .i64 most] w (Gives B r w (.int .i64 ((1 + bw B p (szm B per most) : Nat))) (bp B p (szm B per most))) := by
  have hle : szm B per most ≤ most := by unfold szm; split <;> omega
  have hge : 1 ≤ szm B per most := by
    unfold szm
    split
    · exact hm
    · exact Nat.le_add_right _ _
  have C1 : Hid (Calls Try.prog 27 #[.pointer (some ⟨r, 0, none⟩), .int .i64 (szm B per most : Nat)] w (Gives B r w (.int .i64 (bw B p (szm B per most) : Nat)) (bp B p (szm B per most)))) := below_any B p r w h _ hge (by omega)
  have e0 : Hid (szm B per most = if most < 1 + B.length / per then most else 1 + B.length / per) := rfl
  have hl := bw_lt B p (szm B per most) (by omega)
  obtain ⟨m, hmm⟩ : ∃ m, szm B per most = m := ⟨_, rfl⟩
  rw [hmm] at C1 e0 hle hge hl ⊢
  clear hmm
  generalize bw B p m = u at *
  generalize bp B p m = q at *
  obtain ⟨a, cap, h1, h2, h3, h4, h5, h6, h7⟩ := h
  generalize B.length = n at *
  clear h7 h3 h4 h5
  have i3 : ¬ ((per : Int) = 0) := by omega
  have hdiv : n / per ≤ n := Nat.div_le_self _ _
  by_cases hb : most < 1 + n / per
  · have e1 : (most : Int) < 1 + ((n / per : Nat) : Int) := by omega
    have e2 : ((n / per : Nat) : Int) = (n : Int) / (per : Int) := by simp
    rw [e2] at e1
    have hd2 : (n : Int) / (per : Int) ≤ 1048576 := by rw [← e2]; omega
    have hd3 : 0 ≤ (n : Int) / (per : Int) := by rw [← e2]; exact Int.natCast_nonneg _
    have q0 := e0.out
    rw [if_pos hb] at q0
    subst q0
    have ed : Hid (((n / per : Nat) : Int) = (n : Int) / (per : Int)) := e2
    clear e2 hb hdiv e0
    go_enter Try.func34, Try.ntmps34
    go_wp2_with fail
    refine (Calls.mono C1.out) ?_
    rintro e w1 ⟨rfl, k1, k2⟩
    have K1 : Hid (Rd B q r w1) := k1
    have K2 : Hid (Turn r w w1) := k2
    clear k1 k2
    go_wp2_with fail
    go_ret
    exact ⟨rfl, K1.out, K2.out⟩
  · have e1 : ¬ (most : Int) < 1 + ((n / per : Nat) : Int) := by omega
    have e2 : ((n / per : Nat) : Int) = (n : Int) / (per : Int) := by simp
    have e3 : Hid ((m : Int) = 1 + (n : Int) / (per : Int)) := by
      show (m : Int) = _
      rw [← e2, e0.out, if_neg hb]
      simp
    rw [e2] at e1
    have hd2 : (n : Int) / (per : Int) ≤ 1048576 := by rw [← e2]; omega
    have hd3 : 0 ≤ (n : Int) / (per : Int) := by rw [← e2]; exact Int.natCast_nonneg _
    have C2 : Hid (Calls Try.prog 27 #[.pointer (some ⟨r, 0, none⟩), .int .i64 (1 + (n : Int) / (per : Int))] w (Gives B r w (.int .i64 (u : Nat)) q)) := by
      rw [← e3.out]; exact C1.out
    clear e2 hb hdiv e0 C1
    go_enter Try.func34, Try.ntmps34
    go_wp2_with fail
    refine (Calls.mono C2.out) ?_
    rintro e w1 ⟨rfl, k1, k2⟩
    have K1 : Hid (Rd B q r w1) := k1
    have K2 : Hid (Turn r w w1) := k2
    clear k1 k2
    go_wp2_with fail
    go_ret
    exact ⟨rfl, K1.out, K2.out⟩
end Go.Proofs.Ytfjkchkcgnjkaaa.Fd
