/- Spans that are drawn from a code. -/
import Derived.Test.YtdnmedgcoflcdaaRd
namespace Go.Proofs.Ytdnmedgcoflcdaa.Rd
open Go.ChangeShapes Go.WideShapes Go.ChangeAt Go.RowKit

abbrev C2 (x y : Int) : Obj := .cells #[.int .i64 x, .int .i64 y] 25

/-- Block b holds a span that may be written. -/
structure Box (w : World) (b : Nat) (x y : Int) : Prop where
  c0 : w.cell? ⟨b, 0, none⟩ = some (.int .i64 x)
  c1 : w.cell? ⟨b, 1, none⟩ = some (.int .i64 y)
  f0 : w.frozen? ⟨b, 0, none⟩ = false
  f1 : w.frozen? ⟨b, 1, none⟩ = false
  lt : b < w.heap.size

theorem Box.new (w : World) (x y : Int) : Box (w.alloc (C2 x y)) w.heap.size x y :=
  ⟨by simp [go_sem], by simp [go_sem], by simp [go_sem], by simp [go_sem], by simp⟩
theorem Box.turn {r b : Nat} {w w' : World} {x y : Int} (h : Box w b x y) (t : Turn r w w') (hb : b ≠ r) : Box w' b x y :=
  ⟨(t.cell 0 h.lt hb).trans h.c0, (t.cell 1 h.lt hb).trans h.c1, (t.frozen 0 h.lt hb).trans h.f0, (t.frozen 1 h.lt hb).trans h.f1, Nat.lt_of_lt_of_le h.lt t.size⟩
theorem Box.alloc {b : Nat} {w : World} {x y : Int} (h : Box w b x y) (o : Obj) : Box (w.alloc o) b x y :=
  h.turn (r := w.heap.size) (Turn.of ((Below.refl w.heap.size w).alloc (Nat.le_refl _) o) (Nat.le_refl _) (Nat.le_refl _)) (by have := h.lt; omega)

set_option maxHeartbeats 1000000 in
theorem drawSpan_any (r : Nat) (w : World) (h : Rd r w) :
    Calls Try.prog 9 #[.pointer (some ⟨r, 0, none⟩)] w fun e w' => (∃ a b : Int, e = .returned (.agg #[.int .i64 a, .int .i64 b])) ∧ Rd r w' ∧ Turn r w w' := by
  have hr := h.lt
  go_enter Try.func9, Try.ntmps9
  go_wp2_with fail
  have kA : Rd r (w.alloc (C2 0 0)) := h.kept ((Below.refl w.heap.size w).alloc (Nat.le_refl _) _) hr
  have tA : Turn r w (w.alloc (C2 0 0)) := (Turn.refl r w).alloc hr _
  have bA := Box.new w 0 0
  refine (time_any r _ kA).mono ?_
  rintro e w1 ⟨⟨u, _, rfl⟩, k1, k2⟩
  have bB := bA.turn k2 (by omega)
  have tB := tA.trans k2
  clear kA tA bA
  go_wp2_with fail
  refine (below_any r _ k1 4000 (by omega) (by omega)).mono ?_
  rintro e w2 ⟨⟨v, ⟨hv1, hv2⟩, rfl⟩, k3, k4⟩
  have bC := bB.turn k4 (by omega)
  have tC := tB.trans k4
  clear k1 k2 k4 bB tB
  go_wp2_with fail
  all_goals
    have sC := tC.size
    have sB := bC.lt
    have kD : ∀ o, Rd r (w2.alloc o) := fun o => k3.kept ((Below.refl w2.heap.size w2).alloc (Nat.le_refl _) o) (by omega)
    refine (once_any r _ (kD _) 15 (by omega) (by omega)).mono ?_
    rintro e w3 ⟨⟨q, rfl⟩, k5, k6⟩
    have bD := (bC.alloc _).turn k6 (by omega)
    have bS := (Box.new w2 u _).turn k6 (by omega)
    have tD := (tC.alloc hr _).trans k6
    clear kD k6 bC tC k3
    have sD := bD.lt
    have sS := bS.lt
    have bD' := bD
    have bS' := bS
    obtain ⟨b1, b2, b3, b4, b5⟩ := bD'
    obtain ⟨s1, s2, s3, s4, s5⟩ := bS'
    cases q
    · clear bD bS
      go_wp2_with fail
      first
        | (have hh : 52596000 < wrap64 (u + v) := h; refine bodyPost_ret (v := .agg #[.int .i64 u, .int .i64 52596000]) (by simp [results, Try.results9, go_sem, b1, b2]) rfl ⟨⟨_, _, rfl⟩, ?_, ?_⟩)
        | refine bodyPost_ret (v := .agg #[.int .i64 u, .int .i64 (wrap64 (u + v))]) (by simp [results, Try.results9, go_sem, b1, b2]) rfl ⟨⟨_, _, rfl⟩, ?_, ?_⟩
      · exact k5.kept (((Below.refl w.heap.size w3).setCell (p := ⟨w.heap.size, 0, none⟩) (Nat.le_refl _) _).setCell (p := ⟨w.heap.size, 1, none⟩) (Nat.le_refl _) _) hr
      · exact (tD.setCell (p := ⟨w.heap.size, 0, none⟩) (Nat.le_refl _) hr _).setCell (p := ⟨w.heap.size, 1, none⟩) (Nat.le_refl _) hr _
    · clear b1 b2 b3 b4 b5 s1 s2 s3 s4 s5
      go_wp2_with fail
      refine (drawTime_any r _ k5).mono ?_
      rintro e w4 ⟨⟨x, _, rfl⟩, k7, k8⟩
      have tE := tD.trans k8
      obtain ⟨b1, b2, b3, b4, b5⟩ := bD.turn k8 (by omega)
      obtain ⟨s1, s2, s3, s4, s5⟩ := bS.turn k8 (by omega)
      have hne : ¬ w.heap.size = w2.heap.size := by omega
      have hne2 : ¬ w2.heap.size = w.heap.size := by omega
      clear bD bS tD k8 k5
      go_wp2_with fail
      refine bodyPost_ret (v := .agg #[.int .i64 u, .int .i64 x]) (by simp [results, Try.results9, go_sem, b1, b2]) rfl ⟨⟨_, _, rfl⟩, ?_, ?_⟩
      · exact k7.kept ((((Below.refl w.heap.size w4).setCell (p := ⟨w2.heap.size, 1, none⟩) sC _).setCell (p := ⟨w.heap.size, 0, none⟩) (Nat.le_refl _) _).setCell (p := ⟨w.heap.size, 1, none⟩) (Nat.le_refl _) _) hr
      · exact ((tE.setCell (p := ⟨w2.heap.size, 1, none⟩) sC hr _).setCell (p := ⟨w.heap.size, 0, none⟩) (Nat.le_refl _) hr _).setCell (p := ⟨w.heap.size, 1, none⟩) (Nat.le_refl _) hr _


set_option maxHeartbeats 400000 in
theorem open_any (v : Value) (a : Option Addr) (n cap : Nat) (hv : v = .slice a n cap) (w : World) :
    Calls Try.prog 8 #[v] w fun e w' => e = .returned (.pointer (some ⟨w.heap.size, 0, none⟩)) ∧ w' = w.alloc (.cells #[v, .int .i64 0] 38) := by
  subst hv
  go_enter Try.func8, Try.ntmps8
  go_wp2_with fail
  go_ret
  exact ⟨rfl, rfl⟩

/-- A slice of bytes that came in. -/
def Code (w : World) (a : Option Addr) (n cap : Nat) : Prop :=
  n = 0 ∨ ∃ b o, a = some ⟨b, o, none⟩ ∧ b < w.heap.size ∧ n ≤ cap ∧ cap ≤ maxLen ∧ ∀ i, i < n → ∃ u : Nat, u ≤ 255 ∧ w.cell? ⟨b, o + i, none⟩ = some (.int .u8 u)

theorem Rd.new {w w' : World} {a : Option Addr} {n cap : Nat} (h : Code w a n cap) (hn : n ≤ 1048576) (hb : Below w.heap.size w w') : Rd w'.heap.size (w'.alloc (.cells #[.slice a n cap, .int .i64 0] 38)) := by
  have hs := hb.size
  refine ⟨a, n, cap, 0, by simp, by simp [go_sem], by simp [go_sem], by simp [go_sem], by omega, hn, ?_⟩
  rcases h with h | ⟨b, o, h1, h2, h3, h4, h5⟩
  · exact Or.inl h
  · refine Or.inr ⟨b, o, h1, by omega, h3, h4, fun i hi => ?_⟩
    obtain ⟨u, g1, g2⟩ := h5 i hi
    refine ⟨u, g1, ?_⟩
    rw [← g2, ← hb.cell (p := ⟨b, o + i, none⟩) h2]
    exact ((Below.refl w'.heap.size w').alloc (Nat.le_refl _) _).cell (p := ⟨b, o + i, none⟩) (by show b < _; omega)

end Go.Proofs.Ytdnmedgcoflcdaa.Rd
