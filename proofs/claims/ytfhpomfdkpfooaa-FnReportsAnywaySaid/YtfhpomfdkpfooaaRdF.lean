/- Draws of sizes, tenths, numbers and floats. -/
import Derived.Test.YtfhpomfdkpfooaaRd
namespace Go.Proofs.Ytfhpomfdkpfooaa.Rd
open Go.ChangeShapes Go.WideShapes Go.ChangeAt Go.RowKit
theorem below_drewN {B : Nat} {a w : World} (h : Below B a w) (n : Nat) : Below B a (w.drewN n) := h.trans ⟨rfl, rfl, rfl, Nat.le_refl _, fun _ _ => rfl⟩

theorem Turn.drewN {r : Nat} {a w : World} (h : Turn r a w) (n : Nat) : Turn r a (w.drewN n) := ⟨below_drewN h.bel n, h.abv⟩
theorem Rd.drewN {r : Nat} {w : World} (h : Rd r w) (n : Nat) : Rd r (w.drewN n) := h.kept (below_drewN (Below.refl (r + 1) w) n) (Nat.lt_succ_self r)
/-- A float drawn. -/
abbrev DrawnF (r : Nat) (w : World) (e : Ending) (w' : World) : Prop := (∃ x : Nat, x < 18446744073709551616 ∧ e = .returned (.float .f64 x)) ∧ Rd r w' ∧ Turn r w w'

set_option maxHeartbeats 1000000 in
theorem below_all (r : Nat) (w : World) (h : Rd r w) (n : Nat) (h1 : 1 ≤ n) (h2 : n ≤ 60000) :
    Calls Try.prog 23 #[.pointer (some ⟨r, 0, none⟩), .int .i64 n] w (Drawn r w fun u => 0 ≤ u ∧ u < n) := by
  by_cases hn : 1 < n
  · exact below_any r w h n hn h2
  · have e : n = 1 := by omega
    subst e
    go_enter Try.func23, Try.ntmps23
    go_wp2_with fail
    go_ret
    exact ⟨⟨0, ⟨by omega, by omega⟩, rfl⟩, h, Turn.refl _ _⟩

abbrev twelve : Obj := .cells #[.int .i64 0, .int .i64 1, .int .i64 (-1), .int .i64 127, .int .i64 128, .int .i64 2147483648, .int .i64 1000000000000000, .int .i64 1000000000000001, .int .i64 (-1000000000000000), .int .i64 9007199254740993, .int .i64 9223372036854775807, .int .i64 (-9223372036854775808)] 2
theorem oneOf12 (u : Int) (h0 : 0 ≤ u) (h1 : u < 12) : u = 0 ∨ u = 1 ∨ u = 2 ∨ u = 3 ∨ u = 4 ∨ u = 5 ∨ u = 6 ∨ u = 7 ∨ u = 8 ∨ u = 9 ∨ u = 10 ∨ u = 11 := by omega
set_option maxHeartbeats 2000000 in
theorem number_any (r : Nat) (w : World) (h : Rd r w) : Calls Try.prog 31 #[.pointer (some ⟨r, 0, none⟩)] w (Drawn r w Any) := by
  have hr := h.lt
  go_enter Try.func31, Try.ntmps31
  go_wp2_with fail
  refine (below_any r _ h 5 (by omega) (by omega)).mono ?_
  rintro e w1 ⟨⟨u, ⟨hu1, hu2⟩, rfl⟩, k1, k2⟩
  by_cases u0 : u = 0
  · go_wp2_with fail
    refine (below_any r _ k1 300 (by omega) (by omega)).mono ?_
    rintro e w2 ⟨⟨v, ⟨hv1, hv2⟩, rfl⟩, k3, k4⟩
    go_wp2_with fail
    go_ret
    exact ⟨⟨_, trivial, rfl⟩, k3, k2.trans k4⟩
  · by_cases u1 : u = 1
    · go_wp2_with fail
      have s1 := k2.size
      have kA : Rd r (w1.alloc twelve) := k1.kept ((Below.refl w1.heap.size w1).alloc (Nat.le_refl _) twelve) (by omega)
      refine (below_any r _ kA 12 (by omega) (by omega)).mono ?_
      rintro e w2 ⟨⟨v, ⟨hv1, hv2⟩, rfl⟩, k3, k4⟩
      have kt : Turn r w w2 := (k2.alloc hr twelve).trans k4
      have c0 : w2.cell? ⟨w1.heap.size, 0, none⟩ = some (.int .i64 0) := (k4.cell 0 (by simp) (by omega)).trans (by simp [go_sem])
      have c1 : w2.cell? ⟨w1.heap.size, 1, none⟩ = some (.int .i64 1) := (k4.cell 1 (by simp) (by omega)).trans (by simp [go_sem])
      have c2 : w2.cell? ⟨w1.heap.size, 2, none⟩ = some (.int .i64 (-1)) := (k4.cell 2 (by simp) (by omega)).trans (by simp [go_sem])
      have c3 : w2.cell? ⟨w1.heap.size, 3, none⟩ = some (.int .i64 127) := (k4.cell 3 (by simp) (by omega)).trans (by simp [go_sem])
      have c4 : w2.cell? ⟨w1.heap.size, 4, none⟩ = some (.int .i64 128) := (k4.cell 4 (by simp) (by omega)).trans (by simp [go_sem])
      have c5 : w2.cell? ⟨w1.heap.size, 5, none⟩ = some (.int .i64 2147483648) := (k4.cell 5 (by simp) (by omega)).trans (by simp [go_sem])
      have c6 : w2.cell? ⟨w1.heap.size, 6, none⟩ = some (.int .i64 1000000000000000) := (k4.cell 6 (by simp) (by omega)).trans (by simp [go_sem])
      have c7 : w2.cell? ⟨w1.heap.size, 7, none⟩ = some (.int .i64 1000000000000001) := (k4.cell 7 (by simp) (by omega)).trans (by simp [go_sem])
      have c8 : w2.cell? ⟨w1.heap.size, 8, none⟩ = some (.int .i64 (-1000000000000000)) := (k4.cell 8 (by simp) (by omega)).trans (by simp [go_sem])
      have c9 : w2.cell? ⟨w1.heap.size, 9, none⟩ = some (.int .i64 9007199254740993) := (k4.cell 9 (by simp) (by omega)).trans (by simp [go_sem])
      have c10 : w2.cell? ⟨w1.heap.size, 10, none⟩ = some (.int .i64 9223372036854775807) := (k4.cell 10 (by simp) (by omega)).trans (by simp [go_sem])
      have c11 : w2.cell? ⟨w1.heap.size, 11, none⟩ = some (.int .i64 (-9223372036854775808)) := (k4.cell 11 (by simp) (by omega)).trans (by simp [go_sem])
      rcases oneOf12 v hv1 hv2 with rfl | rfl | rfl | rfl | rfl | rfl | rfl | rfl | rfl | rfl | rfl | rfl
      all_goals
        go_wp2_with fail
        go_ret
        exact ⟨⟨_, trivial, rfl⟩, k3, kt⟩
    · by_cases u2 : u = 2
      · go_wp2_with fail
        refine (word_any r _ k1).mono ?_
        rintro e w2 ⟨⟨v, hv1, hv2, rfl⟩, k3, k4⟩
        go_wp2_with fail
        refine (below_any r _ k3 60 (by omega) (by omega)).mono ?_
        rintro e w3 ⟨⟨z, ⟨hz1, hz2⟩, rfl⟩, k5, k6⟩
        go_wp2_with fail
        go_ret
        exact ⟨⟨_, trivial, rfl⟩, k5, (k2.trans k4).trans k6⟩
      · go_wp2_with fail
        refine (below_any r _ k1 20 (by omega) (by omega)).mono ?_
        rintro e w2 ⟨⟨v, ⟨hv1, hv2⟩, rfl⟩, k3, k4⟩
        go_wp2_with fail
        go_ret
        exact ⟨⟨_, trivial, rfl⟩, k3, k2.trans k4⟩
end Go.Proofs.Ytfhpomfdkpfooaa.Rd
