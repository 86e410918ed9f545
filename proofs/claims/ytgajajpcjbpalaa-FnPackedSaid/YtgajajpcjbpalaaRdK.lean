/- RdF, RdJ, RdG -/
import Derived.Test.YtgajajpcjbpalaaRd
import Derived.Test.YtgajajpcjbpalaaNanC
/- Draws of sizes, tenths, numbers and floats. -/
namespace Go.Proofs.Ytgajajpcjbpalaa.Rd
open Go.ChangeShapes Go.WideShapes Go.ChangeAt Go.RowKit
theorem below_drewN {B : Nat} {a w : World} (h : Below B a w) (n : Nat) : Below B a (w.drewN n) := h.trans ⟨rfl, rfl, rfl, Nat.le_refl _, fun _ _ => rfl⟩

theorem Turn.drewN {r : Nat} {a w : World} (h : Turn r a w) (n : Nat) : Turn r a (w.drewN n) := ⟨below_drewN h.bel n, h.abv⟩
theorem Rd.drewN {r : Nat} {w : World} (h : Rd r w) (n : Nat) : Rd r (w.drewN n) := h.kept (below_drewN (Below.refl (r + 1) w) n) (Nat.lt_succ_self r)
/-- A float drawn. -/
abbrev DrawnF (r : Nat) (w : World) (e : Ending) (w' : World) : Prop := (∃ x : Nat, x < 18446744073709551616 ∧ e = .returned (.float .f64 x)) ∧ Rd r w' ∧ Turn r w w'

set_option maxHeartbeats 1000000 in
theorem below_all (r : Nat) (w : World) (h : Rd r w) (n : Nat) (h1 : 1 ≤ n) (h2 : n ≤ 60000) :
    Calls Try.prog 32 #[.pointer (some ⟨r, 0, none⟩), .int .i64 n] w (Drawn r w fun u => 0 ≤ u ∧ u < n) := by
  by_cases hn : 1 < n
  · exact below_any r w h n hn h2
  · have e : n = 1 := by omega
    subst e
    go_enter Try.func32, Try.ntmps32
    go_wp2_with fail
    go_ret
    exact ⟨⟨0, ⟨by omega, by omega⟩, rfl⟩, h, Turn.refl _ _⟩

abbrev twelve : Obj := .cells #[.int .i64 0, .int .i64 1, .int .i64 (-1), .int .i64 127, .int .i64 128, .int .i64 2147483648, .int .i64 1000000000000000, .int .i64 1000000000000001, .int .i64 (-1000000000000000), .int .i64 9007199254740993, .int .i64 9223372036854775807, .int .i64 (-9223372036854775808)] 2
theorem oneOf12 (u : Int) (h0 : 0 ≤ u) (h1 : u < 12) : u = 0 ∨ u = 1 ∨ u = 2 ∨ u = 3 ∨ u = 4 ∨ u = 5 ∨ u = 6 ∨ u = 7 ∨ u = 8 ∨ u = 9 ∨ u = 10 ∨ u = 11 := by omega
set_option maxHeartbeats 2000000 in
theorem number_any (r : Nat) (w : World) (h : Rd r w) : Calls Try.prog 50 #[.pointer (some ⟨r, 0, none⟩)] w (Drawn r w Any) := by
  have hr := h.lt
  go_enter Try.func50, Try.ntmps50
  go_wp2_with fail
  refine (below_any r _ h 5 (by omega) (by omega)).mono ?_
  rintro e w1 ⟨⟨u, ⟨hu1, hu2⟩, rfl⟩, k1, k2⟩
  by_cases u0 : u = 0
  · go_wp2_with fail
    refine (below_any r _ k1 300 (by omega) (by omega)).mono ?_
    rintro e w2 ⟨⟨v, ⟨hv1, hv2⟩, rfl⟩, k3, k4⟩
    go_wp2_with fail
    go_ret
    exact ⟨⟨_, trivial, rfl⟩, k3, k2.trans k4⟩
  · by_cases u1 : u = 1
    · go_wp2_with fail
      have s1 := k2.size
      have kA : Rd r (w1.alloc twelve) := k1.kept ((Below.refl w1.heap.size w1).alloc (Nat.le_refl _) twelve) (by omega)
      refine (below_any r _ kA 12 (by omega) (by omega)).mono ?_
      rintro e w2 ⟨⟨v, ⟨hv1, hv2⟩, rfl⟩, k3, k4⟩
      have kt : Turn r w w2 := (k2.alloc hr twelve).trans k4
      have c0 : w2.cell? ⟨w1.heap.size, 0, none⟩ = some (.int .i64 0) := (k4.cell 0 (by simp) (by omega)).trans (by simp [go_sem])
      have c1 : w2.cell? ⟨w1.heap.size, 1, none⟩ = some (.int .i64 1) := (k4.cell 1 (by simp) (by omega)).trans (by simp [go_sem])
      have c2 : w2.cell? ⟨w1.heap.size, 2, none⟩ = some (.int .i64 (-1)) := (k4.cell 2 (by simp) (by omega)).trans (by simp [go_sem])
      have c3 : w2.cell? ⟨w1.heap.size, 3, none⟩ = some (.int .i64 127) := (k4.cell 3 (by simp) (by omega)).trans (by simp [go_sem])
      have c4 : w2.cell? ⟨w1.heap.size, 4, none⟩ = some (.int .i64 128) := (k4.cell 4 (by simp) (by omega)).trans (by simp [go_sem])
      have c5 : w2.cell? ⟨w1.heap.size, 5, none⟩ = some (.int .i64 2147483648) := (k4.cell 5 (by simp) (by omega)).trans (by simp [go_sem])
      have c6 : w2.cell? ⟨w1.heap.size, 6, none⟩ = some (.int .i64 1000000000000000) := (k4.cell 6 (by simp) (by omega)).trans (by simp [go_sem])
      have c7 : w2.cell? ⟨w1.heap.size, 7, none⟩ = some (.int .i64 1000000000000001) := (k4.cell 7 (by simp) (by omega)).trans (by simp [go_sem])
      have c8 : w2.cell? ⟨w1.heap.size, 8, none⟩ = some (.int .i64 (-1000000000000000)) := (k4.cell 8 (by simp) (by omega)).trans (by simp [go_sem])
      have c9 : w2.cell? ⟨w1.heap.size, 9, none⟩ = some (.int .i64 9007199254740993) := (k4.cell 9 (by simp) (by omega)).trans (by simp [go_sem])
      have c10 : w2.cell? ⟨w1.heap.size, 10, none⟩ = some (.int .i64 9223372036854775807) := (k4.cell 10 (by simp) (by omega)).trans (by simp [go_sem])
      have c11 : w2.cell? ⟨w1.heap.size, 11, none⟩ = some (.int .i64 (-9223372036854775808)) := (k4.cell 11 (by simp) (by omega)).trans (by simp [go_sem])
      rcases oneOf12 v hv1 hv2 with rfl | rfl | rfl | rfl | rfl | rfl | rfl | rfl | rfl | rfl | rfl | rfl
      all_goals
        go_wp2_with fail
        go_ret
        exact ⟨⟨_, trivial, rfl⟩, k3, kt⟩
    · by_cases u2 : u = 2
      · go_wp2_with fail
        refine (word_any r _ k1).mono ?_
        rintro e w2 ⟨⟨v, hv1, hv2, rfl⟩, k3, k4⟩
        go_wp2_with fail
        refine (below_any r _ k3 60 (by omega) (by omega)).mono ?_
        rintro e w3 ⟨⟨z, ⟨hz1, hz2⟩, rfl⟩, k5, k6⟩
        go_wp2_with fail
        go_ret
        exact ⟨⟨_, trivial, rfl⟩, k5, (k2.trans k4).trans k6⟩
      · go_wp2_with fail
        refine (below_any r _ k1 20 (by omega) (by omega)).mono ?_
        rintro e w2 ⟨⟨v, ⟨hv1, hv2⟩, rfl⟩, k3, k4⟩
        go_wp2_with fail
        go_ret
        exact ⟨⟨_, trivial, rfl⟩, k3, k2.trans k4⟩
end Go.Proofs.Ytgajajpcjbpalaa.Rd

/- A number and its places drawn of a code. -/
namespace Go.Proofs.Ytgajajpcjbpalaa.Rd
open Go.ChangeShapes Go.WideShapes Go.ChangeAt Go.RowKit


theorem open_any (v : Value) (a : Option Addr) (n cap : Nat) (hv : v = .slice a n cap) (w : World) :
    Calls Try.prog 30 #[v] w fun e w' => e = .returned (.pointer (some ⟨w.heap.size, 0, none⟩)) ∧ w' = w.alloc (.cells #[v, .int .i64 0] 77) := by
  subst hv
  go_enter Try.func30, Try.ntmps30
  go_wp2_with fail
  go_ret
  exact ⟨rfl, rfl⟩
/-- A slice of bytes that came in. -/
def Code (w : World) (a : Option Addr) (n cap : Nat) : Prop :=
  n = 0 ∨ ∃ b o, a = some ⟨b, o, none⟩ ∧ b < w.heap.size ∧ n ≤ cap ∧ cap ≤ maxLen ∧ ∀ i, i < n → ∃ u : Nat, u ≤ 255 ∧ w.cell? ⟨b, o + i, none⟩ = some (.int .u8 u)
theorem Rd.new {w w' : World} {a : Option Addr} {n cap : Nat} (h : Code w a n cap) (hn : n ≤ 1048576) (hb : Below w.heap.size w w') : Rd w'.heap.size (w'.alloc (.cells #[.slice a n cap, .int .i64 0] 77)) := by
  have hs := hb.size
  refine ⟨a, n, cap, 0, by simp, by simp [go_sem], by simp [go_sem], by simp [go_sem], by omega, hn, ?_⟩
  rcases h with h | ⟨b, o, h1, h2, h3, h4, h5⟩
  · exact Or.inl h
  · refine Or.inr ⟨b, o, h1, by omega, h3, h4, fun i hi => ?_⟩
    obtain ⟨u, g1, g2⟩ := h5 i hi
    refine ⟨u, g1, ?_⟩
    rw [← g2, ← hb.cell (p := ⟨b, o + i, none⟩) h2]
    exact ((Below.refl w'.heap.size w').alloc (Nat.le_refl _) _).cell (p := ⟨b, o + i, none⟩) (by show b < _; omega)

set_option maxHeartbeats 400000 in
theorem big_yes (a : Option Addr) (n cap : Nat) (w : World) (h : 1048576 < n) (hn : n < 9223372036854775808) : Calls Try.prog 13 #[.slice a n cap] w fun e w' => e = .returned (.bool true) ∧ w' = w := by
  have h' : (1048576 : Int) < (n : Int) := by omega
  go_enter Try.func13, Try.ntmps13
  go_wp2
  go_ret
  exact ⟨rfl, rfl⟩
set_option maxHeartbeats 400000 in
theorem big_no (a : Option Addr) (n cap : Nat) (w : World) (h : n ≤ 1048576) : Calls Try.prog 13 #[.slice a n cap] w fun e w' => e = .returned (.bool false) ∧ w' = w := by
  have h' : ¬ ((1048576 : Int) < (n : Int)) := by omega
  go_enter Try.func13, Try.ntmps13
  go_wp2
  go_ret
  exact ⟨rfl, rfl⟩

theorem Turn.below {r : Nat} {w w1 w2 : World} (h1 : Below w.heap.size w w1) (hr : w.heap.size ≤ r) (t : Turn r w1 w2) : Below w.heap.size w w2 := h1.trans (t.bel.mono hr)

end Go.Proofs.Ytgajajpcjbpalaa.Rd

/- A float drawn. -/
namespace Go.Proofs.Ytgajajpcjbpalaa.Rd
open Go.ChangeShapes Go.WideShapes Go.ChangeAt Go.RowKit
open Flt

theorem oneOf16 (u : Int) (h0 : 0 ≤ u) (h1 : u < 16) : u = 0 ∨ u = 1 ∨ u = 2 ∨ u = 3 ∨ u = 4 ∨ u = 5 ∨ u = 6 ∨ u = 7 ∨ u = 8 ∨ u = 9 ∨ u = 10 ∨ u = 11 ∨ u = 12 ∨ u = 13 ∨ u = 14 ∨ u = 15 := by omega
abbrev sixteen : Obj := .cells #[.float .f64 0, .float .f64 9223372036854775808, .float .f64 4602678819172646912, .float .f64 13826050856027422720, .float .f64 4609434218613702656, .float .f64 4612811918334230528, .float .f64 13836183955189006336, .float .f64 4831355200913801216, .float .f64 4831355200913801224, .float .f64 14054727237768577024, .float .f64 1, .float .f64 9214871658872686752, .float .f64 9218868437227405312, .float .f64 18442240474082181120, .float .f64 4587366580439587226, .float .f64 4598175219545276416] 40
theorem neg_lt (x : Nat) (h : x < 18446744073709551616) : Op.negFloat .f64 x < 18446744073709551616 := by
  show x ^^^ 2 ^ 63 < 2 ^ 64
  exact Nat.xor_lt_two_pow h (by decide)
set_option maxHeartbeats 2000000 in
theorem float_any (r : Nat) (w : World) (h : Rd r w) : Calls Try.prog 33 #[.pointer (some ⟨r, 0, none⟩)] w (DrawnF r w) := by
  have hr := h.lt
  have hQ : ∀ x y w, (binOp .quo 40 (.float .f64 x) (.float .f64 y)).run Try.prog w = .ok (.float .f64 (opB .quo x y w)) (w.drewN (opD .quo x y)) := fun x y w => run_op Try.prog .quo arQuo 24 x y w
  have hN : ∀ x, Op.unary .neg (.float .f64 x) = pure (.float .f64 (Op.negFloat .f64 x)) := fun _ => rfl
  go_enter Try.func33, Try.ntmps33
  go_wp2_with fail
  refine (below_any r _ h 8 (by omega) (by omega)).mono ?_
  rintro e w1 ⟨⟨u, ⟨hu1, hu2⟩, rfl⟩, k1, k2⟩
  by_cases u0 : u = 0
  · go_wp2_with fail
    refine (none_any _).mono ?_
    rintro e w2 ⟨b, rfl, _, hb, hw⟩
    subst hw
    go_wp2_with fail
    go_ret
    exact ⟨⟨_, hb, rfl⟩, k1.drewN 1, k2.drewN 1⟩
  · by_cases u1 : u = 1
    · have m1 : ∀ w, (binOp .mul 40 (.float .f64 9214871658872686752) (.float .f64 4621819117588971520)).run Try.prog w = .ok (.float .f64 9218868437227405312) w := fun w => run_float_arith w .mul 40 .f64 _ _ _ (by decide +kernel)
      have m2 : ∀ w, (binOp .mul 40 (.float .f64 18438243695727462560) (.float .f64 4621819117588971520)).run Try.prog w = .ok (.float .f64 18442240474082181120) w := fun w => run_float_arith w .mul 40 .f64 _ _ _ (by decide +kernel)
      have n1 : Op.unary .neg (.float .f64 0) = pure (.float .f64 9223372036854775808) := rfl
      have n2 : Op.unary .neg (.float .f64 9214871658872686752) = pure (.float .f64 18438243695727462560) := rfl
      clear hN
      go_wp2_with fail
      have s1 := k2.size
      have kA : Rd r (w1.alloc sixteen) := k1.kept ((Below.refl w1.heap.size w1).alloc (Nat.le_refl _) sixteen) (by omega)
      refine (below_any r _ kA 16 (by omega) (by omega)).mono ?_
      rintro e w2 ⟨⟨v, ⟨hv1, hv2⟩, rfl⟩, k3, k4⟩
      have kt : Turn r w w2 := (k2.alloc hr sixteen).trans k4
      have c0 : w2.cell? ⟨w1.heap.size, 0, none⟩ = some (.float .f64 0) := (k4.cell 0 (by simp) (by omega)).trans (by simp [go_sem])
      have c1 : w2.cell? ⟨w1.heap.size, 1, none⟩ = some (.float .f64 9223372036854775808) := (k4.cell 1 (by simp) (by omega)).trans (by simp [go_sem])
      have c2 : w2.cell? ⟨w1.heap.size, 2, none⟩ = some (.float .f64 4602678819172646912) := (k4.cell 2 (by simp) (by omega)).trans (by simp [go_sem])
      have c3 : w2.cell? ⟨w1.heap.size, 3, none⟩ = some (.float .f64 13826050856027422720) := (k4.cell 3 (by simp) (by omega)).trans (by simp [go_sem])
      have c4 : w2.cell? ⟨w1.heap.size, 4, none⟩ = some (.float .f64 4609434218613702656) := (k4.cell 4 (by simp) (by omega)).trans (by simp [go_sem])
      have c5 : w2.cell? ⟨w1.heap.size, 5, none⟩ = some (.float .f64 4612811918334230528) := (k4.cell 5 (by simp) (by omega)).trans (by simp [go_sem])
      have c6 : w2.cell? ⟨w1.heap.size, 6, none⟩ = some (.float .f64 13836183955189006336) := (k4.cell 6 (by simp) (by omega)).trans (by simp [go_sem])
      have c7 : w2.cell? ⟨w1.heap.size, 7, none⟩ = some (.float .f64 4831355200913801216) := (k4.cell 7 (by simp) (by omega)).trans (by simp [go_sem])
      have c8 : w2.cell? ⟨w1.heap.size, 8, none⟩ = some (.float .f64 4831355200913801224) := (k4.cell 8 (by simp) (by omega)).trans (by simp [go_sem])
      have c9 : w2.cell? ⟨w1.heap.size, 9, none⟩ = some (.float .f64 14054727237768577024) := (k4.cell 9 (by simp) (by omega)).trans (by simp [go_sem])
      have c10 : w2.cell? ⟨w1.heap.size, 10, none⟩ = some (.float .f64 1) := (k4.cell 10 (by simp) (by omega)).trans (by simp [go_sem])
      have c11 : w2.cell? ⟨w1.heap.size, 11, none⟩ = some (.float .f64 9214871658872686752) := (k4.cell 11 (by simp) (by omega)).trans (by simp [go_sem])
      have c12 : w2.cell? ⟨w1.heap.size, 12, none⟩ = some (.float .f64 9218868437227405312) := (k4.cell 12 (by simp) (by omega)).trans (by simp [go_sem])
      have c13 : w2.cell? ⟨w1.heap.size, 13, none⟩ = some (.float .f64 18442240474082181120) := (k4.cell 13 (by simp) (by omega)).trans (by simp [go_sem])
      have c14 : w2.cell? ⟨w1.heap.size, 14, none⟩ = some (.float .f64 4587366580439587226) := (k4.cell 14 (by simp) (by omega)).trans (by simp [go_sem])
      have c15 : w2.cell? ⟨w1.heap.size, 15, none⟩ = some (.float .f64 4598175219545276416) := (k4.cell 15 (by simp) (by omega)).trans (by simp [go_sem])
      rcases oneOf16 v hv1 hv2 with rfl | rfl | rfl | rfl | rfl | rfl | rfl | rfl | rfl | rfl | rfl | rfl | rfl | rfl | rfl | rfl
      all_goals
        go_wp2_with fail
        go_ret
        exact ⟨⟨_, by decide, rfl⟩, k3, kt⟩
    · by_cases u2 : u = 2
      · go_wp2_with fail
        refine (number_any r _ k1).mono ?_
        rintro e w2 ⟨⟨v, _, rfl⟩, k3, k4⟩
        go_wp2_with fail
        refine (below_any r _ k3 1000 (by omega) (by omega)).mono ?_
        rintro e w3 ⟨⟨z, ⟨hz1, hz2⟩, rfl⟩, k5, k6⟩
        go_wp2_with fail
        go_ret
        exact ⟨⟨_, op_lt _ _ _ _, rfl⟩, k5.drewN _, ((k2.trans k4).trans k6).drewN _⟩
      · by_cases u3 : u = 3
        · go_wp2_with fail
          refine (below_any r _ k1 1000 (by omega) (by omega)).mono ?_
          rintro e w2 ⟨⟨v, ⟨hv1, hv2⟩, rfl⟩, k3, k4⟩
          go_wp2_with fail
          go_ret
          exact ⟨⟨_, neg_lt _ (op_lt _ _ _ _), rfl⟩, k3.drewN _, (k2.trans k4).drewN _⟩
        · go_wp2_with fail
          refine (below_any r _ k1 1000 (by omega) (by omega)).mono ?_
          rintro e w2 ⟨⟨v, ⟨hv1, hv2⟩, rfl⟩, k3, k4⟩
          go_wp2_with fail
          go_ret
          exact ⟨⟨_, op_lt _ _ _ _, rfl⟩, k3.drewN _, (k2.trans k4).drewN _⟩
end Go.Proofs.Ytgajajpcjbpalaa.Rd
