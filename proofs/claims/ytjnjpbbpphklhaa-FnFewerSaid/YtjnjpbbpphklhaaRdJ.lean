/- An ascent and a tolerance drawn of a code. -/
import Derived.Test.YtjnjpbbpphklhaaRdI
import Derived.Test.YtjnjpbbpphklhaaSgD
namespace Go.Proofs.Ytjnjpbbpphklhaa.Rd
open Go.ChangeShapes Go.WideShapes Go.ChangeAt Go.RowKit
open Flt

theorem open_any (v : Value) (a : Option Addr) (n cap : Nat) (hv : v = .slice a n cap) (w : World) :
    Calls Try.prog 11 #[v] w fun e w' => e = .returned (.pointer (some ⟨w.heap.size, 0, none⟩)) ∧ w' = w.alloc (.cells #[v, .int .i64 0] 50) := by
  subst hv
  go_enter Try.func11, Try.ntmps11
  go_wp2_with fail
  go_ret
  exact ⟨rfl, rfl⟩
/-- A slice of bytes that came in. -/
def Code (w : World) (a : Option Addr) (n cap : Nat) : Prop :=
  n = 0 ∨ ∃ b o, a = some ⟨b, o, none⟩ ∧ b < w.heap.size ∧ n ≤ cap ∧ cap ≤ maxLen ∧ ∀ i, i < n → ∃ u : Nat, u ≤ 255 ∧ w.cell? ⟨b, o + i, none⟩ = some (.int .u8 u)
theorem Rd.new {w w' : World} {a : Option Addr} {n cap : Nat} (h : Code w a n cap) (hn : n ≤ 1048576) (hb : Below w.heap.size w w') : Rd w'.heap.size (w'.alloc (.cells #[.slice a n cap, .int .i64 0] 50)) := by
  have hs := hb.size
  refine ⟨a, n, cap, 0, by simp, by simp [go_sem], by simp [go_sem], by simp [go_sem], by omega, hn, ?_⟩
  rcases h with h | ⟨b, o, h1, h2, h3, h4, h5⟩
  · exact Or.inl h
  · refine Or.inr ⟨b, o, h1, by omega, h3, h4, fun i hi => ?_⟩
    obtain ⟨u, g1, g2⟩ := h5 i hi
    refine ⟨u, g1, ?_⟩
    rw [← g2, ← hb.cell (p := ⟨b, o + i, none⟩) h2]
    exact ((Below.refl w'.heap.size w').alloc (Nat.le_refl _) _).cell (p := ⟨b, o + i, none⟩) (by show b < _; omega)

theorem reads_flat {w : World} {B : Nat} {v : Value} {L : Lv} (h : w.ownsRow B 32 2 v L.length (flat L)) : Reads w v L := by
  rcases row_cases h with ⟨q1, q2⟩ | ⟨g, cap, q1, q2, q3, q4, q5⟩
  · left
    exact ⟨List.eq_nil_of_length_eq_zero q1, none, 0, q2⟩
  · right
    subst q1
    refine ⟨g, 0, cap, rfl, q4, q5, q3, fun i hi => ?_⟩
    have := (lv_cells h i hi).1
    simpa using this
set_option maxHeartbeats 1000000 in
theorem drawSignif_any (a : Option Addr) (n cap : Nat) (w : World) (h : Code w a n cap) (hn : n ≤ 1048576) :
    Calls Try.prog 6 #[.slice a n cap] w fun e w' => ∃ (v : Value) (x : Nat), e = .returned (.tuple #[v, .float .f64 x]) ∧ x < 18446744073709551616 ∧ Below w.heap.size w w' ∧ ∃ L : Lv, L.length ≤ 401 ∧ w'.ownsRow w.heap.size 32 2 v L.length (flat L) := by
  have hQ : ∀ x y w, (binOp .quo 25 (.float .f64 x) (.float .f64 y)).run Try.prog w = .ok (.float .f64 (opB .quo x y w)) (w.drewN (opD .quo x y)) := fun x y w => run_op Try.prog .quo arQuo 25 x y w
  have H : Hid (Code w a n cap) := h
  have HN : Hid (n ≤ 1048576) := hn
  clear h hn
  go_enter Try.func6, Try.ntmps6
  go_wp2_with fail
  refine (open_any _ a n cap rfl _).mono ?_
  rintro e w1 ⟨rfl, hw1⟩
  have K1 : Hid (Rd w.heap.size w1) := (by show Rd _ _; rw [hw1]; exact Rd.new H.out HN.out (Below.refl _ _))
  have B1 : Hid (Below w.heap.size w w1) := (by show Below _ _ _; rw [hw1]; exact (Below.refl _ _).alloc (Nat.le_refl _) _)
  have S1 : Hid (w.heap.size < w1.heap.size) := K1.out.lt
  clear hw1
  go_wp2_with fail
  refine (drawAny_any _ _ K1.out).mono ?_
  rintro e w2 ⟨v, rfl, L, hl, o2, k2, t2⟩
  have O2 : Hid (w2.ownsRow w1.heap.size 32 2 v L.length (flat L)) := o2
  have K2 : Hid (Rd w.heap.size w2) := k2
  have T2 : Hid (Turn w.heap.size w1 w2) := t2
  have HL : Hid (L.length ≤ 401) := hl
  clear o2 k2 t2 hl
  go_wp2_with fail
  refine (below_any _ _ K2.out 40 (by omega) (by omega)).mono ?_
  rintro e w3 ⟨⟨u, ⟨hu1, hu2⟩, rfl⟩, k3, t3⟩
  have O3 : Hid (w3.ownsRow w1.heap.size 32 2 v L.length (flat L)) := row_turn O2.out S1.out t3
  have T3 : Hid (Turn w.heap.size w1 w3) := T2.out.trans t3
  have K3 : Hid (Rd w.heap.size w3) := k3
  clear k3 t3 O2 K2 T2
  go_wp2_with fail
  obtain ⟨m, hm⟩ : ∃ m, opD BinOp.quo (floatOfInt FloatKind.f64 u) 4621819117588971520 = m := ⟨_, rfl⟩
  rw [hm]
  have O4 : Hid ((w3.drewN m).ownsRow w1.heap.size 32 2 v L.length (flat L)) := O3.out
  have T4 : Hid (Turn w.heap.size w1 (w3.drewN m)) := T3.out.drewN m
  have K4 : Hid (Rd w.heap.size (w3.drewN m)) := K3.out.drewN m
  clear hm O3 T3 K3
  refine (once_any _ _ K4.out 12 (by omega) (by omega)).mono ?_
  rintro e w5 ⟨⟨b, rfl⟩, k5, t5⟩
  have O5 : Hid (w5.ownsRow w1.heap.size 32 2 v L.length (flat L)) := row_turn O4.out S1.out t5
  have T5 : Hid (Turn w.heap.size w1 w5) := T4.out.trans t5
  have K5 : Hid (Rd w.heap.size w5) := k5
  clear k5 t5 O4 K4 T4
  have LE : w.heap.size ≤ w1.heap.size := B1.out.size
  cases b
  · go_wp2_with fail
    go_ret2
    exact ⟨_, _, rfl, op_lt _ _ _ _, B1.out.trans T5.out.bel, L, HL.out, row_mono O5.out LE⟩
  · go_wp2_with fail
    refine (float_any _ _ K5.out).mono ?_
    rintro e w6 ⟨⟨x, hx, rfl⟩, k6, t6⟩
    have O6 : Hid (w6.ownsRow w1.heap.size 32 2 v L.length (flat L)) := row_turn O5.out S1.out t6
    have T6 : Hid (Turn w.heap.size w1 w6) := T5.out.trans t6
    have HX : Hid (x < 18446744073709551616) := hx
    clear k6 t6 hx
    go_wp2_with fail
    go_ret2
    exact ⟨_, _, rfl, HX.out, B1.out.trans T6.out.bel, L, HL.out, row_mono O6.out LE⟩
end Go.Proofs.Ytjnjpbbpphklhaa.Rd
