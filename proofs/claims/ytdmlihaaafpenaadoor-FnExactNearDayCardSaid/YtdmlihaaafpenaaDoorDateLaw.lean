/- The law FnExactDateOf walked, where the table of days is as the program lays it. -/
import Derived.Test.YtdmlihaaafpenaaDoorDateOf
namespace Go.Proofs.YtdmlihaaafpenaaDoor.Dates
open Go.ChangeShapes Go.WideShapes Go.ChangeAt Go.RowKit

theorem five {W w' : World} {a b c d e : Int} (hb : Below (W.alloc (.cells #[.int .i64 a, .int .i64 b, .int .i64 c, .int .i64 d, .int .i64 e] 26)).heap.size (W.alloc (.cells #[.int .i64 a, .int .i64 b, .int .i64 c, .int .i64 d, .int .i64 e] 26)) w') :
    w'.cell? ⟨W.heap.size, 0, none⟩ = some (.int .i64 a) ∧ w'.cell? ⟨W.heap.size, 1, none⟩ = some (.int .i64 b) ∧ w'.cell? ⟨W.heap.size, 2, none⟩ = some (.int .i64 c) ∧ w'.cell? ⟨W.heap.size, 3, none⟩ = some (.int .i64 d) ∧ w'.cell? ⟨W.heap.size, 4, none⟩ = some (.int .i64 e) ∧ W.heap.size < w'.heap.size := by
  have hs := hb.size
  simp at hs
  refine ⟨?_, ?_, ?_, ?_, ?_, by omega⟩
  · rw [hb.cell (by simp)]; simp [go_sem]
  · rw [hb.cell (by simp)]; simp [go_sem]
  · rw [hb.cell (by simp)]; simp [go_sem]
  · rw [hb.cell (by simp)]; simp [go_sem]
  · rw [hb.cell (by simp)]; simp [go_sem]

set_option maxHeartbeats 400000 in
theorem eqDate_same (a b c d e : Int) (w : World) :
    Calls Tryd.prog 11 #[.agg #[.int .i64 a, .int .i64 b, .int .i64 c, .int .i64 d, .int .i64 e], .agg #[.int .i64 a, .int .i64 b, .int .i64 c, .int .i64 d, .int .i64 e]] w fun x w' => x = .returned (.bool true) ∧ Below w.heap.size w w' := by
  go_enter Tryd.func11, Tryd.ntmps11
  go_wp2
  go_ret
  exact ⟨rfl, ((Below.refl _ _).alloc (Nat.le_refl _) _).alloc (by simp) _⟩

set_option maxHeartbeats 1000000 in
theorem dateLaw_no (t : Int) (w : World) (h : t < 0 ∨ 52596000 < t) :
    Calls Tryd.prog 4 #[.int .i64 t] w fun e w' => e = .returned (.bool true) ∧ Below w.heap.size w w' := by
  go_enter Tryd.func4, Tryd.ntmps4
  go_wp2_with fail
  refine (date_no _ _ h).mono ?_
  rintro e w1 ⟨rfl, hb1⟩
  have z1 := hb1.size
  go_wp2_with fail
  refine (idate_no _ _ h).mono ?_
  rintro e w2 ⟨rfl, hb2⟩
  obtain ⟨g1, g2, g3, g4, g5, g6⟩ := five hb2
  go_wp2_with fail
  refine (eqDate_same _ _ _ _ _ _).mono ?_
  rintro e w3 ⟨rfl, hb3⟩
  have z3 := hb3.size
  simp at z3
  go_wp2_with fail
  go_ret
  exact ⟨rfl, ((((hb1.alloc z1 _).trans (hb2.mono (by simp; omega)))).alloc (by omega) _).trans (hb3.mono (by simp; omega))⟩

set_option maxHeartbeats 1000000 in
theorem dateLaw_yes (t : Int) (w : World) (H : Months w) (h0 : 0 ≤ t) (h1 : t ≤ 52596000) :
    Calls Tryd.prog 4 #[.int .i64 t] w fun e w' => e = .returned (.bool true) ∧ Below w.heap.size w w' := by
  have hsz := H.size
  have HM : Hid (∀ w' o, Below w.heap.size w w' → Months (w'.alloc o)) := fun w' o hb => H.below (hb.alloc hb.size o) hsz
  clear H
  go_enter Tryd.func4, Tryd.ntmps4
  go_wp2_with fail
  refine (date_yes _ _ h0 h1).mono ?_
  rintro e w1 ⟨Y, M, r, rfl, a1, a2, a3, a4, a5, a6, a7, hb1⟩
  have z1 := hb1.size
  have A7 : Hid (r + ys Y + cum Y M = t / 1440) := a7
  clear a7
  go_wp2_with fail
  refine (idate_yes _ _ (HM.out _ _ hb1) h0 h1).mono ?_
  rintro e w2 ⟨Y2, M2, r2, rfl, b1, b2, b3, b4, b5, b6, b7, hb2⟩
  obtain ⟨e1, e2, e3⟩ := unique (t / 1440) Y M r Y2 M2 r2 a1 a2 a3 a4 a5 a6 A7.out (by omega) b1 b2 b3 b4 b5 b6 b7
  subst e1 e2 e3
  clear b7
  obtain ⟨g1, g2, g3, g4, g5, g6⟩ := five hb2
  go_wp2_with fail
  refine (eqDate_same _ _ _ _ _ _).mono ?_
  rintro e w3 ⟨rfl, hb3⟩
  have z3 := hb3.size
  simp at z3
  go_wp2_with fail
  go_ret
  exact ⟨rfl, ((((hb1.alloc z1 _).trans (hb2.mono (by simp; omega)))).alloc (by omega) _).trans (hb3.mono (by simp; omega))⟩

theorem dateLaw (t : Int) (w : World) (H : Months w) :
    Calls Tryd.prog 4 #[.int .i64 t] w fun e w' => e = .returned (.bool true) ∧ Below w.heap.size w w' := by
  by_cases h : 0 ≤ t ∧ t ≤ 52596000
  · exact dateLaw_yes t w H h.1 h.2
  · exact dateLaw_no t w (by omega)
end Go.Proofs.YtdmlihaaafpenaaDoor.Dates
