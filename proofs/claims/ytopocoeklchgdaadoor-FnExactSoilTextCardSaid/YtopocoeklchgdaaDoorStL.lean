/- The law of soil texts walked. -/
import Derived.Test.YtopocoeklchgdaaDoorStS
import Derived.Test.YtopocoeklchgdaaDoorStJ
namespace Go.Proofs.YtopocoeklchgdaaDoor.So
open Go.ChangeShapes Go.WideShapes Go.ChangeAt Go.RowKit

def txt (a b c d f : Int) : List UInt8 := if okB a b c d f then tx a b c d f else []
theorem stext_any (a b c d f : Int) (w : World) : Calls Tryd.prog 5 #[sv a b c d f] w fun e w' => e = .returned (.string ⟨(txt a b c d f).toArray⟩) ∧ Below w.heap.size w w' := by
  unfold txt
  cases h : okB a b c d f
  · exact stext_no a b c d f w h
  · exact stext_yes a b c d f w h
theorem itext_any (a b c d f : Int) (w : World) (hT : Tb w) : Calls Tryd.prog 7 #[sv a b c d f] w fun e w' => e = .returned (.string ⟨(txt a b c d f).toArray⟩) ∧ Below w.heap.size w w' := by
  unfold txt
  cases h : okB a b c d f
  · exact itext_no a b c d f w h
  · exact itext_yes a b c d f w hT h

set_option maxHeartbeats 400000 in
theorem soilLaw (a b c d f : Int) (w : World) (hT : Tb w) : Calls Tryd.prog 3 #[sv a b c d f] w fun e w' => e = .returned (.bool true) ∧ Below w.heap.size w w' := by
  have TO : Hid (∀ w, Calls Tryd.prog 6 #[sv a b c d f] w fun e w' => e = .returned (sv a b c d f) ∧ Below w.heap.size w w') := to_any a b c d f
  have SA : Hid (∀ w, Calls Tryd.prog 5 #[sv a b c d f] w fun e w' => e = .returned (.string ⟨(txt a b c d f).toArray⟩) ∧ Below w.heap.size w w') := stext_any a b c d f
  have IA : Hid (∀ w', Below w.heap.size w w' → Calls Tryd.prog 7 #[sv a b c d f] w' fun e w2 => e = .returned (.string ⟨(txt a b c d f).toArray⟩) ∧ Below w'.heap.size w' w2) := fun w' hb => itext_any a b c d f w' (hT.keep hb)
  clear hT
  generalize txt a b c d f = L at *
  go_enter Tryd.func3, Tryd.ntmps3
  go_wp2_with fail
  refine (TO.out _).mono ?_
  rintro e w1 ⟨rfl, b1⟩
  have D1 : Hid (Below (w.heap.size + 1) (w.alloc (.cells #[.int .i64 a, .int .i64 b, .int .i64 c, .int .i64 d, .int .i64 f] 23)) w1) := b1.mono (by simp)
  have z1 : w.heap.size + 1 ≤ w1.heap.size := (by have := b1.size; simp at this; omega)
  clear b1
  go_wp2_with fail
  refine (SA.out _).mono ?_
  rintro e w2 ⟨rfl, b2⟩
  have D2 : Hid (Below (w.heap.size + 1) (w.alloc (.cells #[.int .i64 a, .int .i64 b, .int .i64 c, .int .i64 d, .int .i64 f] 23)) w2) := D1.out.trans (b2.mono z1)
  have z2 : w.heap.size + 1 ≤ w2.heap.size := Nat.le_trans z1 b2.size
  have c0 : w2.cell? ⟨w.heap.size, 0, none⟩ = some (.int .i64 a) := (D2.out.cell (p := ⟨w.heap.size, 0, none⟩) (Nat.lt_succ_self _)).trans (by simp [go_sem])
  have c1 : w2.cell? ⟨w.heap.size, 1, none⟩ = some (.int .i64 b) := (D2.out.cell (p := ⟨w.heap.size, 1, none⟩) (Nat.lt_succ_self _)).trans (by simp [go_sem])
  have c2 : w2.cell? ⟨w.heap.size, 2, none⟩ = some (.int .i64 c) := (D2.out.cell (p := ⟨w.heap.size, 2, none⟩) (Nat.lt_succ_self _)).trans (by simp [go_sem])
  have c3 : w2.cell? ⟨w.heap.size, 3, none⟩ = some (.int .i64 d) := (D2.out.cell (p := ⟨w.heap.size, 3, none⟩) (Nat.lt_succ_self _)).trans (by simp [go_sem])
  have c4 : w2.cell? ⟨w.heap.size, 4, none⟩ = some (.int .i64 f) := (D2.out.cell (p := ⟨w.heap.size, 4, none⟩) (Nat.lt_succ_self _)).trans (by simp [go_sem])
  have B2 : Hid (Below w.heap.size w w2) := ((Below.refl _ _).alloc (Nat.le_refl _) _).trans (D2.out.mono (Nat.le_succ _))
  clear b2 D1 D2
  go_wp2_with fail
  refine (TO.out _).mono ?_
  rintro e w3 ⟨rfl, b3⟩
  have B3 : Hid (Below w.heap.size w w3) := B2.out.trans (b3.mono B2.out.size)
  clear b3 B2 c0 c1 c2 c3 c4
  go_wp2_with fail
  refine (IA.out _ B3.out).mono ?_
  rintro e w4 ⟨rfl, b4⟩
  have B4 : Hid (Below w.heap.size w w4) := B3.out.trans (b4.mono B3.out.size)
  clear b4 B3
  go_wp2_with fail
  go_ret
  exact ⟨rfl, B4.out⟩
end Go.Proofs.YtopocoeklchgdaaDoor.So
