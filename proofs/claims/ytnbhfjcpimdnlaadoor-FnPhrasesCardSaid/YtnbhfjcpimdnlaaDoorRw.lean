/- ReadPhrase: the law. -/
import Derived.Test.YtnbhfjcpimdnlaaDoorRt
import Derived.Test.YtnbhfjcpimdnlaaDoorRv
namespace Go.Proofs.YtnbhfjcpimdnlaaDoor.Ph
open Go.ChangeShapes Go.WideShapes Go.ChangeAt Go.RowKit
set_option maxHeartbeats 1000000 in
theorem sread_no1 (t : Int) (x : ByteArray) (w : World) (TC : Hid (∀ W, Calls Tryd.prog 13 #[.int .i64 t, .int .i64 1, .int .i64 3] W fun e w' => e = .returned (.bool false) ∧ w' = W)) :
    Calls Tryd.prog 5 #[.string x, .int .i64 t] w fun e w' => e = .returned (.tuple #[.agg #[.int .i64 0, .int .i64 0, .int .i64 0, .int .i64 0, .int .i64 0], .bool false]) ∧ Below w.heap.size w w' := by
  obtain ⟨w0, hw0⟩ : ∃ w0, w0 = w.alloc (.cells #[.int .i64 0, .int .i64 0, .int .i64 0, .int .i64 0, .int .i64 0] 23) := ⟨_, rfl⟩
  have HW : Hid (w0 = w.alloc (.cells #[.int .i64 0, .int .i64 0, .int .i64 0, .int .i64 0, .int .i64 0] 23)) := hw0
  have B0 : Hid (Below w.heap.size w w0) := (by show Below _ _ _; rw [hw0]; exact (Below.refl _ _).alloc (Nat.le_refl _) _)
  have A0 : SY w0 w.heap.size 0 0 0 0 0 := (by rw [hw0]; exact heap_alloc_new w _)
  clear hw0
  obtain ⟨a0, a1, a2, a3, a4, af⟩ := A0.cells
  have g0 := af 0; have g1 := af 1; have g2 := af 2; have g3 := af 3; have g4 := af 4
  have BE : Hid (∀ y0 y1 y2 y3 y4 : Value, Below w.heap.size w (((((w0.setCell ⟨w.heap.size, 0, none⟩ y0).setCell ⟨w.heap.size, 1, none⟩ y1).setCell ⟨w.heap.size, 2, none⟩ y2).setCell ⟨w.heap.size, 3, none⟩ y3).setCell ⟨w.heap.size, 4, none⟩ y4)) := fun y0 y1 y2 y3 y4 => ((((B0.out.setCell (p := ⟨w.heap.size, 0, none⟩) (Nat.le_refl _) _).setCell (p := ⟨w.heap.size, 1, none⟩) (Nat.le_refl _) _).setCell (p := ⟨w.heap.size, 2, none⟩) (Nat.le_refl _) _).setCell (p := ⟨w.heap.size, 3, none⟩) (Nat.le_refl _) _).setCell (p := ⟨w.heap.size, 4, none⟩) (Nat.le_refl _) _
  clear af A0
  go_enter Tryd.func5, Tryd.ntmps5
  go_upto_region 1 with fail
  rw [← HW.out]
  clear HW
  go_wp2_with fail
  refine (TC.out _).mono ?_
  rintro e w1 ⟨rfl, hw1⟩
  subst hw1
  clear TC
  go_wp2_with fail
  refine bodyPost_ret (v := .tuple #[.agg #[.int .i64 0, .int .i64 0, .int .i64 0, .int .i64 0, .int .i64 0], .bool false]) (by simp [results, Tryd.results5, go_sem, a0, a1, a2, a3, a4]) rfl ⟨rfl, ?_⟩
  first | exact BE.out _ _ _ _ _ | exact B0.out
set_option maxHeartbeats 1000000 in
theorem sread_no2 (t : Int) (x : ByteArray) (w : World) (sx : (200 : Int) < (x.size : Int)) (TC : Hid (∀ W, Calls Tryd.prog 13 #[.int .i64 t, .int .i64 1, .int .i64 3] W fun e w' => e = .returned (.bool true) ∧ w' = W)) :
    Calls Tryd.prog 5 #[.string x, .int .i64 t] w fun e w' => e = .returned (.tuple #[.agg #[.int .i64 0, .int .i64 0, .int .i64 0, .int .i64 0, .int .i64 0], .bool false]) ∧ Below w.heap.size w w' := by
  obtain ⟨w0, hw0⟩ : ∃ w0, w0 = w.alloc (.cells #[.int .i64 0, .int .i64 0, .int .i64 0, .int .i64 0, .int .i64 0] 23) := ⟨_, rfl⟩
  have HW : Hid (w0 = w.alloc (.cells #[.int .i64 0, .int .i64 0, .int .i64 0, .int .i64 0, .int .i64 0] 23)) := hw0
  have B0 : Hid (Below w.heap.size w w0) := (by show Below _ _ _; rw [hw0]; exact (Below.refl _ _).alloc (Nat.le_refl _) _)
  have A0 : SY w0 w.heap.size 0 0 0 0 0 := (by rw [hw0]; exact heap_alloc_new w _)
  clear hw0
  obtain ⟨a0, a1, a2, a3, a4, af⟩ := A0.cells
  have g0 := af 0; have g1 := af 1; have g2 := af 2; have g3 := af 3; have g4 := af 4
  have BE : Hid (∀ y0 y1 y2 y3 y4 : Value, Below w.heap.size w (((((w0.setCell ⟨w.heap.size, 0, none⟩ y0).setCell ⟨w.heap.size, 1, none⟩ y1).setCell ⟨w.heap.size, 2, none⟩ y2).setCell ⟨w.heap.size, 3, none⟩ y3).setCell ⟨w.heap.size, 4, none⟩ y4)) := fun y0 y1 y2 y3 y4 => ((((B0.out.setCell (p := ⟨w.heap.size, 0, none⟩) (Nat.le_refl _) _).setCell (p := ⟨w.heap.size, 1, none⟩) (Nat.le_refl _) _).setCell (p := ⟨w.heap.size, 2, none⟩) (Nat.le_refl _) _).setCell (p := ⟨w.heap.size, 3, none⟩) (Nat.le_refl _) _).setCell (p := ⟨w.heap.size, 4, none⟩) (Nat.le_refl _) _
  clear af A0
  go_enter Tryd.func5, Tryd.ntmps5
  go_upto_region 1 with fail
  rw [← HW.out]
  clear HW
  go_wp2_with fail
  refine (TC.out _).mono ?_
  rintro e w1 ⟨rfl, hw1⟩
  subst hw1
  clear TC
  go_wp2_with fail
  refine bodyPost_ret (v := .tuple #[.agg #[.int .i64 0, .int .i64 0, .int .i64 0, .int .i64 0, .int .i64 0], .bool false]) (by simp [results, Tryd.results5, go_sem, a0, a1, a2, a3, a4]) rfl ⟨rfl, ?_⟩
  first | exact BE.out _ _ _ _ _ | exact B0.out
/-- ReadPhrase of the model -/
theorem sread_any (X : List UInt8) (t : Int) (w : World) :
    Calls Tryd.prog 5 #[.string ⟨X.toArray⟩, .int .i64 t] w fun e w' => e = .returned (.tuple #[sayV (told t X), .bool (tell t X)]) ∧ Below w.heap.size w w' := by
  have TC : ∀ W, Calls Tryd.prog 13 #[.int .i64 t, .int .i64 1, .int .i64 3] W fun e w' => e = .returned (.bool (inn t 1 3)) ∧ w' = W := fun W => sin_any t 1 3 W
  cases ht : inn t 1 3 with
  | false =>
    rw [ht] at TC
    have n := no_tell (t := t) (X := X) (fun h3 => by rw [inn3.2 h3] at ht; exact absurd ht (by decide))
    rw [n.1, n.2]
    exact sread_no1 t ⟨X.toArray⟩ w TC
  | true =>
    rw [ht] at TC
    have t3 := inn3.1 ht
    by_cases hX : X.length ≤ 200
    · refine (sread_yes t X w t3 hX).mono ?_
      rintro e w' ⟨⟨d, f, l, r, p, h, rfl⟩ | ⟨h, rfl⟩, hb⟩
      · obtain ⟨q1, q2⟩ := T5_tell t3 h
        rw [q1, q2]
        exact ⟨rfl, hb⟩
      · obtain ⟨q1, q2⟩ := no_tell (t := t) (X := X) (fun _ => h)
        rw [q1, q2]
        exact ⟨rfl, hb⟩
    · have n := no_tell (t := t) (X := X) (fun _ d f l r p h => hX (h.len t3))
      rw [n.1, n.2]
      exact sread_no2 t ⟨X.toArray⟩ w (by simp [ByteArray.size]; omega) TC
set_option maxHeartbeats 1000000 in
/-- a saying is the same as itself -/
theorem eqsay_same (d f l r p : Int) (w : World) : Calls Tryd.prog 7 #[.agg #[.int .i64 d, .int .i64 f, .int .i64 l, .int .i64 r, .int .i64 p], .agg #[.int .i64 d, .int .i64 f, .int .i64 l, .int .i64 r, .int .i64 p]] w fun e w' => e = .returned (.bool true) ∧ Below w.heap.size w w' := by
  have B0 : Hid (Below w.heap.size w ((w.alloc (.cells #[.int .i64 d, .int .i64 f, .int .i64 l, .int .i64 r, .int .i64 p] 23)).alloc (.cells #[.int .i64 d, .int .i64 f, .int .i64 l, .int .i64 r, .int .i64 p] 23))) := ((Below.refl _ _).alloc (Nat.le_refl _) _).alloc (by simp) _
  go_enter Tryd.func7, Tryd.ntmps7
  go_wp2_with fail
  go_ret
  exact ⟨rfl, B0.out⟩
set_option maxHeartbeats 1000000 in
theorem readLaw0 (x : ByteArray) (t d f l r p : Int) (q : Bool) (w : World) (sx : ¬ (1048576 : Int) < (x.size : Int))
    (SC : Hid (Calls Tryd.prog 5 #[.string x, .int .i64 t] w fun e w' => e = .returned (.tuple #[.agg #[.int .i64 d, .int .i64 f, .int .i64 l, .int .i64 r, .int .i64 p], .bool q]) ∧ Below w.heap.size w w'))
    (IC : Hid (∀ W, Below w.heap.size w W → Calls Tryd.prog 6 #[.string x, .int .i64 t] W fun e w' => e = .returned (.tuple #[.agg #[.int .i64 d, .int .i64 f, .int .i64 l, .int .i64 r, .int .i64 p], .bool q]) ∧ Below W.heap.size W w')) :
    Calls Tryd.prog 3 #[.string x, .int .i64 t] w fun e w' => e = .returned (.bool true) ∧ Below w.heap.size w w' := by
  have EC : Hid (∀ W, Calls Tryd.prog 7 #[.agg #[.int .i64 d, .int .i64 f, .int .i64 l, .int .i64 r, .int .i64 p], .agg #[.int .i64 d, .int .i64 f, .int .i64 l, .int .i64 r, .int .i64 p]] W fun e w' => e = .returned (.bool true) ∧ Below W.heap.size W w') := fun W => eqsay_same d f l r p W
  go_enter Tryd.func3, Tryd.ntmps3
  go_wp2_with fail
  refine SC.out.mono ?_
  rintro e w1 ⟨rfl, b1⟩
  obtain ⟨w2, hw2⟩ : ∃ w2, w2 = w1.alloc (.cells #[.int .i64 d, .int .i64 f, .int .i64 l, .int .i64 r, .int .i64 p] 23) := ⟨_, rfl⟩
  have HW2 : Hid (w2 = w1.alloc (.cells #[.int .i64 d, .int .i64 f, .int .i64 l, .int .i64 r, .int .i64 p] 23)) := hw2
  have B2 : Hid (Below w.heap.size w w2) := (by show Below _ _ _; rw [hw2]; exact b1.alloc b1.size _)
  have S2 : Hid (SY w2 w1.heap.size d f l r p) := (by show SY _ _ _ _ _ _ _; rw [hw2]; exact heap_alloc_new w1 _)
  clear hw2 b1
  go_upto_region 4 with fail
  rw [← HW2.out]
  clear HW2
  generalize w1.heap.size = a at *
  go_wp2_with fail
  refine (IC.out w2 B2.out).mono ?_
  rintro e w3 ⟨rfl, b3⟩
  obtain ⟨w4, hw4⟩ : ∃ w4, w4 = w3.alloc (.cells #[.int .i64 d, .int .i64 f, .int .i64 l, .int .i64 r, .int .i64 p] 23) := ⟨_, rfl⟩
  have HW4 : Hid (w4 = w3.alloc (.cells #[.int .i64 d, .int .i64 f, .int .i64 l, .int .i64 r, .int .i64 p] 23)) := hw4
  have b4 : Below w2.heap.size w2 w4 := (by rw [hw4]; exact b3.alloc b3.size _)
  have B4 : Hid (Below w.heap.size w w4) := B2.out.trans (b4.mono B2.out.size)
  have R4 : SY w4 w3.heap.size d f l r p := (by rw [hw4]; exact heap_alloc_new w3 _)
  have S4 : SY w4 a d f l r p := S2.out.on b4 S2.out.lt
  clear hw4 b4 b3
  go_upto_region 5 with fail
  rw [← HW4.out]
  clear HW4
  generalize w3.heap.size = b at *
  obtain ⟨a0, a1, a2, a3, a4, -⟩ := S4.cells
  obtain ⟨c0, c1, c2, c3, c4, -⟩ := R4.cells
  clear R4 S4
  go_wp2_with fail
  refine (EC.out w4).mono ?_
  rintro e w5 ⟨rfl, b5⟩
  have B5 : Hid (Below w.heap.size w w5) := B4.out.trans (b5.mono B4.out.size)
  clear b5 a0 a1 a2 a3 a4 c0 c1 c2 c3 c4
  cases q
  · go_wp2_with fail
    go_ret
    exact ⟨rfl, B5.out⟩
  · go_wp2_with fail
    go_ret
    exact ⟨rfl, B5.out⟩
set_option maxHeartbeats 1000000 in
theorem readLaw_big (x : ByteArray) (t : Int) (w : World) (sx : (1048576 : Int) < (x.size : Int)) : Calls Tryd.prog 3 #[.string x, .int .i64 t] w fun e w' => e = .returned (.bool true) ∧ Below w.heap.size w w' := by
  go_enter Tryd.func3, Tryd.ntmps3
  go_wp2_with fail
  go_ret
  exact ⟨rfl, Below.refl _ _⟩
/-- for every text and tongue the law returns true -/
theorem readLaw (x : ByteArray) (t : Int) (w : World) (hT : Tb w) (ht : okn t) : Calls Tryd.prog 3 #[.string x, .int .i64 t] w fun e w' => e = .returned (.bool true) ∧ Below w.heap.size w w' := by
  by_cases sx : (1048576 : Int) < (x.size : Int)
  · exact readLaw_big x t w sx
  · obtain ⟨X, rfl⟩ : ∃ X : List UInt8, x = ⟨X.toArray⟩ := ⟨x.data.toList, by cases x; simp⟩
    have hl : X.length ≤ 2000000 := by simp [ByteArray.size] at sx; omega
    exact readLaw0 ⟨X.toArray⟩ t _ _ _ _ _ _ w sx (show Hid _ from sread_any X t w) (show Hid _ from fun W hb => iread_any X t W (hT.keep hb) ht hl)
end Go.Proofs.YtnbhfjcpimdnlaaDoor.Ph
