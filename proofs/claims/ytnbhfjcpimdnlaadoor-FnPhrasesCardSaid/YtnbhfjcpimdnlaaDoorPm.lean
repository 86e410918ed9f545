/- The model's words of a saying. -/
import Derived.Test.YtnbhfjcpimdnlaaDoorPi
namespace Go.Proofs.YtnbhfjcpimdnlaaDoor.Ph
open Go.ChangeShapes Go.WideShapes Go.ChangeAt Go.RowKit
open Go.Proofs.YtnbhfjcpimdnlaaDoor.Dec (cat dec_any dec_len)
theorem cell_al2 {w : World} {g x : Nat} {u : Value} {ob : Obj} (h : w.cell? ⟨g, x, none⟩ = some u) : (w.alloc ob).cell? ⟨g, x, none⟩ = some u := by
  rw [World.cell?_alloc_some w _ ob (by rw [h]; rfl)]; exact h
def gL (t : Int) (i : Nat) : List UInt8 := (lxs t).getD i []
/-- a direction's name -/
def dn (t d : Int) : List UInt8 := if d = 0 then [] else gL t (1 + d.toNat)
set_option maxHeartbeats 4000000 in
theorem sdir_any (t d : Int) (w : World) (ht : t = 1 ∨ t = 2 ∨ t = 3) (h0 : 0 ≤ d) (h1 : d ≤ 8) : Calls Tryd.prog 32 #[.int .i64 t, .int .i64 d] w fun e w' => e = .returned (.string ⟨(dn t d).toArray⟩) ∧ Below w.heap.size w w' := by
  rcases ht with rfl | rfl | rfl
  all_goals
    rcases (by omega : d = 0 ∨ d = 1 ∨ d = 2 ∨ d = 3 ∨ d = 4 ∨ d = 5 ∨ d = 6 ∨ d = 7 ∨ d = 8) with rfl | rfl | rfl | rfl | rfl | rfl | rfl | rfl | rfl
    all_goals
      go_enter Tryd.func32, Tryd.ntmps32
      go_wp2_with fail
      go_ret
      exact ⟨rfl, (Below.refl _ _).alloc (Nat.le_refl _) _⟩
set_option maxHeartbeats 1000000 in
set_option maxRecDepth 20000 in
theorem swind_calm1 (d f l r p : Int) (dt FF : List UInt8) (w : World) (hd : d = 0)
    (SD : Hid (∀ X, Calls Tryd.prog 32 #[.int .i64 1, .int .i64 d] X fun e w' => e = .returned (.string ⟨dt.toArray⟩) ∧ Below X.heap.size X w'))
    (FD : Hid (∀ X, Calls Tryd.prog 33 #[.int .i64 f] X fun e w' => e = .returned (.string ⟨FF.toArray⟩) ∧ Below X.heap.size X w')) :
    Calls Tryd.prog 15 #[.agg #[.int .i64 d, .int .i64 f, .int .i64 l, .int .i64 r, .int .i64 p], .int .i64 1] w fun e w' => e = .returned (.string ⟨#[99, 97, 108, 109]⟩) ∧ Below w.heap.size w w' := by
  obtain ⟨w0, hw0⟩ : ∃ w0, w0 = w.alloc (.cells #[.int .i64 d, .int .i64 f, .int .i64 l, .int .i64 r, .int .i64 p] 23) := ⟨_, rfl⟩
  have HW : Hid (w0 = w.alloc (.cells #[.int .i64 d, .int .i64 f, .int .i64 l, .int .i64 r, .int .i64 p] 23)) := hw0
  have B0 : Hid (Below w.heap.size w w0) := (by show Below _ _ _; rw [hw0]; exact (Below.refl _ _).alloc (Nat.le_refl _) _)
  have z0 : w.heap.size < w0.heap.size := by rw [hw0]; simp
  have y0 : w0.cell? ⟨w.heap.size, 0, none⟩ = some (.int .i64 d) := by rw [hw0]; simp [go_sem]
  have y1 : w0.cell? ⟨w.heap.size, 1, none⟩ = some (.int .i64 f) := by rw [hw0]; simp [go_sem]
  clear hw0
  subst d
  go_enter Tryd.func15, Tryd.ntmps15
  go_upto_region 1 with fail
  rw [← HW.out]
  go_wp2_with fail
  refine (SD.out _).mono ?_
  rintro e w1 ⟨rfl, hb1⟩
  have p0 := (hb1.cell (p := ⟨w.heap.size, 0, none⟩) z0).trans y0
  have p1 := (hb1.cell (p := ⟨w.heap.size, 1, none⟩) z0).trans y1
  have z1 : w.heap.size < w1.heap.size := Nat.lt_of_lt_of_le z0 hb1.size
  have B1 : Hid (Below w.heap.size w w1) := B0.out.trans (hb1.mono B0.out.size)
  clear hb1 y0 y1 z0 B0 HW
  go_wp2_with fail
  refine (FD.out _).mono ?_
  rintro e w2 ⟨rfl, hb2⟩
  have r0 := (hb2.cell (p := ⟨w.heap.size, 0, none⟩) z1).trans p0
  have B2 : Hid (Below w.heap.size w w2) := B1.out.trans (hb2.mono B1.out.size)
  clear hb2 p0 p1 z1 B1
  go_wp2_with fail
  go_ret
  exact ⟨rfl, B2.out.alloc B2.out.size _⟩
set_option maxHeartbeats 1000000 in
set_option maxRecDepth 20000 in
theorem swind_blow1 (d f l r p : Int) (dt FF R : List UInt8) (w : World) (hd : d ≠ 0) (hdt : dt.length ≤ 100) (hFF : FF.length ≤ 100) (hR : R = dt ++ [32] ++ FF)
    (SD : Hid (∀ X, Calls Tryd.prog 32 #[.int .i64 1, .int .i64 d] X fun e w' => e = .returned (.string ⟨dt.toArray⟩) ∧ Below X.heap.size X w'))
    (FD : Hid (∀ X, Calls Tryd.prog 33 #[.int .i64 f] X fun e w' => e = .returned (.string ⟨FF.toArray⟩) ∧ Below X.heap.size X w')) :
    Calls Tryd.prog 15 #[.agg #[.int .i64 d, .int .i64 f, .int .i64 l, .int .i64 r, .int .i64 p], .int .i64 1] w fun e w' => e = .returned (.string ⟨R.toArray⟩) ∧ Below w.heap.size w w' := by
  obtain ⟨A0, hA0⟩ : ∃ A, A = dt ++ [32] := ⟨_, rfl⟩
  have lA0 : A0.length = dt.length + 1 := by rw [hA0]; simp <;> omega
  have eA0 : (⟨dt.toArray⟩ : ByteArray) ++ ⟨#[32]⟩ = ⟨A0.toArray⟩ := by rw [hA0]; exact cat dt [32]
  have uA0 : ¬ 9223372036854775807 < dt.length + 1 := by omega
  obtain ⟨A1, hA1⟩ : ∃ A, A = A0 ++ FF := ⟨_, rfl⟩
  have lA1 : A1.length = A0.length + FF.length := by rw [hA1]; simp <;> omega
  have eA1 : (⟨A0.toArray⟩ : ByteArray) ++ ⟨FF.toArray⟩ = ⟨A1.toArray⟩ := by rw [hA1]; exact cat A0 FF
  have uA1 : ¬ 9223372036854775807 < A0.length + FF.length := by omega
  have hRR : R = A1 := by rw [hR, hA1, hA0]
  subst hRR
  clear hR hA0 hA1 lA0 lA1
  have db : (d == 0) = false := by simpa using hd
  obtain ⟨w0, hw0⟩ : ∃ w0, w0 = w.alloc (.cells #[.int .i64 d, .int .i64 f, .int .i64 l, .int .i64 r, .int .i64 p] 23) := ⟨_, rfl⟩
  have HW : Hid (w0 = w.alloc (.cells #[.int .i64 d, .int .i64 f, .int .i64 l, .int .i64 r, .int .i64 p] 23)) := hw0
  have B0 : Hid (Below w.heap.size w w0) := (by show Below _ _ _; rw [hw0]; exact (Below.refl _ _).alloc (Nat.le_refl _) _)
  have z0 : w.heap.size < w0.heap.size := by rw [hw0]; simp
  have y0 : w0.cell? ⟨w.heap.size, 0, none⟩ = some (.int .i64 d) := by rw [hw0]; simp [go_sem]
  have y1 : w0.cell? ⟨w.heap.size, 1, none⟩ = some (.int .i64 f) := by rw [hw0]; simp [go_sem]
  clear hw0
  go_enter Tryd.func15, Tryd.ntmps15
  go_upto_region 1 with fail
  rw [← HW.out]
  go_wp2_with fail
  refine (SD.out _).mono ?_
  rintro e w1 ⟨rfl, hb1⟩
  have p0 := (hb1.cell (p := ⟨w.heap.size, 0, none⟩) z0).trans y0
  have p1 := (hb1.cell (p := ⟨w.heap.size, 1, none⟩) z0).trans y1
  have z1 : w.heap.size < w1.heap.size := Nat.lt_of_lt_of_le z0 hb1.size
  have B1 : Hid (Below w.heap.size w w1) := B0.out.trans (hb1.mono B0.out.size)
  clear hb1 y0 y1 z0 B0 HW
  go_wp2_with fail
  refine (FD.out _).mono ?_
  rintro e w2 ⟨rfl, hb2⟩
  have r0 := (hb2.cell (p := ⟨w.heap.size, 0, none⟩) z1).trans p0
  have B2 : Hid (Below w.heap.size w w2) := B1.out.trans (hb2.mono B1.out.size)
  clear hb2 p0 p1 z1 B1
  go_wp2_with fail
  go_ret
  exact ⟨rfl, B2.out⟩
set_option maxHeartbeats 1000000 in
set_option maxRecDepth 20000 in
theorem swind_calm2 (d f l r p : Int) (dt FF : List UInt8) (w : World) (hd : d = 0)
    (SD : Hid (∀ X, Calls Tryd.prog 32 #[.int .i64 2, .int .i64 d] X fun e w' => e = .returned (.string ⟨dt.toArray⟩) ∧ Below X.heap.size X w'))
    (FD : Hid (∀ X, Calls Tryd.prog 33 #[.int .i64 f] X fun e w' => e = .returned (.string ⟨FF.toArray⟩) ∧ Below X.heap.size X w')) :
    Calls Tryd.prog 15 #[.agg #[.int .i64 d, .int .i64 f, .int .i64 l, .int .i64 r, .int .i64 p], .int .i64 2] w fun e w' => e = .returned (.string ⟨#[119, 105, 110, 100, 115, 116, 105, 108, 108]⟩) ∧ Below w.heap.size w w' := by
  obtain ⟨w0, hw0⟩ : ∃ w0, w0 = w.alloc (.cells #[.int .i64 d, .int .i64 f, .int .i64 l, .int .i64 r, .int .i64 p] 23) := ⟨_, rfl⟩
  have HW : Hid (w0 = w.alloc (.cells #[.int .i64 d, .int .i64 f, .int .i64 l, .int .i64 r, .int .i64 p] 23)) := hw0
  have B0 : Hid (Below w.heap.size w w0) := (by show Below _ _ _; rw [hw0]; exact (Below.refl _ _).alloc (Nat.le_refl _) _)
  have z0 : w.heap.size < w0.heap.size := by rw [hw0]; simp
  have y0 : w0.cell? ⟨w.heap.size, 0, none⟩ = some (.int .i64 d) := by rw [hw0]; simp [go_sem]
  have y1 : w0.cell? ⟨w.heap.size, 1, none⟩ = some (.int .i64 f) := by rw [hw0]; simp [go_sem]
  clear hw0
  subst d
  go_enter Tryd.func15, Tryd.ntmps15
  go_upto_region 1 with fail
  rw [← HW.out]
  go_wp2_with fail
  refine (SD.out _).mono ?_
  rintro e w1 ⟨rfl, hb1⟩
  have p0 := (hb1.cell (p := ⟨w.heap.size, 0, none⟩) z0).trans y0
  have p1 := (hb1.cell (p := ⟨w.heap.size, 1, none⟩) z0).trans y1
  have z1 : w.heap.size < w1.heap.size := Nat.lt_of_lt_of_le z0 hb1.size
  have B1 : Hid (Below w.heap.size w w1) := B0.out.trans (hb1.mono B0.out.size)
  clear hb1 y0 y1 z0 B0 HW
  go_wp2_with fail
  refine (FD.out _).mono ?_
  rintro e w2 ⟨rfl, hb2⟩
  have r0 := (hb2.cell (p := ⟨w.heap.size, 0, none⟩) z1).trans p0
  have B2 : Hid (Below w.heap.size w w2) := B1.out.trans (hb2.mono B1.out.size)
  clear hb2 p0 p1 z1 B1
  go_wp2_with fail
  go_ret
  exact ⟨rfl, B2.out.alloc B2.out.size _⟩
set_option maxHeartbeats 1000000 in
set_option maxRecDepth 20000 in
theorem swind_blow2 (d f l r p : Int) (dt FF R : List UInt8) (w : World) (hd : d ≠ 0) (hdt : dt.length ≤ 100) (hFF : FF.length ≤ 100) (hR : R = dt ++ [32, 83, 116, 195, 164, 114, 107, 101, 32] ++ FF)
    (SD : Hid (∀ X, Calls Tryd.prog 32 #[.int .i64 2, .int .i64 d] X fun e w' => e = .returned (.string ⟨dt.toArray⟩) ∧ Below X.heap.size X w'))
    (FD : Hid (∀ X, Calls Tryd.prog 33 #[.int .i64 f] X fun e w' => e = .returned (.string ⟨FF.toArray⟩) ∧ Below X.heap.size X w')) :
    Calls Tryd.prog 15 #[.agg #[.int .i64 d, .int .i64 f, .int .i64 l, .int .i64 r, .int .i64 p], .int .i64 2] w fun e w' => e = .returned (.string ⟨R.toArray⟩) ∧ Below w.heap.size w w' := by
  obtain ⟨A0, hA0⟩ : ∃ A, A = dt ++ [32, 83, 116, 195, 164, 114, 107, 101, 32] := ⟨_, rfl⟩
  have lA0 : A0.length = dt.length + 9 := by rw [hA0]; simp <;> omega
  have eA0 : (⟨dt.toArray⟩ : ByteArray) ++ ⟨#[32, 83, 116, 195, 164, 114, 107, 101, 32]⟩ = ⟨A0.toArray⟩ := by rw [hA0]; exact cat dt [32, 83, 116, 195, 164, 114, 107, 101, 32]
  have uA0 : ¬ 9223372036854775807 < dt.length + 9 := by omega
  obtain ⟨A1, hA1⟩ : ∃ A, A = A0 ++ FF := ⟨_, rfl⟩
  have lA1 : A1.length = A0.length + FF.length := by rw [hA1]; simp <;> omega
  have eA1 : (⟨A0.toArray⟩ : ByteArray) ++ ⟨FF.toArray⟩ = ⟨A1.toArray⟩ := by rw [hA1]; exact cat A0 FF
  have uA1 : ¬ 9223372036854775807 < A0.length + FF.length := by omega
  have hRR : R = A1 := by rw [hR, hA1, hA0]
  subst hRR
  clear hR hA0 hA1 lA0 lA1
  have db : (d == 0) = false := by simpa using hd
  obtain ⟨w0, hw0⟩ : ∃ w0, w0 = w.alloc (.cells #[.int .i64 d, .int .i64 f, .int .i64 l, .int .i64 r, .int .i64 p] 23) := ⟨_, rfl⟩
  have HW : Hid (w0 = w.alloc (.cells #[.int .i64 d, .int .i64 f, .int .i64 l, .int .i64 r, .int .i64 p] 23)) := hw0
  have B0 : Hid (Below w.heap.size w w0) := (by show Below _ _ _; rw [hw0]; exact (Below.refl _ _).alloc (Nat.le_refl _) _)
  have z0 : w.heap.size < w0.heap.size := by rw [hw0]; simp
  have y0 : w0.cell? ⟨w.heap.size, 0, none⟩ = some (.int .i64 d) := by rw [hw0]; simp [go_sem]
  have y1 : w0.cell? ⟨w.heap.size, 1, none⟩ = some (.int .i64 f) := by rw [hw0]; simp [go_sem]
  clear hw0
  go_enter Tryd.func15, Tryd.ntmps15
  go_upto_region 1 with fail
  rw [← HW.out]
  go_wp2_with fail
  refine (SD.out _).mono ?_
  rintro e w1 ⟨rfl, hb1⟩
  have p0 := (hb1.cell (p := ⟨w.heap.size, 0, none⟩) z0).trans y0
  have p1 := (hb1.cell (p := ⟨w.heap.size, 1, none⟩) z0).trans y1
  have z1 : w.heap.size < w1.heap.size := Nat.lt_of_lt_of_le z0 hb1.size
  have B1 : Hid (Below w.heap.size w w1) := B0.out.trans (hb1.mono B0.out.size)
  clear hb1 y0 y1 z0 B0 HW
  go_wp2_with fail
  refine (FD.out _).mono ?_
  rintro e w2 ⟨rfl, hb2⟩
  have r0 := (hb2.cell (p := ⟨w.heap.size, 0, none⟩) z1).trans p0
  have B2 : Hid (Below w.heap.size w w2) := B1.out.trans (hb2.mono B1.out.size)
  clear hb2 p0 p1 z1 B1
  go_wp2_with fail
  go_ret
  exact ⟨rfl, B2.out⟩
set_option maxHeartbeats 1000000 in
set_option maxRecDepth 20000 in
theorem swind_calm3 (d f l r p : Int) (dt FF : List UInt8) (w : World) (hd : d = 0)
    (SD : Hid (∀ X, Calls Tryd.prog 32 #[.int .i64 3, .int .i64 d] X fun e w' => e = .returned (.string ⟨dt.toArray⟩) ∧ Below X.heap.size X w'))
    (FD : Hid (∀ X, Calls Tryd.prog 33 #[.int .i64 f] X fun e w' => e = .returned (.string ⟨FF.toArray⟩) ∧ Below X.heap.size X w')) :
    Calls Tryd.prog 15 #[.agg #[.int .i64 d, .int .i64 f, .int .i64 l, .int .i64 r, .int .i64 p], .int .i64 3] w fun e w' => e = .returned (.string ⟨#[99, 105, 115, 122, 97]⟩) ∧ Below w.heap.size w w' := by
  obtain ⟨w0, hw0⟩ : ∃ w0, w0 = w.alloc (.cells #[.int .i64 d, .int .i64 f, .int .i64 l, .int .i64 r, .int .i64 p] 23) := ⟨_, rfl⟩
  have HW : Hid (w0 = w.alloc (.cells #[.int .i64 d, .int .i64 f, .int .i64 l, .int .i64 r, .int .i64 p] 23)) := hw0
  have B0 : Hid (Below w.heap.size w w0) := (by show Below _ _ _; rw [hw0]; exact (Below.refl _ _).alloc (Nat.le_refl _) _)
  have z0 : w.heap.size < w0.heap.size := by rw [hw0]; simp
  have y0 : w0.cell? ⟨w.heap.size, 0, none⟩ = some (.int .i64 d) := by rw [hw0]; simp [go_sem]
  have y1 : w0.cell? ⟨w.heap.size, 1, none⟩ = some (.int .i64 f) := by rw [hw0]; simp [go_sem]
  clear hw0
  subst d
  go_enter Tryd.func15, Tryd.ntmps15
  go_upto_region 1 with fail
  rw [← HW.out]
  go_wp2_with fail
  refine (SD.out _).mono ?_
  rintro e w1 ⟨rfl, hb1⟩
  have p0 := (hb1.cell (p := ⟨w.heap.size, 0, none⟩) z0).trans y0
  have p1 := (hb1.cell (p := ⟨w.heap.size, 1, none⟩) z0).trans y1
  have z1 : w.heap.size < w1.heap.size := Nat.lt_of_lt_of_le z0 hb1.size
  have B1 : Hid (Below w.heap.size w w1) := B0.out.trans (hb1.mono B0.out.size)
  clear hb1 y0 y1 z0 B0 HW
  go_wp2_with fail
  refine (FD.out _).mono ?_
  rintro e w2 ⟨rfl, hb2⟩
  have r0 := (hb2.cell (p := ⟨w.heap.size, 0, none⟩) z1).trans p0
  have B2 : Hid (Below w.heap.size w w2) := B1.out.trans (hb2.mono B1.out.size)
  clear hb2 p0 p1 z1 B1
  go_wp2_with fail
  go_ret
  exact ⟨rfl, B2.out.alloc B2.out.size _⟩
set_option maxHeartbeats 1000000 in
set_option maxRecDepth 20000 in
theorem swind_blow3 (d f l r p : Int) (dt FF R : List UInt8) (w : World) (hd : d ≠ 0) (hdt : dt.length ≤ 100) (hFF : FF.length ≤ 100) (hR : R = [119, 105, 97, 116, 114, 32] ++ dt ++ [44, 32, 115, 105, 197, 130, 97, 32] ++ FF)
    (SD : Hid (∀ X, Calls Tryd.prog 32 #[.int .i64 3, .int .i64 d] X fun e w' => e = .returned (.string ⟨dt.toArray⟩) ∧ Below X.heap.size X w'))
    (FD : Hid (∀ X, Calls Tryd.prog 33 #[.int .i64 f] X fun e w' => e = .returned (.string ⟨FF.toArray⟩) ∧ Below X.heap.size X w')) :
    Calls Tryd.prog 15 #[.agg #[.int .i64 d, .int .i64 f, .int .i64 l, .int .i64 r, .int .i64 p], .int .i64 3] w fun e w' => e = .returned (.string ⟨R.toArray⟩) ∧ Below w.heap.size w w' := by
  obtain ⟨A0, hA0⟩ : ∃ A, A = ([119, 105, 97, 116, 114, 32] : List UInt8) ++ dt := ⟨_, rfl⟩
  have lA0 : A0.length = 6 + dt.length := by rw [hA0]; simp <;> omega
  have eA0 : (⟨#[119, 105, 97, 116, 114, 32]⟩ : ByteArray) ++ ⟨dt.toArray⟩ = ⟨A0.toArray⟩ := by rw [hA0]; exact cat [119, 105, 97, 116, 114, 32] dt
  have uA0 : ¬ 9223372036854775807 < 6 + dt.length := by omega
  obtain ⟨A1, hA1⟩ : ∃ A, A = A0 ++ [44, 32, 115, 105, 197, 130, 97, 32] := ⟨_, rfl⟩
  have lA1 : A1.length = A0.length + 8 := by rw [hA1]; simp <;> omega
  have eA1 : (⟨A0.toArray⟩ : ByteArray) ++ ⟨#[44, 32, 115, 105, 197, 130, 97, 32]⟩ = ⟨A1.toArray⟩ := by rw [hA1]; exact cat A0 [44, 32, 115, 105, 197, 130, 97, 32]
  have uA1 : ¬ 9223372036854775807 < A0.length + 8 := by omega
  obtain ⟨A2, hA2⟩ : ∃ A, A = A1 ++ FF := ⟨_, rfl⟩
  have lA2 : A2.length = A1.length + FF.length := by rw [hA2]; simp <;> omega
  have eA2 : (⟨A1.toArray⟩ : ByteArray) ++ ⟨FF.toArray⟩ = ⟨A2.toArray⟩ := by rw [hA2]; exact cat A1 FF
  have uA2 : ¬ 9223372036854775807 < A1.length + FF.length := by omega
  have hRR : R = A2 := by rw [hR, hA2, hA1, hA0]
  subst hRR
  clear hR hA0 hA1 hA2 lA0 lA1 lA2
  have db : (d == 0) = false := by simpa using hd
  obtain ⟨w0, hw0⟩ : ∃ w0, w0 = w.alloc (.cells #[.int .i64 d, .int .i64 f, .int .i64 l, .int .i64 r, .int .i64 p] 23) := ⟨_, rfl⟩
  have HW : Hid (w0 = w.alloc (.cells #[.int .i64 d, .int .i64 f, .int .i64 l, .int .i64 r, .int .i64 p] 23)) := hw0
  have B0 : Hid (Below w.heap.size w w0) := (by show Below _ _ _; rw [hw0]; exact (Below.refl _ _).alloc (Nat.le_refl _) _)
  have z0 : w.heap.size < w0.heap.size := by rw [hw0]; simp
  have y0 : w0.cell? ⟨w.heap.size, 0, none⟩ = some (.int .i64 d) := by rw [hw0]; simp [go_sem]
  have y1 : w0.cell? ⟨w.heap.size, 1, none⟩ = some (.int .i64 f) := by rw [hw0]; simp [go_sem]
  clear hw0
  go_enter Tryd.func15, Tryd.ntmps15
  go_upto_region 1 with fail
  rw [← HW.out]
  go_wp2_with fail
  refine (SD.out _).mono ?_
  rintro e w1 ⟨rfl, hb1⟩
  have p0 := (hb1.cell (p := ⟨w.heap.size, 0, none⟩) z0).trans y0
  have p1 := (hb1.cell (p := ⟨w.heap.size, 1, none⟩) z0).trans y1
  have z1 : w.heap.size < w1.heap.size := Nat.lt_of_lt_of_le z0 hb1.size
  have B1 : Hid (Below w.heap.size w w1) := B0.out.trans (hb1.mono B0.out.size)
  clear hb1 y0 y1 z0 B0 HW
  go_wp2_with fail
  refine (FD.out _).mono ?_
  rintro e w2 ⟨rfl, hb2⟩
  have r0 := (hb2.cell (p := ⟨w.heap.size, 0, none⟩) z1).trans p0
  have B2 : Hid (Below w.heap.size w w2) := B1.out.trans (hb2.mono B1.out.size)
  clear hb2 p0 p1 z1 B1
  go_wp2_with fail
  go_ret
  exact ⟨rfl, B2.out⟩
set_option maxHeartbeats 2000000 in
set_option maxRecDepth 20000 in
theorem slater_gt1 (d f l r p : Int) (LL R : List UInt8) (w : World) (hf : f < l) (hLL : LL.length ≤ 100) (hR : R = [44, 32, 114, 105, 115, 105, 110, 103, 32, 116, 111, 32] ++ LL)
    (FD : Hid (∀ X, Calls Tryd.prog 33 #[.int .i64 l] X fun e w' => e = .returned (.string ⟨LL.toArray⟩) ∧ Below X.heap.size X w')) :
    Calls Tryd.prog 16 #[.agg #[.int .i64 d, .int .i64 f, .int .i64 l, .int .i64 r, .int .i64 p], .int .i64 1] w fun e w' => e = .returned (.string ⟨R.toArray⟩) ∧ Below w.heap.size w w' := by
  have eA : (⟨#[44, 32, 114, 105, 115, 105, 110, 103, 32, 116, 111, 32]⟩ : ByteArray) ++ ⟨LL.toArray⟩ = ⟨R.toArray⟩ := by rw [hR]; exact cat [44, 32, 114, 105, 115, 105, 110, 103, 32, 116, 111, 32] LL
  have uA : ¬ 9223372036854775807 < 12 + LL.length := by omega
  clear hR
  obtain ⟨w0, hw0⟩ : ∃ w0, w0 = w.alloc (.cells #[.int .i64 d, .int .i64 f, .int .i64 l, .int .i64 r, .int .i64 p] 23) := ⟨_, rfl⟩
  have HW : Hid (w0 = w.alloc (.cells #[.int .i64 d, .int .i64 f, .int .i64 l, .int .i64 r, .int .i64 p] 23)) := hw0
  have B0 : Hid (Below w.heap.size w w0) := (by show Below _ _ _; rw [hw0]; exact (Below.refl _ _).alloc (Nat.le_refl _) _)
  have z0 : w.heap.size < w0.heap.size := by rw [hw0]; simp
  have y1 : w0.cell? ⟨w.heap.size, 1, none⟩ = some (.int .i64 f) := by rw [hw0]; simp [go_sem]
  have y2 : w0.cell? ⟨w.heap.size, 2, none⟩ = some (.int .i64 l) := by rw [hw0]; simp [go_sem]
  clear hw0
  go_enter Tryd.func16, Tryd.ntmps16
  go_upto_region 1 with fail
  rw [← HW.out]
  go_upto_region 2 with fail
  refine wp_region_held_drew (S := fun w' => w'.cell? ⟨w.heap.size, 2, none⟩ = some (.int .i64 l)) (by kernel_rfl) y2 (fun hHeld => ?_)
  refine wpAnyH_take (i := 1) (oi := { dst := some 11, op := Go.Op.move (Go.Operand.tmp 1), type := 2, pos := "l23_tongues.go:36", after := #[], guard := none }) (v := ?_) rfl (by kernel_rfl) (by kernel_rfl) (by kernel_rfl) (fun _ _ _ h => h) (Or.inl ⟨by rfl, ?_⟩) (by assumption) ?_
  rotate_left 1
  · (intro w hSw; (try dsimp only at hSw); go_simp); all_goals (with_reducible rfl)
  try simp only [Act.put, List.setIfInBounds_toArray, List.set_cons_zero, List.set_cons_succ]
  refine wpAnyH_take (i := 4) (oi := { dst := some 14, op := Go.Op.fieldAddr 23 (Go.Operand.tmp 2) 2, type := 0, pos := "l23_tongues.go:36", after := #[], guard := none }) (v := ?_) rfl (by kernel_rfl) (by kernel_rfl) (by kernel_rfl) (fun _ _ _ h => h) (Or.inl ⟨by rfl, ?_⟩) (by assumption) ?_
  rotate_left 1
  · (intro w hSw; (try dsimp only at hSw); go_simp); all_goals (with_reducible rfl)
  try simp only [Act.put, List.setIfInBounds_toArray, List.set_cons_zero, List.set_cons_succ]
  refine wpAnyH_take (i := 5) (oi := { dst := some 15, op := Go.Op.load 2 (Go.Operand.tmp 14), type := 2, pos := "l23_tongues.go:36", after := #[{ on := 4, ground := Go.Ground.data }], guard := none }) (v := ?_) rfl (by kernel_rfl) (by kernel_rfl) (by kernel_rfl) (fun _ _ _ h => h) (Or.inl ⟨by rfl, ?_⟩) (by assumption) ?_
  rotate_left 1
  · (intro w hSw; (try dsimp only at hSw); go_simp); all_goals (with_reducible rfl)
  try simp only [Act.put, List.setIfInBounds_toArray, List.set_cons_zero, List.set_cons_succ]
  refine wpAnyH_ready (rs := [0, 6]) (by kernel_rfl) (by simp) ?_
  refine AllReadyH.cons (o := { dst := some 10, op := Go.Op.buildSlice 59 4 #[(0, Go.Operand.const (Go.Value.string { data := #[] })), (1, Go.Operand.const (Go.Value.string { data := #[44, 32, 114, 105, 115, 105, 110, 103, 32, 116, 111, 32] })), (2, Go.Operand.const (Go.Value.string { data := #[44, 32, 122, 117, 110, 101, 104, 109, 101, 110, 100, 32] })), (3, Go.Operand.const (Go.Value.string { data := #[44, 32, 119, 122, 114, 111, 115, 116, 32, 100, 111, 32] }))], type := 59, pos := "l23_tongues.go:36", after := #[], guard := none }) rfl (fun K hK => ?_) (AllReadyH.cons (o := { dst := some 16, op := Go.Op.call { callee := Go.Callee.value (Go.Operand.func 33), args := #[Go.Operand.tmp 15], argTypes := #[2] }, type := 9, pos := "l23_tongues.go:36", after := #[{ on := 5, ground := Go.Ground.data }], guard := none }) rfl (fun K hK => ?_) AllReadyH.nil)
  · go_simp
    refine hK.out _ _ (cell_al2 y2) (fun hHeld2 => ?_)
    clear hK K hHeld
    have hHeld := hHeld2
    clear hHeld2
    try simp only [Act.put, List.setIfInBounds_toArray, List.set_cons_zero, List.set_cons_succ]
    refine wpAnyH_take (i := 2) (oi := { dst := some 12, op := Go.Op.indexAddr 59 (Go.Operand.tmp 10) (Go.Operand.tmp 11), type := 0, pos := "l23_tongues.go:36", after := #[{ on := 0, ground := Go.Ground.data }, { on := 1, ground := Go.Ground.data }], guard := none }) (v := ?_) rfl (by kernel_rfl) (by kernel_rfl) (by kernel_rfl) (fun _ _ _ h => h) (Or.inl ⟨by rfl, ?_⟩) (by assumption) ?_
    rotate_left 1
    · (intro w hSw; (try dsimp only at hSw); go_simp); all_goals (with_reducible rfl)
    try simp only [Act.put, List.setIfInBounds_toArray, List.set_cons_zero, List.set_cons_succ]
    refine wpAnyH_ready (rs := [3, 6]) (by kernel_rfl) (by simp) ?_
    refine AllReadyH.cons (o := { dst := some 13, op := Go.Op.load 9 (Go.Operand.tmp 12), type := 9, pos := "l23_tongues.go:36", after := #[{ on := 2, ground := Go.Ground.data }], guard := none }) rfl (fun K hK => ?_) (AllReadyH.cons (o := { dst := some 16, op := Go.Op.call { callee := Go.Callee.value (Go.Operand.func 33), args := #[Go.Operand.tmp 15], argTypes := #[2] }, type := 9, pos := "l23_tongues.go:36", after := #[{ on := 5, ground := Go.Ground.data }], guard := none }) rfl (fun K hK => ?_) AllReadyH.nil)
    · go_simp
      refine hK.out _ _ (cell_al2 y2) (fun hHeld2 => ?_)
      clear hK K hHeld
      have hHeld := hHeld2
      clear hHeld2
      try simp only [Act.put, List.setIfInBounds_toArray, List.set_cons_zero, List.set_cons_succ]
      refine wpAnyH_ready (rs := [6]) (by kernel_rfl) (by simp) ?_
      refine AllReadyH.cons (o := { dst := some 16, op := Go.Op.call { callee := Go.Callee.value (Go.Operand.func 33), args := #[Go.Operand.tmp 15], argTypes := #[2] }, type := 9, pos := "l23_tongues.go:36", after := #[{ on := 5, ground := Go.Ground.data }], guard := none }) rfl (fun K hK => ?_) AllReadyH.nil
      go_simp
      refine (FD.out (w0.drew.alloc (.cells #[.string ⟨#[]⟩, .string ⟨#[44, 32, 114, 105, 115, 105, 110, 103, 32, 116, 111, 32]⟩, .string ⟨#[44, 32, 122, 117, 110, 101, 104, 109, 101, 110, 100, 32]⟩, .string ⟨#[44, 32, 119, 122, 114, 111, 115, 116, 32, 100, 111, 32]⟩] 9))).mono ?_
      rintro e w2 ⟨rfl, hb2⟩
      have b2 : Below w0.heap.size w0 w2 := ((Below.refl _ _).drew.alloc (by simp) _).trans (hb2.mono (by simp))
      have BF : Hid (Below w.heap.size w w2) := B0.out.trans (b2.mono B0.out.size)
      go_wp2_with fail
      refine hK.out _ _ ((b2.cell (p := ⟨w.heap.size, 2, none⟩) z0).trans y2) (fun hHeld2 => ?_)
      clear hK K hHeld
      have hHeld := hHeld2
      clear hHeld2
      try simp only [Act.put, List.setIfInBounds_toArray, List.set_cons_zero, List.set_cons_succ]
      refine wpAnyH_take (i := 7) (oi := { dst := some 17, op := Go.Op.binOp Go.BinOp.add 9 (Go.Operand.tmp 13) (Go.Operand.tmp 16) 9, type := 9, pos := "l23_tongues.go:36", after := #[{ on := 3, ground := Go.Ground.data }, { on := 6, ground := Go.Ground.data }], guard := none }) (v := ?_) rfl (by kernel_rfl) (by kernel_rfl) (by kernel_rfl) (fun _ _ _ h => h) (Or.inl ⟨by rfl, ?_⟩) (by assumption) ?_
      rotate_left 1
      · (intro w hSw; (try dsimp only at hSw); go_simp); all_goals (with_reducible rfl)
      try simp only [Act.put, List.setIfInBounds_toArray, List.set_cons_zero, List.set_cons_succ]
      refine wpAnyH_take (i := 8) (oi := { dst := some 4, op := Go.Op.assign (Go.Operand.tmp 17), type := 9, pos := "l23_tongues.go:36", after := #[{ on := 7, ground := Go.Ground.data }, { on := 6, ground := Go.Ground.chain }, { on := 0, ground := Go.Ground.phase }, { on := 1, ground := Go.Ground.phase }, { on := 2, ground := Go.Ground.phase }, { on := 3, ground := Go.Ground.phase }, { on := 4, ground := Go.Ground.phase }, { on := 5, ground := Go.Ground.phase }, { on := 6, ground := Go.Ground.phase }, { on := 7, ground := Go.Ground.phase }], guard := none }) (v := ?_) rfl (by kernel_rfl) (by kernel_rfl) (by kernel_rfl) (fun _ _ _ h => h) (Or.inl ⟨by rfl, ?_⟩) (by assumption) ?_
      rotate_left 1
      · (intro w hSw; (try dsimp only at hSw); go_simp); all_goals (with_reducible rfl)
      try simp only [Act.put, List.setIfInBounds_toArray, List.set_cons_zero, List.set_cons_succ]
      refine wpAnyH_done (by kernel_rfl) ?_ _
      clear hHeld
      go_wp2_with fail
      go_ret
      exact ⟨rfl, BF.out⟩
    · go_simp
      refine (FD.out (w0.drew.alloc (.cells #[.string ⟨#[]⟩, .string ⟨#[44, 32, 114, 105, 115, 105, 110, 103, 32, 116, 111, 32]⟩, .string ⟨#[44, 32, 122, 117, 110, 101, 104, 109, 101, 110, 100, 32]⟩, .string ⟨#[44, 32, 119, 122, 114, 111, 115, 116, 32, 100, 111, 32]⟩] 9))).mono ?_
      rintro e w2 ⟨rfl, hb2⟩
      have b2 : Below w0.heap.size w0 w2 := ((Below.refl _ _).drew.alloc (by simp) _).trans (hb2.mono (by simp))
      have lc : w2.cell? ⟨w0.heap.size, 1, none⟩ = some (.string ⟨#[44, 32, 114, 105, 115, 105, 110, 103, 32, 116, 111, 32]⟩) := (hb2.cell (p := ⟨w0.heap.size, 1, none⟩) (by simp)).trans (by simp [go_sem])
      have BF : Hid (Below w.heap.size w w2) := B0.out.trans (b2.mono B0.out.size)
      go_wp2_with fail
      refine hK.out _ _ ((b2.cell (p := ⟨w.heap.size, 2, none⟩) z0).trans y2) (fun hHeld2 => ?_)
      clear hK K hHeld
      have hHeld := hHeld2
      clear hHeld2
      try simp only [Act.put, List.setIfInBounds_toArray, List.set_cons_zero, List.set_cons_succ]
      refine wpAnyH_ready (rs := [3]) (by kernel_rfl) (by simp) ?_
      refine AllReadyH.cons (o := { dst := some 13, op := Go.Op.load 9 (Go.Operand.tmp 12), type := 9, pos := "l23_tongues.go:36", after := #[{ on := 2, ground := Go.Ground.data }], guard := none }) rfl (fun K hK => ?_) AllReadyH.nil
      go_simp
      refine hK.out _ _ ((b2.cell (p := ⟨w.heap.size, 2, none⟩) z0).trans y2) (fun hHeld2 => ?_)
      clear hK K hHeld
      have hHeld := hHeld2
      clear hHeld2
      try simp only [Act.put, List.setIfInBounds_toArray, List.set_cons_zero, List.set_cons_succ]
      refine wpAnyH_take (i := 7) (oi := { dst := some 17, op := Go.Op.binOp Go.BinOp.add 9 (Go.Operand.tmp 13) (Go.Operand.tmp 16) 9, type := 9, pos := "l23_tongues.go:36", after := #[{ on := 3, ground := Go.Ground.data }, { on := 6, ground := Go.Ground.data }], guard := none }) (v := ?_) rfl (by kernel_rfl) (by kernel_rfl) (by kernel_rfl) (fun _ _ _ h => h) (Or.inl ⟨by rfl, ?_⟩) (by assumption) ?_
      rotate_left 1
      · (intro w hSw; (try dsimp only at hSw); go_simp); all_goals (with_reducible rfl)
      try simp only [Act.put, List.setIfInBounds_toArray, List.set_cons_zero, List.set_cons_succ]
      refine wpAnyH_take (i := 8) (oi := { dst := some 4, op := Go.Op.assign (Go.Operand.tmp 17), type := 9, pos := "l23_tongues.go:36", after := #[{ on := 7, ground := Go.Ground.data }, { on := 6, ground := Go.Ground.chain }, { on := 0, ground := Go.Ground.phase }, { on := 1, ground := Go.Ground.phase }, { on := 2, ground := Go.Ground.phase }, { on := 3, ground := Go.Ground.phase }, { on := 4, ground := Go.Ground.phase }, { on := 5, ground := Go.Ground.phase }, { on := 6, ground := Go.Ground.phase }, { on := 7, ground := Go.Ground.phase }], guard := none }) (v := ?_) rfl (by kernel_rfl) (by kernel_rfl) (by kernel_rfl) (fun _ _ _ h => h) (Or.inl ⟨by rfl, ?_⟩) (by assumption) ?_
      rotate_left 1
      · (intro w hSw; (try dsimp only at hSw); go_simp); all_goals (with_reducible rfl)
      try simp only [Act.put, List.setIfInBounds_toArray, List.set_cons_zero, List.set_cons_succ]
      refine wpAnyH_done (by kernel_rfl) ?_ _
      clear hHeld
      go_wp2_with fail
      go_ret
      exact ⟨rfl, BF.out⟩
  · go_simp
    refine (FD.out w0.drew).mono ?_
    rintro e w2 ⟨rfl, hb2⟩
    have b2 : Below w0.heap.size w0 w2 := (Below.refl _ _).drew.trans (hb2.mono (by simp))
    have BF0 : Below w.heap.size w w2 := B0.out.trans (b2.mono B0.out.size)
    have k2 := (b2.cell (p := ⟨w.heap.size, 2, none⟩) z0).trans y2
    go_wp2_with fail
    refine hK.out _ _ (k2) (fun hHeld2 => ?_)
    clear hK K hHeld
    have hHeld := hHeld2
    clear hHeld2
    try simp only [Act.put, List.setIfInBounds_toArray, List.set_cons_zero, List.set_cons_succ]
    refine wpAnyH_ready (rs := [0]) (by kernel_rfl) (by simp) ?_
    refine AllReadyH.cons (o := { dst := some 10, op := Go.Op.buildSlice 59 4 #[(0, Go.Operand.const (Go.Value.string { data := #[] })), (1, Go.Operand.const (Go.Value.string { data := #[44, 32, 114, 105, 115, 105, 110, 103, 32, 116, 111, 32] })), (2, Go.Operand.const (Go.Value.string { data := #[44, 32, 122, 117, 110, 101, 104, 109, 101, 110, 100, 32] })), (3, Go.Operand.const (Go.Value.string { data := #[44, 32, 119, 122, 114, 111, 115, 116, 32, 100, 111, 32] }))], type := 59, pos := "l23_tongues.go:36", after := #[], guard := none }) rfl (fun K hK => ?_) AllReadyH.nil
    go_simp
    refine hK.out _ _ (cell_al2 k2) (fun hHeld2 => ?_)
    clear hK K hHeld
    have hHeld := hHeld2
    clear hHeld2
    try simp only [Act.put, List.setIfInBounds_toArray, List.set_cons_zero, List.set_cons_succ]
    refine wpAnyH_take (i := 2) (oi := { dst := some 12, op := Go.Op.indexAddr 59 (Go.Operand.tmp 10) (Go.Operand.tmp 11), type := 0, pos := "l23_tongues.go:36", after := #[{ on := 0, ground := Go.Ground.data }, { on := 1, ground := Go.Ground.data }], guard := none }) (v := ?_) rfl (by kernel_rfl) (by kernel_rfl) (by kernel_rfl) (fun _ _ _ h => h) (Or.inl ⟨by rfl, ?_⟩) (by assumption) ?_
    rotate_left 1
    · (intro w hSw; (try dsimp only at hSw); go_simp); all_goals (with_reducible rfl)
    try simp only [Act.put, List.setIfInBounds_toArray, List.set_cons_zero, List.set_cons_succ]
    refine wpAnyH_ready (rs := [3]) (by kernel_rfl) (by simp) ?_
    refine AllReadyH.cons (o := { dst := some 13, op := Go.Op.load 9 (Go.Operand.tmp 12), type := 9, pos := "l23_tongues.go:36", after := #[{ on := 2, ground := Go.Ground.data }], guard := none }) rfl (fun K hK => ?_) AllReadyH.nil
    go_simp
    refine hK.out _ _ (cell_al2 k2) (fun hHeld2 => ?_)
    clear hK K hHeld
    have hHeld := hHeld2
    clear hHeld2
    try simp only [Act.put, List.setIfInBounds_toArray, List.set_cons_zero, List.set_cons_succ]
    have BF : Hid (Below w.heap.size w (w2.alloc (.cells #[.string ⟨#[]⟩, .string ⟨#[44, 32, 114, 105, 115, 105, 110, 103, 32, 116, 111, 32]⟩, .string ⟨#[44, 32, 122, 117, 110, 101, 104, 109, 101, 110, 100, 32]⟩, .string ⟨#[44, 32, 119, 122, 114, 111, 115, 116, 32, 100, 111, 32]⟩] 9))) := BF0.alloc BF0.size _
    refine wpAnyH_take (i := 7) (oi := { dst := some 17, op := Go.Op.binOp Go.BinOp.add 9 (Go.Operand.tmp 13) (Go.Operand.tmp 16) 9, type := 9, pos := "l23_tongues.go:36", after := #[{ on := 3, ground := Go.Ground.data }, { on := 6, ground := Go.Ground.data }], guard := none }) (v := ?_) rfl (by kernel_rfl) (by kernel_rfl) (by kernel_rfl) (fun _ _ _ h => h) (Or.inl ⟨by rfl, ?_⟩) (by assumption) ?_
    rotate_left 1
    · (intro w hSw; (try dsimp only at hSw); go_simp); all_goals (with_reducible rfl)
    try simp only [Act.put, List.setIfInBounds_toArray, List.set_cons_zero, List.set_cons_succ]
    refine wpAnyH_take (i := 8) (oi := { dst := some 4, op := Go.Op.assign (Go.Operand.tmp 17), type := 9, pos := "l23_tongues.go:36", after := #[{ on := 7, ground := Go.Ground.data }, { on := 6, ground := Go.Ground.chain }, { on := 0, ground := Go.Ground.phase }, { on := 1, ground := Go.Ground.phase }, { on := 2, ground := Go.Ground.phase }, { on := 3, ground := Go.Ground.phase }, { on := 4, ground := Go.Ground.phase }, { on := 5, ground := Go.Ground.phase }, { on := 6, ground := Go.Ground.phase }, { on := 7, ground := Go.Ground.phase }], guard := none }) (v := ?_) rfl (by kernel_rfl) (by kernel_rfl) (by kernel_rfl) (fun _ _ _ h => h) (Or.inl ⟨by rfl, ?_⟩) (by assumption) ?_
    rotate_left 1
    · (intro w hSw; (try dsimp only at hSw); go_simp); all_goals (with_reducible rfl)
    try simp only [Act.put, List.setIfInBounds_toArray, List.set_cons_zero, List.set_cons_succ]
    refine wpAnyH_done (by kernel_rfl) ?_ _
    clear hHeld
    go_wp2_with fail
    go_ret
    exact ⟨rfl, BF.out⟩
set_option maxHeartbeats 2000000 in
set_option maxRecDepth 20000 in
theorem slater_lt1 (d f l r p : Int) (LL R : List UInt8) (w : World) (hf : l < f) (hLL : LL.length ≤ 100) (hR : R = [44, 32, 102, 97, 108, 108, 105, 110, 103, 32, 116, 111, 32] ++ LL)
    (FD : Hid (∀ X, Calls Tryd.prog 33 #[.int .i64 l] X fun e w' => e = .returned (.string ⟨LL.toArray⟩) ∧ Below X.heap.size X w')) :
    Calls Tryd.prog 16 #[.agg #[.int .i64 d, .int .i64 f, .int .i64 l, .int .i64 r, .int .i64 p], .int .i64 1] w fun e w' => e = .returned (.string ⟨R.toArray⟩) ∧ Below w.heap.size w w' := by
  have eA : (⟨#[44, 32, 102, 97, 108, 108, 105, 110, 103, 32, 116, 111, 32]⟩ : ByteArray) ++ ⟨LL.toArray⟩ = ⟨R.toArray⟩ := by rw [hR]; exact cat [44, 32, 102, 97, 108, 108, 105, 110, 103, 32, 116, 111, 32] LL
  have uA : ¬ 9223372036854775807 < 13 + LL.length := by omega
  clear hR
  have g1 : ¬ f < l := by omega
  obtain ⟨w0, hw0⟩ : ∃ w0, w0 = w.alloc (.cells #[.int .i64 d, .int .i64 f, .int .i64 l, .int .i64 r, .int .i64 p] 23) := ⟨_, rfl⟩
  have HW : Hid (w0 = w.alloc (.cells #[.int .i64 d, .int .i64 f, .int .i64 l, .int .i64 r, .int .i64 p] 23)) := hw0
  have B0 : Hid (Below w.heap.size w w0) := (by show Below _ _ _; rw [hw0]; exact (Below.refl _ _).alloc (Nat.le_refl _) _)
  have z0 : w.heap.size < w0.heap.size := by rw [hw0]; simp
  have y1 : w0.cell? ⟨w.heap.size, 1, none⟩ = some (.int .i64 f) := by rw [hw0]; simp [go_sem]
  have y2 : w0.cell? ⟨w.heap.size, 2, none⟩ = some (.int .i64 l) := by rw [hw0]; simp [go_sem]
  clear hw0
  go_enter Tryd.func16, Tryd.ntmps16
  go_upto_region 1 with fail
  rw [← HW.out]
  go_upto_region 4 with fail
  refine wp_region_held_drew (S := fun w' => w'.cell? ⟨w.heap.size, 2, none⟩ = some (.int .i64 l)) (by kernel_rfl) y2 (fun hHeld => ?_)
  refine wpAnyH_take (i := 1) (oi := { dst := some 24, op := Go.Op.move (Go.Operand.tmp 1), type := 2, pos := "l23_tongues.go:39", after := #[], guard := none }) (v := ?_) rfl (by kernel_rfl) (by kernel_rfl) (by kernel_rfl) (fun _ _ _ h => h) (Or.inl ⟨by rfl, ?_⟩) (by assumption) ?_
  rotate_left 1
  · (intro w hSw; (try dsimp only at hSw); go_simp); all_goals (with_reducible rfl)
  try simp only [Act.put, List.setIfInBounds_toArray, List.set_cons_zero, List.set_cons_succ]
  refine wpAnyH_take (i := 4) (oi := { dst := some 27, op := Go.Op.fieldAddr 23 (Go.Operand.tmp 2) 2, type := 0, pos := "l23_tongues.go:39", after := #[], guard := none }) (v := ?_) rfl (by kernel_rfl) (by kernel_rfl) (by kernel_rfl) (fun _ _ _ h => h) (Or.inl ⟨by rfl, ?_⟩) (by assumption) ?_
  rotate_left 1
  · (intro w hSw; (try dsimp only at hSw); go_simp); all_goals (with_reducible rfl)
  try simp only [Act.put, List.setIfInBounds_toArray, List.set_cons_zero, List.set_cons_succ]
  refine wpAnyH_take (i := 5) (oi := { dst := some 28, op := Go.Op.load 2 (Go.Operand.tmp 27), type := 2, pos := "l23_tongues.go:39", after := #[{ on := 4, ground := Go.Ground.data }], guard := none }) (v := ?_) rfl (by kernel_rfl) (by kernel_rfl) (by kernel_rfl) (fun _ _ _ h => h) (Or.inl ⟨by rfl, ?_⟩) (by assumption) ?_
  rotate_left 1
  · (intro w hSw; (try dsimp only at hSw); go_simp); all_goals (with_reducible rfl)
  try simp only [Act.put, List.setIfInBounds_toArray, List.set_cons_zero, List.set_cons_succ]
  refine wpAnyH_ready (rs := [0, 6]) (by kernel_rfl) (by simp) ?_
  refine AllReadyH.cons (o := { dst := some 23, op := Go.Op.buildSlice 59 4 #[(0, Go.Operand.const (Go.Value.string { data := #[] })), (1, Go.Operand.const (Go.Value.string { data := #[44, 32, 102, 97, 108, 108, 105, 110, 103, 32, 116, 111, 32] })), (2, Go.Operand.const (Go.Value.string { data := #[44, 32, 97, 98, 110, 101, 104, 109, 101, 110, 100, 32] })), (3, Go.Operand.const (Go.Value.string { data := #[44, 32, 115, 112, 97, 100, 101, 107, 32, 100, 111, 32] }))], type := 59, pos := "l23_tongues.go:39", after := #[], guard := none }) rfl (fun K hK => ?_) (AllReadyH.cons (o := { dst := some 29, op := Go.Op.call { callee := Go.Callee.value (Go.Operand.func 33), args := #[Go.Operand.tmp 28], argTypes := #[2] }, type := 9, pos := "l23_tongues.go:39", after := #[{ on := 5, ground := Go.Ground.data }], guard := none }) rfl (fun K hK => ?_) AllReadyH.nil)
  · go_simp
    refine hK.out _ _ (cell_al2 y2) (fun hHeld2 => ?_)
    clear hK K hHeld
    have hHeld := hHeld2
    clear hHeld2
    try simp only [Act.put, List.setIfInBounds_toArray, List.set_cons_zero, List.set_cons_succ]
    refine wpAnyH_take (i := 2) (oi := { dst := some 25, op := Go.Op.indexAddr 59 (Go.Operand.tmp 23) (Go.Operand.tmp 24), type := 0, pos := "l23_tongues.go:39", after := #[{ on := 0, ground := Go.Ground.data }, { on := 1, ground := Go.Ground.data }], guard := none }) (v := ?_) rfl (by kernel_rfl) (by kernel_rfl) (by kernel_rfl) (fun _ _ _ h => h) (Or.inl ⟨by rfl, ?_⟩) (by assumption) ?_
    rotate_left 1
    · (intro w hSw; (try dsimp only at hSw); go_simp); all_goals (with_reducible rfl)
    try simp only [Act.put, List.setIfInBounds_toArray, List.set_cons_zero, List.set_cons_succ]
    refine wpAnyH_ready (rs := [3, 6]) (by kernel_rfl) (by simp) ?_
    refine AllReadyH.cons (o := { dst := some 26, op := Go.Op.load 9 (Go.Operand.tmp 25), type := 9, pos := "l23_tongues.go:39", after := #[{ on := 2, ground := Go.Ground.data }], guard := none }) rfl (fun K hK => ?_) (AllReadyH.cons (o := { dst := some 29, op := Go.Op.call { callee := Go.Callee.value (Go.Operand.func 33), args := #[Go.Operand.tmp 28], argTypes := #[2] }, type := 9, pos := "l23_tongues.go:39", after := #[{ on := 5, ground := Go.Ground.data }], guard := none }) rfl (fun K hK => ?_) AllReadyH.nil)
    · go_simp
      refine hK.out _ _ (cell_al2 y2) (fun hHeld2 => ?_)
      clear hK K hHeld
      have hHeld := hHeld2
      clear hHeld2
      try simp only [Act.put, List.setIfInBounds_toArray, List.set_cons_zero, List.set_cons_succ]
      refine wpAnyH_ready (rs := [6]) (by kernel_rfl) (by simp) ?_
      refine AllReadyH.cons (o := { dst := some 29, op := Go.Op.call { callee := Go.Callee.value (Go.Operand.func 33), args := #[Go.Operand.tmp 28], argTypes := #[2] }, type := 9, pos := "l23_tongues.go:39", after := #[{ on := 5, ground := Go.Ground.data }], guard := none }) rfl (fun K hK => ?_) AllReadyH.nil
      go_simp
      refine (FD.out (w0.drew.alloc (.cells #[.string ⟨#[]⟩, .string ⟨#[44, 32, 102, 97, 108, 108, 105, 110, 103, 32, 116, 111, 32]⟩, .string ⟨#[44, 32, 97, 98, 110, 101, 104, 109, 101, 110, 100, 32]⟩, .string ⟨#[44, 32, 115, 112, 97, 100, 101, 107, 32, 100, 111, 32]⟩] 9))).mono ?_
      rintro e w2 ⟨rfl, hb2⟩
      have b2 : Below w0.heap.size w0 w2 := ((Below.refl _ _).drew.alloc (by simp) _).trans (hb2.mono (by simp))
      have BF : Hid (Below w.heap.size w w2) := B0.out.trans (b2.mono B0.out.size)
      go_wp2_with fail
      refine hK.out _ _ ((b2.cell (p := ⟨w.heap.size, 2, none⟩) z0).trans y2) (fun hHeld2 => ?_)
      clear hK K hHeld
      have hHeld := hHeld2
      clear hHeld2
      try simp only [Act.put, List.setIfInBounds_toArray, List.set_cons_zero, List.set_cons_succ]
      refine wpAnyH_take (i := 7) (oi := { dst := some 30, op := Go.Op.binOp Go.BinOp.add 9 (Go.Operand.tmp 26) (Go.Operand.tmp 29) 9, type := 9, pos := "l23_tongues.go:39", after := #[{ on := 3, ground := Go.Ground.data }, { on := 6, ground := Go.Ground.data }], guard := none }) (v := ?_) rfl (by kernel_rfl) (by kernel_rfl) (by kernel_rfl) (fun _ _ _ h => h) (Or.inl ⟨by rfl, ?_⟩) (by assumption) ?_
      rotate_left 1
      · (intro w hSw; (try dsimp only at hSw); go_simp); all_goals (with_reducible rfl)
      try simp only [Act.put, List.setIfInBounds_toArray, List.set_cons_zero, List.set_cons_succ]
      refine wpAnyH_take (i := 8) (oi := { dst := some 4, op := Go.Op.assign (Go.Operand.tmp 30), type := 9, pos := "l23_tongues.go:39", after := #[{ on := 7, ground := Go.Ground.data }, { on := 6, ground := Go.Ground.chain }, { on := 0, ground := Go.Ground.phase }, { on := 1, ground := Go.Ground.phase }, { on := 2, ground := Go.Ground.phase }, { on := 3, ground := Go.Ground.phase }, { on := 4, ground := Go.Ground.phase }, { on := 5, ground := Go.Ground.phase }, { on := 6, ground := Go.Ground.phase }, { on := 7, ground := Go.Ground.phase }], guard := none }) (v := ?_) rfl (by kernel_rfl) (by kernel_rfl) (by kernel_rfl) (fun _ _ _ h => h) (Or.inl ⟨by rfl, ?_⟩) (by assumption) ?_
      rotate_left 1
      · (intro w hSw; (try dsimp only at hSw); go_simp); all_goals (with_reducible rfl)
      try simp only [Act.put, List.setIfInBounds_toArray, List.set_cons_zero, List.set_cons_succ]
      refine wpAnyH_done (by kernel_rfl) ?_ _
      clear hHeld
      go_wp2_with fail
      go_ret
      exact ⟨rfl, BF.out⟩
    · go_simp
      refine (FD.out (w0.drew.alloc (.cells #[.string ⟨#[]⟩, .string ⟨#[44, 32, 102, 97, 108, 108, 105, 110, 103, 32, 116, 111, 32]⟩, .string ⟨#[44, 32, 97, 98, 110, 101, 104, 109, 101, 110, 100, 32]⟩, .string ⟨#[44, 32, 115, 112, 97, 100, 101, 107, 32, 100, 111, 32]⟩] 9))).mono ?_
      rintro e w2 ⟨rfl, hb2⟩
      have b2 : Below w0.heap.size w0 w2 := ((Below.refl _ _).drew.alloc (by simp) _).trans (hb2.mono (by simp))
      have lc : w2.cell? ⟨w0.heap.size, 1, none⟩ = some (.string ⟨#[44, 32, 102, 97, 108, 108, 105, 110, 103, 32, 116, 111, 32]⟩) := (hb2.cell (p := ⟨w0.heap.size, 1, none⟩) (by simp)).trans (by simp [go_sem])
      have BF : Hid (Below w.heap.size w w2) := B0.out.trans (b2.mono B0.out.size)
      go_wp2_with fail
      refine hK.out _ _ ((b2.cell (p := ⟨w.heap.size, 2, none⟩) z0).trans y2) (fun hHeld2 => ?_)
      clear hK K hHeld
      have hHeld := hHeld2
      clear hHeld2
      try simp only [Act.put, List.setIfInBounds_toArray, List.set_cons_zero, List.set_cons_succ]
      refine wpAnyH_ready (rs := [3]) (by kernel_rfl) (by simp) ?_
      refine AllReadyH.cons (o := { dst := some 26, op := Go.Op.load 9 (Go.Operand.tmp 25), type := 9, pos := "l23_tongues.go:39", after := #[{ on := 2, ground := Go.Ground.data }], guard := none }) rfl (fun K hK => ?_) AllReadyH.nil
      go_simp
      refine hK.out _ _ ((b2.cell (p := ⟨w.heap.size, 2, none⟩) z0).trans y2) (fun hHeld2 => ?_)
      clear hK K hHeld
      have hHeld := hHeld2
      clear hHeld2
      try simp only [Act.put, List.setIfInBounds_toArray, List.set_cons_zero, List.set_cons_succ]
      refine wpAnyH_take (i := 7) (oi := { dst := some 30, op := Go.Op.binOp Go.BinOp.add 9 (Go.Operand.tmp 26) (Go.Operand.tmp 29) 9, type := 9, pos := "l23_tongues.go:39", after := #[{ on := 3, ground := Go.Ground.data }, { on := 6, ground := Go.Ground.data }], guard := none }) (v := ?_) rfl (by kernel_rfl) (by kernel_rfl) (by kernel_rfl) (fun _ _ _ h => h) (Or.inl ⟨by rfl, ?_⟩) (by assumption) ?_
      rotate_left 1
      · (intro w hSw; (try dsimp only at hSw); go_simp); all_goals (with_reducible rfl)
      try simp only [Act.put, List.setIfInBounds_toArray, List.set_cons_zero, List.set_cons_succ]
      refine wpAnyH_take (i := 8) (oi := { dst := some 4, op := Go.Op.assign (Go.Operand.tmp 30), type := 9, pos := "l23_tongues.go:39", after := #[{ on := 7, ground := Go.Ground.data }, { on := 6, ground := Go.Ground.chain }, { on := 0, ground := Go.Ground.phase }, { on := 1, ground := Go.Ground.phase }, { on := 2, ground := Go.Ground.phase }, { on := 3, ground := Go.Ground.phase }, { on := 4, ground := Go.Ground.phase }, { on := 5, ground := Go.Ground.phase }, { on := 6, ground := Go.Ground.phase }, { on := 7, ground := Go.Ground.phase }], guard := none }) (v := ?_) rfl (by kernel_rfl) (by kernel_rfl) (by kernel_rfl) (fun _ _ _ h => h) (Or.inl ⟨by rfl, ?_⟩) (by assumption) ?_
      rotate_left 1
      · (intro w hSw; (try dsimp only at hSw); go_simp); all_goals (with_reducible rfl)
      try simp only [Act.put, List.setIfInBounds_toArray, List.set_cons_zero, List.set_cons_succ]
      refine wpAnyH_done (by kernel_rfl) ?_ _
      clear hHeld
      go_wp2_with fail
      go_ret
      exact ⟨rfl, BF.out⟩
  · go_simp
    refine (FD.out w0.drew).mono ?_
    rintro e w2 ⟨rfl, hb2⟩
    have b2 : Below w0.heap.size w0 w2 := (Below.refl _ _).drew.trans (hb2.mono (by simp))
    have BF0 : Below w.heap.size w w2 := B0.out.trans (b2.mono B0.out.size)
    have k2 := (b2.cell (p := ⟨w.heap.size, 2, none⟩) z0).trans y2
    go_wp2_with fail
    refine hK.out _ _ (k2) (fun hHeld2 => ?_)
    clear hK K hHeld
    have hHeld := hHeld2
    clear hHeld2
    try simp only [Act.put, List.setIfInBounds_toArray, List.set_cons_zero, List.set_cons_succ]
    refine wpAnyH_ready (rs := [0]) (by kernel_rfl) (by simp) ?_
    refine AllReadyH.cons (o := { dst := some 23, op := Go.Op.buildSlice 59 4 #[(0, Go.Operand.const (Go.Value.string { data := #[] })), (1, Go.Operand.const (Go.Value.string { data := #[44, 32, 102, 97, 108, 108, 105, 110, 103, 32, 116, 111, 32] })), (2, Go.Operand.const (Go.Value.string { data := #[44, 32, 97, 98, 110, 101, 104, 109, 101, 110, 100, 32] })), (3, Go.Operand.const (Go.Value.string { data := #[44, 32, 115, 112, 97, 100, 101, 107, 32, 100, 111, 32] }))], type := 59, pos := "l23_tongues.go:39", after := #[], guard := none }) rfl (fun K hK => ?_) AllReadyH.nil
    go_simp
    refine hK.out _ _ (cell_al2 k2) (fun hHeld2 => ?_)
    clear hK K hHeld
    have hHeld := hHeld2
    clear hHeld2
    try simp only [Act.put, List.setIfInBounds_toArray, List.set_cons_zero, List.set_cons_succ]
    refine wpAnyH_take (i := 2) (oi := { dst := some 25, op := Go.Op.indexAddr 59 (Go.Operand.tmp 23) (Go.Operand.tmp 24), type := 0, pos := "l23_tongues.go:39", after := #[{ on := 0, ground := Go.Ground.data }, { on := 1, ground := Go.Ground.data }], guard := none }) (v := ?_) rfl (by kernel_rfl) (by kernel_rfl) (by kernel_rfl) (fun _ _ _ h => h) (Or.inl ⟨by rfl, ?_⟩) (by assumption) ?_
    rotate_left 1
    · (intro w hSw; (try dsimp only at hSw); go_simp); all_goals (with_reducible rfl)
    try simp only [Act.put, List.setIfInBounds_toArray, List.set_cons_zero, List.set_cons_succ]
    refine wpAnyH_ready (rs := [3]) (by kernel_rfl) (by simp) ?_
    refine AllReadyH.cons (o := { dst := some 26, op := Go.Op.load 9 (Go.Operand.tmp 25), type := 9, pos := "l23_tongues.go:39", after := #[{ on := 2, ground := Go.Ground.data }], guard := none }) rfl (fun K hK => ?_) AllReadyH.nil
    go_simp
    refine hK.out _ _ (cell_al2 k2) (fun hHeld2 => ?_)
    clear hK K hHeld
    have hHeld := hHeld2
    clear hHeld2
    try simp only [Act.put, List.setIfInBounds_toArray, List.set_cons_zero, List.set_cons_succ]
    have BF : Hid (Below w.heap.size w (w2.alloc (.cells #[.string ⟨#[]⟩, .string ⟨#[44, 32, 102, 97, 108, 108, 105, 110, 103, 32, 116, 111, 32]⟩, .string ⟨#[44, 32, 97, 98, 110, 101, 104, 109, 101, 110, 100, 32]⟩, .string ⟨#[44, 32, 115, 112, 97, 100, 101, 107, 32, 100, 111, 32]⟩] 9))) := BF0.alloc BF0.size _
    refine wpAnyH_take (i := 7) (oi := { dst := some 30, op := Go.Op.binOp Go.BinOp.add 9 (Go.Operand.tmp 26) (Go.Operand.tmp 29) 9, type := 9, pos := "l23_tongues.go:39", after := #[{ on := 3, ground := Go.Ground.data }, { on := 6, ground := Go.Ground.data }], guard := none }) (v := ?_) rfl (by kernel_rfl) (by kernel_rfl) (by kernel_rfl) (fun _ _ _ h => h) (Or.inl ⟨by rfl, ?_⟩) (by assumption) ?_
    rotate_left 1
    · (intro w hSw; (try dsimp only at hSw); go_simp); all_goals (with_reducible rfl)
    try simp only [Act.put, List.setIfInBounds_toArray, List.set_cons_zero, List.set_cons_succ]
    refine wpAnyH_take (i := 8) (oi := { dst := some 4, op := Go.Op.assign (Go.Operand.tmp 30), type := 9, pos := "l23_tongues.go:39", after := #[{ on := 7, ground := Go.Ground.data }, { on := 6, ground := Go.Ground.chain }, { on := 0, ground := Go.Ground.phase }, { on := 1, ground := Go.Ground.phase }, { on := 2, ground := Go.Ground.phase }, { on := 3, ground := Go.Ground.phase }, { on := 4, ground := Go.Ground.phase }, { on := 5, ground := Go.Ground.phase }, { on := 6, ground := Go.Ground.phase }, { on := 7, ground := Go.Ground.phase }], guard := none }) (v := ?_) rfl (by kernel_rfl) (by kernel_rfl) (by kernel_rfl) (fun _ _ _ h => h) (Or.inl ⟨by rfl, ?_⟩) (by assumption) ?_
    rotate_left 1
    · (intro w hSw; (try dsimp only at hSw); go_simp); all_goals (with_reducible rfl)
    try simp only [Act.put, List.setIfInBounds_toArray, List.set_cons_zero, List.set_cons_succ]
    refine wpAnyH_done (by kernel_rfl) ?_ _
    clear hHeld
    go_wp2_with fail
    go_ret
    exact ⟨rfl, BF.out⟩
set_option maxHeartbeats 2000000 in
set_option maxRecDepth 20000 in
theorem slater_gt2 (d f l r p : Int) (LL R : List UInt8) (w : World) (hf : f < l) (hLL : LL.length ≤ 100) (hR : R = [44, 32, 122, 117, 110, 101, 104, 109, 101, 110, 100, 32] ++ LL)
    (FD : Hid (∀ X, Calls Tryd.prog 33 #[.int .i64 l] X fun e w' => e = .returned (.string ⟨LL.toArray⟩) ∧ Below X.heap.size X w')) :
    Calls Tryd.prog 16 #[.agg #[.int .i64 d, .int .i64 f, .int .i64 l, .int .i64 r, .int .i64 p], .int .i64 2] w fun e w' => e = .returned (.string ⟨R.toArray⟩) ∧ Below w.heap.size w w' := by
  have eA : (⟨#[44, 32, 122, 117, 110, 101, 104, 109, 101, 110, 100, 32]⟩ : ByteArray) ++ ⟨LL.toArray⟩ = ⟨R.toArray⟩ := by rw [hR]; exact cat [44, 32, 122, 117, 110, 101, 104, 109, 101, 110, 100, 32] LL
  have uA : ¬ 9223372036854775807 < 12 + LL.length := by omega
  clear hR
  obtain ⟨w0, hw0⟩ : ∃ w0, w0 = w.alloc (.cells #[.int .i64 d, .int .i64 f, .int .i64 l, .int .i64 r, .int .i64 p] 23) := ⟨_, rfl⟩
  have HW : Hid (w0 = w.alloc (.cells #[.int .i64 d, .int .i64 f, .int .i64 l, .int .i64 r, .int .i64 p] 23)) := hw0
  have B0 : Hid (Below w.heap.size w w0) := (by show Below _ _ _; rw [hw0]; exact (Below.refl _ _).alloc (Nat.le_refl _) _)
  have z0 : w.heap.size < w0.heap.size := by rw [hw0]; simp
  have y1 : w0.cell? ⟨w.heap.size, 1, none⟩ = some (.int .i64 f) := by rw [hw0]; simp [go_sem]
  have y2 : w0.cell? ⟨w.heap.size, 2, none⟩ = some (.int .i64 l) := by rw [hw0]; simp [go_sem]
  clear hw0
  go_enter Tryd.func16, Tryd.ntmps16
  go_upto_region 1 with fail
  rw [← HW.out]
  go_upto_region 2 with fail
  refine wp_region_held_drew (S := fun w' => w'.cell? ⟨w.heap.size, 2, none⟩ = some (.int .i64 l)) (by kernel_rfl) y2 (fun hHeld => ?_)
  refine wpAnyH_take (i := 1) (oi := { dst := some 11, op := Go.Op.move (Go.Operand.tmp 1), type := 2, pos := "l23_tongues.go:36", after := #[], guard := none }) (v := ?_) rfl (by kernel_rfl) (by kernel_rfl) (by kernel_rfl) (fun _ _ _ h => h) (Or.inl ⟨by rfl, ?_⟩) (by assumption) ?_
  rotate_left 1
  · (intro w hSw; (try dsimp only at hSw); go_simp); all_goals (with_reducible rfl)
  try simp only [Act.put, List.setIfInBounds_toArray, List.set_cons_zero, List.set_cons_succ]
  refine wpAnyH_take (i := 4) (oi := { dst := some 14, op := Go.Op.fieldAddr 23 (Go.Operand.tmp 2) 2, type := 0, pos := "l23_tongues.go:36", after := #[], guard := none }) (v := ?_) rfl (by kernel_rfl) (by kernel_rfl) (by kernel_rfl) (fun _ _ _ h => h) (Or.inl ⟨by rfl, ?_⟩) (by assumption) ?_
  rotate_left 1
  · (intro w hSw; (try dsimp only at hSw); go_simp); all_goals (with_reducible rfl)
  try simp only [Act.put, List.setIfInBounds_toArray, List.set_cons_zero, List.set_cons_succ]
  refine wpAnyH_take (i := 5) (oi := { dst := some 15, op := Go.Op.load 2 (Go.Operand.tmp 14), type := 2, pos := "l23_tongues.go:36", after := #[{ on := 4, ground := Go.Ground.data }], guard := none }) (v := ?_) rfl (by kernel_rfl) (by kernel_rfl) (by kernel_rfl) (fun _ _ _ h => h) (Or.inl ⟨by rfl, ?_⟩) (by assumption) ?_
  rotate_left 1
  · (intro w hSw; (try dsimp only at hSw); go_simp); all_goals (with_reducible rfl)
  try simp only [Act.put, List.setIfInBounds_toArray, List.set_cons_zero, List.set_cons_succ]
  refine wpAnyH_ready (rs := [0, 6]) (by kernel_rfl) (by simp) ?_
  refine AllReadyH.cons (o := { dst := some 10, op := Go.Op.buildSlice 59 4 #[(0, Go.Operand.const (Go.Value.string { data := #[] })), (1, Go.Operand.const (Go.Value.string { data := #[44, 32, 114, 105, 115, 105, 110, 103, 32, 116, 111, 32] })), (2, Go.Operand.const (Go.Value.string { data := #[44, 32, 122, 117, 110, 101, 104, 109, 101, 110, 100, 32] })), (3, Go.Operand.const (Go.Value.string { data := #[44, 32, 119, 122, 114, 111, 115, 116, 32, 100, 111, 32] }))], type := 59, pos := "l23_tongues.go:36", after := #[], guard := none }) rfl (fun K hK => ?_) (AllReadyH.cons (o := { dst := some 16, op := Go.Op.call { callee := Go.Callee.value (Go.Operand.func 33), args := #[Go.Operand.tmp 15], argTypes := #[2] }, type := 9, pos := "l23_tongues.go:36", after := #[{ on := 5, ground := Go.Ground.data }], guard := none }) rfl (fun K hK => ?_) AllReadyH.nil)
  · go_simp
    refine hK.out _ _ (cell_al2 y2) (fun hHeld2 => ?_)
    clear hK K hHeld
    have hHeld := hHeld2
    clear hHeld2
    try simp only [Act.put, List.setIfInBounds_toArray, List.set_cons_zero, List.set_cons_succ]
    refine wpAnyH_take (i := 2) (oi := { dst := some 12, op := Go.Op.indexAddr 59 (Go.Operand.tmp 10) (Go.Operand.tmp 11), type := 0, pos := "l23_tongues.go:36", after := #[{ on := 0, ground := Go.Ground.data }, { on := 1, ground := Go.Ground.data }], guard := none }) (v := ?_) rfl (by kernel_rfl) (by kernel_rfl) (by kernel_rfl) (fun _ _ _ h => h) (Or.inl ⟨by rfl, ?_⟩) (by assumption) ?_
    rotate_left 1
    · (intro w hSw; (try dsimp only at hSw); go_simp); all_goals (with_reducible rfl)
    try simp only [Act.put, List.setIfInBounds_toArray, List.set_cons_zero, List.set_cons_succ]
    refine wpAnyH_ready (rs := [3, 6]) (by kernel_rfl) (by simp) ?_
    refine AllReadyH.cons (o := { dst := some 13, op := Go.Op.load 9 (Go.Operand.tmp 12), type := 9, pos := "l23_tongues.go:36", after := #[{ on := 2, ground := Go.Ground.data }], guard := none }) rfl (fun K hK => ?_) (AllReadyH.cons (o := { dst := some 16, op := Go.Op.call { callee := Go.Callee.value (Go.Operand.func 33), args := #[Go.Operand.tmp 15], argTypes := #[2] }, type := 9, pos := "l23_tongues.go:36", after := #[{ on := 5, ground := Go.Ground.data }], guard := none }) rfl (fun K hK => ?_) AllReadyH.nil)
    · go_simp
      refine hK.out _ _ (cell_al2 y2) (fun hHeld2 => ?_)
      clear hK K hHeld
      have hHeld := hHeld2
      clear hHeld2
      try simp only [Act.put, List.setIfInBounds_toArray, List.set_cons_zero, List.set_cons_succ]
      refine wpAnyH_ready (rs := [6]) (by kernel_rfl) (by simp) ?_
      refine AllReadyH.cons (o := { dst := some 16, op := Go.Op.call { callee := Go.Callee.value (Go.Operand.func 33), args := #[Go.Operand.tmp 15], argTypes := #[2] }, type := 9, pos := "l23_tongues.go:36", after := #[{ on := 5, ground := Go.Ground.data }], guard := none }) rfl (fun K hK => ?_) AllReadyH.nil
      go_simp
      refine (FD.out (w0.drew.alloc (.cells #[.string ⟨#[]⟩, .string ⟨#[44, 32, 114, 105, 115, 105, 110, 103, 32, 116, 111, 32]⟩, .string ⟨#[44, 32, 122, 117, 110, 101, 104, 109, 101, 110, 100, 32]⟩, .string ⟨#[44, 32, 119, 122, 114, 111, 115, 116, 32, 100, 111, 32]⟩] 9))).mono ?_
      rintro e w2 ⟨rfl, hb2⟩
      have b2 : Below w0.heap.size w0 w2 := ((Below.refl _ _).drew.alloc (by simp) _).trans (hb2.mono (by simp))
      have BF : Hid (Below w.heap.size w w2) := B0.out.trans (b2.mono B0.out.size)
      go_wp2_with fail
      refine hK.out _ _ ((b2.cell (p := ⟨w.heap.size, 2, none⟩) z0).trans y2) (fun hHeld2 => ?_)
      clear hK K hHeld
      have hHeld := hHeld2
      clear hHeld2
      try simp only [Act.put, List.setIfInBounds_toArray, List.set_cons_zero, List.set_cons_succ]
      refine wpAnyH_take (i := 7) (oi := { dst := some 17, op := Go.Op.binOp Go.BinOp.add 9 (Go.Operand.tmp 13) (Go.Operand.tmp 16) 9, type := 9, pos := "l23_tongues.go:36", after := #[{ on := 3, ground := Go.Ground.data }, { on := 6, ground := Go.Ground.data }], guard := none }) (v := ?_) rfl (by kernel_rfl) (by kernel_rfl) (by kernel_rfl) (fun _ _ _ h => h) (Or.inl ⟨by rfl, ?_⟩) (by assumption) ?_
      rotate_left 1
      · (intro w hSw; (try dsimp only at hSw); go_simp); all_goals (with_reducible rfl)
      try simp only [Act.put, List.setIfInBounds_toArray, List.set_cons_zero, List.set_cons_succ]
      refine wpAnyH_take (i := 8) (oi := { dst := some 4, op := Go.Op.assign (Go.Operand.tmp 17), type := 9, pos := "l23_tongues.go:36", after := #[{ on := 7, ground := Go.Ground.data }, { on := 6, ground := Go.Ground.chain }, { on := 0, ground := Go.Ground.phase }, { on := 1, ground := Go.Ground.phase }, { on := 2, ground := Go.Ground.phase }, { on := 3, ground := Go.Ground.phase }, { on := 4, ground := Go.Ground.phase }, { on := 5, ground := Go.Ground.phase }, { on := 6, ground := Go.Ground.phase }, { on := 7, ground := Go.Ground.phase }], guard := none }) (v := ?_) rfl (by kernel_rfl) (by kernel_rfl) (by kernel_rfl) (fun _ _ _ h => h) (Or.inl ⟨by rfl, ?_⟩) (by assumption) ?_
      rotate_left 1
      · (intro w hSw; (try dsimp only at hSw); go_simp); all_goals (with_reducible rfl)
      try simp only [Act.put, List.setIfInBounds_toArray, List.set_cons_zero, List.set_cons_succ]
      refine wpAnyH_done (by kernel_rfl) ?_ _
      clear hHeld
      go_wp2_with fail
      go_ret
      exact ⟨rfl, BF.out⟩
    · go_simp
      refine (FD.out (w0.drew.alloc (.cells #[.string ⟨#[]⟩, .string ⟨#[44, 32, 114, 105, 115, 105, 110, 103, 32, 116, 111, 32]⟩, .string ⟨#[44, 32, 122, 117, 110, 101, 104, 109, 101, 110, 100, 32]⟩, .string ⟨#[44, 32, 119, 122, 114, 111, 115, 116, 32, 100, 111, 32]⟩] 9))).mono ?_
      rintro e w2 ⟨rfl, hb2⟩
      have b2 : Below w0.heap.size w0 w2 := ((Below.refl _ _).drew.alloc (by simp) _).trans (hb2.mono (by simp))
      have lc : w2.cell? ⟨w0.heap.size, 2, none⟩ = some (.string ⟨#[44, 32, 122, 117, 110, 101, 104, 109, 101, 110, 100, 32]⟩) := (hb2.cell (p := ⟨w0.heap.size, 2, none⟩) (by simp)).trans (by simp [go_sem])
      have BF : Hid (Below w.heap.size w w2) := B0.out.trans (b2.mono B0.out.size)
      go_wp2_with fail
      refine hK.out _ _ ((b2.cell (p := ⟨w.heap.size, 2, none⟩) z0).trans y2) (fun hHeld2 => ?_)
      clear hK K hHeld
      have hHeld := hHeld2
      clear hHeld2
      try simp only [Act.put, List.setIfInBounds_toArray, List.set_cons_zero, List.set_cons_succ]
      refine wpAnyH_ready (rs := [3]) (by kernel_rfl) (by simp) ?_
      refine AllReadyH.cons (o := { dst := some 13, op := Go.Op.load 9 (Go.Operand.tmp 12), type := 9, pos := "l23_tongues.go:36", after := #[{ on := 2, ground := Go.Ground.data }], guard := none }) rfl (fun K hK => ?_) AllReadyH.nil
      go_simp
      refine hK.out _ _ ((b2.cell (p := ⟨w.heap.size, 2, none⟩) z0).trans y2) (fun hHeld2 => ?_)
      clear hK K hHeld
      have hHeld := hHeld2
      clear hHeld2
      try simp only [Act.put, List.setIfInBounds_toArray, List.set_cons_zero, List.set_cons_succ]
      refine wpAnyH_take (i := 7) (oi := { dst := some 17, op := Go.Op.binOp Go.BinOp.add 9 (Go.Operand.tmp 13) (Go.Operand.tmp 16) 9, type := 9, pos := "l23_tongues.go:36", after := #[{ on := 3, ground := Go.Ground.data }, { on := 6, ground := Go.Ground.data }], guard := none }) (v := ?_) rfl (by kernel_rfl) (by kernel_rfl) (by kernel_rfl) (fun _ _ _ h => h) (Or.inl ⟨by rfl, ?_⟩) (by assumption) ?_
      rotate_left 1
      · (intro w hSw; (try dsimp only at hSw); go_simp); all_goals (with_reducible rfl)
      try simp only [Act.put, List.setIfInBounds_toArray, List.set_cons_zero, List.set_cons_succ]
      refine wpAnyH_take (i := 8) (oi := { dst := some 4, op := Go.Op.assign (Go.Operand.tmp 17), type := 9, pos := "l23_tongues.go:36", after := #[{ on := 7, ground := Go.Ground.data }, { on := 6, ground := Go.Ground.chain }, { on := 0, ground := Go.Ground.phase }, { on := 1, ground := Go.Ground.phase }, { on := 2, ground := Go.Ground.phase }, { on := 3, ground := Go.Ground.phase }, { on := 4, ground := Go.Ground.phase }, { on := 5, ground := Go.Ground.phase }, { on := 6, ground := Go.Ground.phase }, { on := 7, ground := Go.Ground.phase }], guard := none }) (v := ?_) rfl (by kernel_rfl) (by kernel_rfl) (by kernel_rfl) (fun _ _ _ h => h) (Or.inl ⟨by rfl, ?_⟩) (by assumption) ?_
      rotate_left 1
      · (intro w hSw; (try dsimp only at hSw); go_simp); all_goals (with_reducible rfl)
      try simp only [Act.put, List.setIfInBounds_toArray, List.set_cons_zero, List.set_cons_succ]
      refine wpAnyH_done (by kernel_rfl) ?_ _
      clear hHeld
      go_wp2_with fail
      go_ret
      exact ⟨rfl, BF.out⟩
  · go_simp
    refine (FD.out w0.drew).mono ?_
    rintro e w2 ⟨rfl, hb2⟩
    have b2 : Below w0.heap.size w0 w2 := (Below.refl _ _).drew.trans (hb2.mono (by simp))
    have BF0 : Below w.heap.size w w2 := B0.out.trans (b2.mono B0.out.size)
    have k2 := (b2.cell (p := ⟨w.heap.size, 2, none⟩) z0).trans y2
    go_wp2_with fail
    refine hK.out _ _ (k2) (fun hHeld2 => ?_)
    clear hK K hHeld
    have hHeld := hHeld2
    clear hHeld2
    try simp only [Act.put, List.setIfInBounds_toArray, List.set_cons_zero, List.set_cons_succ]
    refine wpAnyH_ready (rs := [0]) (by kernel_rfl) (by simp) ?_
    refine AllReadyH.cons (o := { dst := some 10, op := Go.Op.buildSlice 59 4 #[(0, Go.Operand.const (Go.Value.string { data := #[] })), (1, Go.Operand.const (Go.Value.string { data := #[44, 32, 114, 105, 115, 105, 110, 103, 32, 116, 111, 32] })), (2, Go.Operand.const (Go.Value.string { data := #[44, 32, 122, 117, 110, 101, 104, 109, 101, 110, 100, 32] })), (3, Go.Operand.const (Go.Value.string { data := #[44, 32, 119, 122, 114, 111, 115, 116, 32, 100, 111, 32] }))], type := 59, pos := "l23_tongues.go:36", after := #[], guard := none }) rfl (fun K hK => ?_) AllReadyH.nil
    go_simp
    refine hK.out _ _ (cell_al2 k2) (fun hHeld2 => ?_)
    clear hK K hHeld
    have hHeld := hHeld2
    clear hHeld2
    try simp only [Act.put, List.setIfInBounds_toArray, List.set_cons_zero, List.set_cons_succ]
    refine wpAnyH_take (i := 2) (oi := { dst := some 12, op := Go.Op.indexAddr 59 (Go.Operand.tmp 10) (Go.Operand.tmp 11), type := 0, pos := "l23_tongues.go:36", after := #[{ on := 0, ground := Go.Ground.data }, { on := 1, ground := Go.Ground.data }], guard := none }) (v := ?_) rfl (by kernel_rfl) (by kernel_rfl) (by kernel_rfl) (fun _ _ _ h => h) (Or.inl ⟨by rfl, ?_⟩) (by assumption) ?_
    rotate_left 1
    · (intro w hSw; (try dsimp only at hSw); go_simp); all_goals (with_reducible rfl)
    try simp only [Act.put, List.setIfInBounds_toArray, List.set_cons_zero, List.set_cons_succ]
    refine wpAnyH_ready (rs := [3]) (by kernel_rfl) (by simp) ?_
    refine AllReadyH.cons (o := { dst := some 13, op := Go.Op.load 9 (Go.Operand.tmp 12), type := 9, pos := "l23_tongues.go:36", after := #[{ on := 2, ground := Go.Ground.data }], guard := none }) rfl (fun K hK => ?_) AllReadyH.nil
    go_simp
    refine hK.out _ _ (cell_al2 k2) (fun hHeld2 => ?_)
    clear hK K hHeld
    have hHeld := hHeld2
    clear hHeld2
    try simp only [Act.put, List.setIfInBounds_toArray, List.set_cons_zero, List.set_cons_succ]
    have BF : Hid (Below w.heap.size w (w2.alloc (.cells #[.string ⟨#[]⟩, .string ⟨#[44, 32, 114, 105, 115, 105, 110, 103, 32, 116, 111, 32]⟩, .string ⟨#[44, 32, 122, 117, 110, 101, 104, 109, 101, 110, 100, 32]⟩, .string ⟨#[44, 32, 119, 122, 114, 111, 115, 116, 32, 100, 111, 32]⟩] 9))) := BF0.alloc BF0.size _
    refine wpAnyH_take (i := 7) (oi := { dst := some 17, op := Go.Op.binOp Go.BinOp.add 9 (Go.Operand.tmp 13) (Go.Operand.tmp 16) 9, type := 9, pos := "l23_tongues.go:36", after := #[{ on := 3, ground := Go.Ground.data }, { on := 6, ground := Go.Ground.data }], guard := none }) (v := ?_) rfl (by kernel_rfl) (by kernel_rfl) (by kernel_rfl) (fun _ _ _ h => h) (Or.inl ⟨by rfl, ?_⟩) (by assumption) ?_
    rotate_left 1
    · (intro w hSw; (try dsimp only at hSw); go_simp); all_goals (with_reducible rfl)
    try simp only [Act.put, List.setIfInBounds_toArray, List.set_cons_zero, List.set_cons_succ]
    refine wpAnyH_take (i := 8) (oi := { dst := some 4, op := Go.Op.assign (Go.Operand.tmp 17), type := 9, pos := "l23_tongues.go:36", after := #[{ on := 7, ground := Go.Ground.data }, { on := 6, ground := Go.Ground.chain }, { on := 0, ground := Go.Ground.phase }, { on := 1, ground := Go.Ground.phase }, { on := 2, ground := Go.Ground.phase }, { on := 3, ground := Go.Ground.phase }, { on := 4, ground := Go.Ground.phase }, { on := 5, ground := Go.Ground.phase }, { on := 6, ground := Go.Ground.phase }, { on := 7, ground := Go.Ground.phase }], guard := none }) (v := ?_) rfl (by kernel_rfl) (by kernel_rfl) (by kernel_rfl) (fun _ _ _ h => h) (Or.inl ⟨by rfl, ?_⟩) (by assumption) ?_
    rotate_left 1
    · (intro w hSw; (try dsimp only at hSw); go_simp); all_goals (with_reducible rfl)
    try simp only [Act.put, List.setIfInBounds_toArray, List.set_cons_zero, List.set_cons_succ]
    refine wpAnyH_done (by kernel_rfl) ?_ _
    clear hHeld
    go_wp2_with fail
    go_ret
    exact ⟨rfl, BF.out⟩
set_option maxHeartbeats 2000000 in
set_option maxRecDepth 20000 in
theorem slater_lt2 (d f l r p : Int) (LL R : List UInt8) (w : World) (hf : l < f) (hLL : LL.length ≤ 100) (hR : R = [44, 32, 97, 98, 110, 101, 104, 109, 101, 110, 100, 32] ++ LL)
    (FD : Hid (∀ X, Calls Tryd.prog 33 #[.int .i64 l] X fun e w' => e = .returned (.string ⟨LL.toArray⟩) ∧ Below X.heap.size X w')) :
    Calls Tryd.prog 16 #[.agg #[.int .i64 d, .int .i64 f, .int .i64 l, .int .i64 r, .int .i64 p], .int .i64 2] w fun e w' => e = .returned (.string ⟨R.toArray⟩) ∧ Below w.heap.size w w' := by
  have eA : (⟨#[44, 32, 97, 98, 110, 101, 104, 109, 101, 110, 100, 32]⟩ : ByteArray) ++ ⟨LL.toArray⟩ = ⟨R.toArray⟩ := by rw [hR]; exact cat [44, 32, 97, 98, 110, 101, 104, 109, 101, 110, 100, 32] LL
  have uA : ¬ 9223372036854775807 < 12 + LL.length := by omega
  clear hR
  have g1 : ¬ f < l := by omega
  obtain ⟨w0, hw0⟩ : ∃ w0, w0 = w.alloc (.cells #[.int .i64 d, .int .i64 f, .int .i64 l, .int .i64 r, .int .i64 p] 23) := ⟨_, rfl⟩
  have HW : Hid (w0 = w.alloc (.cells #[.int .i64 d, .int .i64 f, .int .i64 l, .int .i64 r, .int .i64 p] 23)) := hw0
  have B0 : Hid (Below w.heap.size w w0) := (by show Below _ _ _; rw [hw0]; exact (Below.refl _ _).alloc (Nat.le_refl _) _)
  have z0 : w.heap.size < w0.heap.size := by rw [hw0]; simp
  have y1 : w0.cell? ⟨w.heap.size, 1, none⟩ = some (.int .i64 f) := by rw [hw0]; simp [go_sem]
  have y2 : w0.cell? ⟨w.heap.size, 2, none⟩ = some (.int .i64 l) := by rw [hw0]; simp [go_sem]
  clear hw0
  go_enter Tryd.func16, Tryd.ntmps16
  go_upto_region 1 with fail
  rw [← HW.out]
  go_upto_region 4 with fail
  refine wp_region_held_drew (S := fun w' => w'.cell? ⟨w.heap.size, 2, none⟩ = some (.int .i64 l)) (by kernel_rfl) y2 (fun hHeld => ?_)
  refine wpAnyH_take (i := 1) (oi := { dst := some 24, op := Go.Op.move (Go.Operand.tmp 1), type := 2, pos := "l23_tongues.go:39", after := #[], guard := none }) (v := ?_) rfl (by kernel_rfl) (by kernel_rfl) (by kernel_rfl) (fun _ _ _ h => h) (Or.inl ⟨by rfl, ?_⟩) (by assumption) ?_
  rotate_left 1
  · (intro w hSw; (try dsimp only at hSw); go_simp); all_goals (with_reducible rfl)
  try simp only [Act.put, List.setIfInBounds_toArray, List.set_cons_zero, List.set_cons_succ]
  refine wpAnyH_take (i := 4) (oi := { dst := some 27, op := Go.Op.fieldAddr 23 (Go.Operand.tmp 2) 2, type := 0, pos := "l23_tongues.go:39", after := #[], guard := none }) (v := ?_) rfl (by kernel_rfl) (by kernel_rfl) (by kernel_rfl) (fun _ _ _ h => h) (Or.inl ⟨by rfl, ?_⟩) (by assumption) ?_
  rotate_left 1
  · (intro w hSw; (try dsimp only at hSw); go_simp); all_goals (with_reducible rfl)
  try simp only [Act.put, List.setIfInBounds_toArray, List.set_cons_zero, List.set_cons_succ]
  refine wpAnyH_take (i := 5) (oi := { dst := some 28, op := Go.Op.load 2 (Go.Operand.tmp 27), type := 2, pos := "l23_tongues.go:39", after := #[{ on := 4, ground := Go.Ground.data }], guard := none }) (v := ?_) rfl (by kernel_rfl) (by kernel_rfl) (by kernel_rfl) (fun _ _ _ h => h) (Or.inl ⟨by rfl, ?_⟩) (by assumption) ?_
  rotate_left 1
  · (intro w hSw; (try dsimp only at hSw); go_simp); all_goals (with_reducible rfl)
  try simp only [Act.put, List.setIfInBounds_toArray, List.set_cons_zero, List.set_cons_succ]
  refine wpAnyH_ready (rs := [0, 6]) (by kernel_rfl) (by simp) ?_
  refine AllReadyH.cons (o := { dst := some 23, op := Go.Op.buildSlice 59 4 #[(0, Go.Operand.const (Go.Value.string { data := #[] })), (1, Go.Operand.const (Go.Value.string { data := #[44, 32, 102, 97, 108, 108, 105, 110, 103, 32, 116, 111, 32] })), (2, Go.Operand.const (Go.Value.string { data := #[44, 32, 97, 98, 110, 101, 104, 109, 101, 110, 100, 32] })), (3, Go.Operand.const (Go.Value.string { data := #[44, 32, 115, 112, 97, 100, 101, 107, 32, 100, 111, 32] }))], type := 59, pos := "l23_tongues.go:39", after := #[], guard := none }) rfl (fun K hK => ?_) (AllReadyH.cons (o := { dst := some 29, op := Go.Op.call { callee := Go.Callee.value (Go.Operand.func 33), args := #[Go.Operand.tmp 28], argTypes := #[2] }, type := 9, pos := "l23_tongues.go:39", after := #[{ on := 5, ground := Go.Ground.data }], guard := none }) rfl (fun K hK => ?_) AllReadyH.nil)
  · go_simp
    refine hK.out _ _ (cell_al2 y2) (fun hHeld2 => ?_)
    clear hK K hHeld
    have hHeld := hHeld2
    clear hHeld2
    try simp only [Act.put, List.setIfInBounds_toArray, List.set_cons_zero, List.set_cons_succ]
    refine wpAnyH_take (i := 2) (oi := { dst := some 25, op := Go.Op.indexAddr 59 (Go.Operand.tmp 23) (Go.Operand.tmp 24), type := 0, pos := "l23_tongues.go:39", after := #[{ on := 0, ground := Go.Ground.data }, { on := 1, ground := Go.Ground.data }], guard := none }) (v := ?_) rfl (by kernel_rfl) (by kernel_rfl) (by kernel_rfl) (fun _ _ _ h => h) (Or.inl ⟨by rfl, ?_⟩) (by assumption) ?_
    rotate_left 1
    · (intro w hSw; (try dsimp only at hSw); go_simp); all_goals (with_reducible rfl)
    try simp only [Act.put, List.setIfInBounds_toArray, List.set_cons_zero, List.set_cons_succ]
    refine wpAnyH_ready (rs := [3, 6]) (by kernel_rfl) (by simp) ?_
    refine AllReadyH.cons (o := { dst := some 26, op := Go.Op.load 9 (Go.Operand.tmp 25), type := 9, pos := "l23_tongues.go:39", after := #[{ on := 2, ground := Go.Ground.data }], guard := none }) rfl (fun K hK => ?_) (AllReadyH.cons (o := { dst := some 29, op := Go.Op.call { callee := Go.Callee.value (Go.Operand.func 33), args := #[Go.Operand.tmp 28], argTypes := #[2] }, type := 9, pos := "l23_tongues.go:39", after := #[{ on := 5, ground := Go.Ground.data }], guard := none }) rfl (fun K hK => ?_) AllReadyH.nil)
    · go_simp
      refine hK.out _ _ (cell_al2 y2) (fun hHeld2 => ?_)
      clear hK K hHeld
      have hHeld := hHeld2
      clear hHeld2
      try simp only [Act.put, List.setIfInBounds_toArray, List.set_cons_zero, List.set_cons_succ]
      refine wpAnyH_ready (rs := [6]) (by kernel_rfl) (by simp) ?_
      refine AllReadyH.cons (o := { dst := some 29, op := Go.Op.call { callee := Go.Callee.value (Go.Operand.func 33), args := #[Go.Operand.tmp 28], argTypes := #[2] }, type := 9, pos := "l23_tongues.go:39", after := #[{ on := 5, ground := Go.Ground.data }], guard := none }) rfl (fun K hK => ?_) AllReadyH.nil
      go_simp
      refine (FD.out (w0.drew.alloc (.cells #[.string ⟨#[]⟩, .string ⟨#[44, 32, 102, 97, 108, 108, 105, 110, 103, 32, 116, 111, 32]⟩, .string ⟨#[44, 32, 97, 98, 110, 101, 104, 109, 101, 110, 100, 32]⟩, .string ⟨#[44, 32, 115, 112, 97, 100, 101, 107, 32, 100, 111, 32]⟩] 9))).mono ?_
      rintro e w2 ⟨rfl, hb2⟩
      have b2 : Below w0.heap.size w0 w2 := ((Below.refl _ _).drew.alloc (by simp) _).trans (hb2.mono (by simp))
      have BF : Hid (Below w.heap.size w w2) := B0.out.trans (b2.mono B0.out.size)
      go_wp2_with fail
      refine hK.out _ _ ((b2.cell (p := ⟨w.heap.size, 2, none⟩) z0).trans y2) (fun hHeld2 => ?_)
      clear hK K hHeld
      have hHeld := hHeld2
      clear hHeld2
      try simp only [Act.put, List.setIfInBounds_toArray, List.set_cons_zero, List.set_cons_succ]
      refine wpAnyH_take (i := 7) (oi := { dst := some 30, op := Go.Op.binOp Go.BinOp.add 9 (Go.Operand.tmp 26) (Go.Operand.tmp 29) 9, type := 9, pos := "l23_tongues.go:39", after := #[{ on := 3, ground := Go.Ground.data }, { on := 6, ground := Go.Ground.data }], guard := none }) (v := ?_) rfl (by kernel_rfl) (by kernel_rfl) (by kernel_rfl) (fun _ _ _ h => h) (Or.inl ⟨by rfl, ?_⟩) (by assumption) ?_
      rotate_left 1
      · (intro w hSw; (try dsimp only at hSw); go_simp); all_goals (with_reducible rfl)
      try simp only [Act.put, List.setIfInBounds_toArray, List.set_cons_zero, List.set_cons_succ]
      refine wpAnyH_take (i := 8) (oi := { dst := some 4, op := Go.Op.assign (Go.Operand.tmp 30), type := 9, pos := "l23_tongues.go:39", after := #[{ on := 7, ground := Go.Ground.data }, { on := 6, ground := Go.Ground.chain }, { on := 0, ground := Go.Ground.phase }, { on := 1, ground := Go.Ground.phase }, { on := 2, ground := Go.Ground.phase }, { on := 3, ground := Go.Ground.phase }, { on := 4, ground := Go.Ground.phase }, { on := 5, ground := Go.Ground.phase }, { on := 6, ground := Go.Ground.phase }, { on := 7, ground := Go.Ground.phase }], guard := none }) (v := ?_) rfl (by kernel_rfl) (by kernel_rfl) (by kernel_rfl) (fun _ _ _ h => h) (Or.inl ⟨by rfl, ?_⟩) (by assumption) ?_
      rotate_left 1
      · (intro w hSw; (try dsimp only at hSw); go_simp); all_goals (with_reducible rfl)
      try simp only [Act.put, List.setIfInBounds_toArray, List.set_cons_zero, List.set_cons_succ]
      refine wpAnyH_done (by kernel_rfl) ?_ _
      clear hHeld
      go_wp2_with fail
      go_ret
      exact ⟨rfl, BF.out⟩
    · go_simp
      refine (FD.out (w0.drew.alloc (.cells #[.string ⟨#[]⟩, .string ⟨#[44, 32, 102, 97, 108, 108, 105, 110, 103, 32, 116, 111, 32]⟩, .string ⟨#[44, 32, 97, 98, 110, 101, 104, 109, 101, 110, 100, 32]⟩, .string ⟨#[44, 32, 115, 112, 97, 100, 101, 107, 32, 100, 111, 32]⟩] 9))).mono ?_
      rintro e w2 ⟨rfl, hb2⟩
      have b2 : Below w0.heap.size w0 w2 := ((Below.refl _ _).drew.alloc (by simp) _).trans (hb2.mono (by simp))
      have lc : w2.cell? ⟨w0.heap.size, 2, none⟩ = some (.string ⟨#[44, 32, 97, 98, 110, 101, 104, 109, 101, 110, 100, 32]⟩) := (hb2.cell (p := ⟨w0.heap.size, 2, none⟩) (by simp)).trans (by simp [go_sem])
      have BF : Hid (Below w.heap.size w w2) := B0.out.trans (b2.mono B0.out.size)
      go_wp2_with fail
      refine hK.out _ _ ((b2.cell (p := ⟨w.heap.size, 2, none⟩) z0).trans y2) (fun hHeld2 => ?_)
      clear hK K hHeld
      have hHeld := hHeld2
      clear hHeld2
      try simp only [Act.put, List.setIfInBounds_toArray, List.set_cons_zero, List.set_cons_succ]
      refine wpAnyH_ready (rs := [3]) (by kernel_rfl) (by simp) ?_
      refine AllReadyH.cons (o := { dst := some 26, op := Go.Op.load 9 (Go.Operand.tmp 25), type := 9, pos := "l23_tongues.go:39", after := #[{ on := 2, ground := Go.Ground.data }], guard := none }) rfl (fun K hK => ?_) AllReadyH.nil
      go_simp
      refine hK.out _ _ ((b2.cell (p := ⟨w.heap.size, 2, none⟩) z0).trans y2) (fun hHeld2 => ?_)
      clear hK K hHeld
      have hHeld := hHeld2
      clear hHeld2
      try simp only [Act.put, List.setIfInBounds_toArray, List.set_cons_zero, List.set_cons_succ]
      refine wpAnyH_take (i := 7) (oi := { dst := some 30, op := Go.Op.binOp Go.BinOp.add 9 (Go.Operand.tmp 26) (Go.Operand.tmp 29) 9, type := 9, pos := "l23_tongues.go:39", after := #[{ on := 3, ground := Go.Ground.data }, { on := 6, ground := Go.Ground.data }], guard := none }) (v := ?_) rfl (by kernel_rfl) (by kernel_rfl) (by kernel_rfl) (fun _ _ _ h => h) (Or.inl ⟨by rfl, ?_⟩) (by assumption) ?_
      rotate_left 1
      · (intro w hSw; (try dsimp only at hSw); go_simp); all_goals (with_reducible rfl)
      try simp only [Act.put, List.setIfInBounds_toArray, List.set_cons_zero, List.set_cons_succ]
      refine wpAnyH_take (i := 8) (oi := { dst := some 4, op := Go.Op.assign (Go.Operand.tmp 30), type := 9, pos := "l23_tongues.go:39", after := #[{ on := 7, ground := Go.Ground.data }, { on := 6, ground := Go.Ground.chain }, { on := 0, ground := Go.Ground.phase }, { on := 1, ground := Go.Ground.phase }, { on := 2, ground := Go.Ground.phase }, { on := 3, ground := Go.Ground.phase }, { on := 4, ground := Go.Ground.phase }, { on := 5, ground := Go.Ground.phase }, { on := 6, ground := Go.Ground.phase }, { on := 7, ground := Go.Ground.phase }], guard := none }) (v := ?_) rfl (by kernel_rfl) (by kernel_rfl) (by kernel_rfl) (fun _ _ _ h => h) (Or.inl ⟨by rfl, ?_⟩) (by assumption) ?_
      rotate_left 1
      · (intro w hSw; (try dsimp only at hSw); go_simp); all_goals (with_reducible rfl)
      try simp only [Act.put, List.setIfInBounds_toArray, List.set_cons_zero, List.set_cons_succ]
      refine wpAnyH_done (by kernel_rfl) ?_ _
      clear hHeld
      go_wp2_with fail
      go_ret
      exact ⟨rfl, BF.out⟩
  · go_simp
    refine (FD.out w0.drew).mono ?_
    rintro e w2 ⟨rfl, hb2⟩
    have b2 : Below w0.heap.size w0 w2 := (Below.refl _ _).drew.trans (hb2.mono (by simp))
    have BF0 : Below w.heap.size w w2 := B0.out.trans (b2.mono B0.out.size)
    have k2 := (b2.cell (p := ⟨w.heap.size, 2, none⟩) z0).trans y2
    go_wp2_with fail
    refine hK.out _ _ (k2) (fun hHeld2 => ?_)
    clear hK K hHeld
    have hHeld := hHeld2
    clear hHeld2
    try simp only [Act.put, List.setIfInBounds_toArray, List.set_cons_zero, List.set_cons_succ]
    refine wpAnyH_ready (rs := [0]) (by kernel_rfl) (by simp) ?_
    refine AllReadyH.cons (o := { dst := some 23, op := Go.Op.buildSlice 59 4 #[(0, Go.Operand.const (Go.Value.string { data := #[] })), (1, Go.Operand.const (Go.Value.string { data := #[44, 32, 102, 97, 108, 108, 105, 110, 103, 32, 116, 111, 32] })), (2, Go.Operand.const (Go.Value.string { data := #[44, 32, 97, 98, 110, 101, 104, 109, 101, 110, 100, 32] })), (3, Go.Operand.const (Go.Value.string { data := #[44, 32, 115, 112, 97, 100, 101, 107, 32, 100, 111, 32] }))], type := 59, pos := "l23_tongues.go:39", after := #[], guard := none }) rfl (fun K hK => ?_) AllReadyH.nil
    go_simp
    refine hK.out _ _ (cell_al2 k2) (fun hHeld2 => ?_)
    clear hK K hHeld
    have hHeld := hHeld2
    clear hHeld2
    try simp only [Act.put, List.setIfInBounds_toArray, List.set_cons_zero, List.set_cons_succ]
    refine wpAnyH_take (i := 2) (oi := { dst := some 25, op := Go.Op.indexAddr 59 (Go.Operand.tmp 23) (Go.Operand.tmp 24), type := 0, pos := "l23_tongues.go:39", after := #[{ on := 0, ground := Go.Ground.data }, { on := 1, ground := Go.Ground.data }], guard := none }) (v := ?_) rfl (by kernel_rfl) (by kernel_rfl) (by kernel_rfl) (fun _ _ _ h => h) (Or.inl ⟨by rfl, ?_⟩) (by assumption) ?_
    rotate_left 1
    · (intro w hSw; (try dsimp only at hSw); go_simp); all_goals (with_reducible rfl)
    try simp only [Act.put, List.setIfInBounds_toArray, List.set_cons_zero, List.set_cons_succ]
    refine wpAnyH_ready (rs := [3]) (by kernel_rfl) (by simp) ?_
    refine AllReadyH.cons (o := { dst := some 26, op := Go.Op.load 9 (Go.Operand.tmp 25), type := 9, pos := "l23_tongues.go:39", after := #[{ on := 2, ground := Go.Ground.data }], guard := none }) rfl (fun K hK => ?_) AllReadyH.nil
    go_simp
    refine hK.out _ _ (cell_al2 k2) (fun hHeld2 => ?_)
    clear hK K hHeld
    have hHeld := hHeld2
    clear hHeld2
    try simp only [Act.put, List.setIfInBounds_toArray, List.set_cons_zero, List.set_cons_succ]
    have BF : Hid (Below w.heap.size w (w2.alloc (.cells #[.string ⟨#[]⟩, .string ⟨#[44, 32, 102, 97, 108, 108, 105, 110, 103, 32, 116, 111, 32]⟩, .string ⟨#[44, 32, 97, 98, 110, 101, 104, 109, 101, 110, 100, 32]⟩, .string ⟨#[44, 32, 115, 112, 97, 100, 101, 107, 32, 100, 111, 32]⟩] 9))) := BF0.alloc BF0.size _
    refine wpAnyH_take (i := 7) (oi := { dst := some 30, op := Go.Op.binOp Go.BinOp.add 9 (Go.Operand.tmp 26) (Go.Operand.tmp 29) 9, type := 9, pos := "l23_tongues.go:39", after := #[{ on := 3, ground := Go.Ground.data }, { on := 6, ground := Go.Ground.data }], guard := none }) (v := ?_) rfl (by kernel_rfl) (by kernel_rfl) (by kernel_rfl) (fun _ _ _ h => h) (Or.inl ⟨by rfl, ?_⟩) (by assumption) ?_
    rotate_left 1
    · (intro w hSw; (try dsimp only at hSw); go_simp); all_goals (with_reducible rfl)
    try simp only [Act.put, List.setIfInBounds_toArray, List.set_cons_zero, List.set_cons_succ]
    refine wpAnyH_take (i := 8) (oi := { dst := some 4, op := Go.Op.assign (Go.Operand.tmp 30), type := 9, pos := "l23_tongues.go:39", after := #[{ on := 7, ground := Go.Ground.data }, { on := 6, ground := Go.Ground.chain }, { on := 0, ground := Go.Ground.phase }, { on := 1, ground := Go.Ground.phase }, { on := 2, ground := Go.Ground.phase }, { on := 3, ground := Go.Ground.phase }, { on := 4, ground := Go.Ground.phase }, { on := 5, ground := Go.Ground.phase }, { on := 6, ground := Go.Ground.phase }, { on := 7, ground := Go.Ground.phase }], guard := none }) (v := ?_) rfl (by kernel_rfl) (by kernel_rfl) (by kernel_rfl) (fun _ _ _ h => h) (Or.inl ⟨by rfl, ?_⟩) (by assumption) ?_
    rotate_left 1
    · (intro w hSw; (try dsimp only at hSw); go_simp); all_goals (with_reducible rfl)
    try simp only [Act.put, List.setIfInBounds_toArray, List.set_cons_zero, List.set_cons_succ]
    refine wpAnyH_done (by kernel_rfl) ?_ _
    clear hHeld
    go_wp2_with fail
    go_ret
    exact ⟨rfl, BF.out⟩
set_option maxHeartbeats 2000000 in
set_option maxRecDepth 20000 in
theorem slater_gt3 (d f l r p : Int) (LL R : List UInt8) (w : World) (hf : f < l) (hLL : LL.length ≤ 100) (hR : R = [44, 32, 119, 122, 114, 111, 115, 116, 32, 100, 111, 32] ++ LL)
    (FD : Hid (∀ X, Calls Tryd.prog 33 #[.int .i64 l] X fun e w' => e = .returned (.string ⟨LL.toArray⟩) ∧ Below X.heap.size X w')) :
    Calls Tryd.prog 16 #[.agg #[.int .i64 d, .int .i64 f, .int .i64 l, .int .i64 r, .int .i64 p], .int .i64 3] w fun e w' => e = .returned (.string ⟨R.toArray⟩) ∧ Below w.heap.size w w' := by
  have eA : (⟨#[44, 32, 119, 122, 114, 111, 115, 116, 32, 100, 111, 32]⟩ : ByteArray) ++ ⟨LL.toArray⟩ = ⟨R.toArray⟩ := by rw [hR]; exact cat [44, 32, 119, 122, 114, 111, 115, 116, 32, 100, 111, 32] LL
  have uA : ¬ 9223372036854775807 < 12 + LL.length := by omega
  clear hR
  obtain ⟨w0, hw0⟩ : ∃ w0, w0 = w.alloc (.cells #[.int .i64 d, .int .i64 f, .int .i64 l, .int .i64 r, .int .i64 p] 23) := ⟨_, rfl⟩
  have HW : Hid (w0 = w.alloc (.cells #[.int .i64 d, .int .i64 f, .int .i64 l, .int .i64 r, .int .i64 p] 23)) := hw0
  have B0 : Hid (Below w.heap.size w w0) := (by show Below _ _ _; rw [hw0]; exact (Below.refl _ _).alloc (Nat.le_refl _) _)
  have z0 : w.heap.size < w0.heap.size := by rw [hw0]; simp
  have y1 : w0.cell? ⟨w.heap.size, 1, none⟩ = some (.int .i64 f) := by rw [hw0]; simp [go_sem]
  have y2 : w0.cell? ⟨w.heap.size, 2, none⟩ = some (.int .i64 l) := by rw [hw0]; simp [go_sem]
  clear hw0
  go_enter Tryd.func16, Tryd.ntmps16
  go_upto_region 1 with fail
  rw [← HW.out]
  go_upto_region 2 with fail
  refine wp_region_held_drew (S := fun w' => w'.cell? ⟨w.heap.size, 2, none⟩ = some (.int .i64 l)) (by kernel_rfl) y2 (fun hHeld => ?_)
  refine wpAnyH_take (i := 1) (oi := { dst := some 11, op := Go.Op.move (Go.Operand.tmp 1), type := 2, pos := "l23_tongues.go:36", after := #[], guard := none }) (v := ?_) rfl (by kernel_rfl) (by kernel_rfl) (by kernel_rfl) (fun _ _ _ h => h) (Or.inl ⟨by rfl, ?_⟩) (by assumption) ?_
  rotate_left 1
  · (intro w hSw; (try dsimp only at hSw); go_simp); all_goals (with_reducible rfl)
  try simp only [Act.put, List.setIfInBounds_toArray, List.set_cons_zero, List.set_cons_succ]
  refine wpAnyH_take (i := 4) (oi := { dst := some 14, op := Go.Op.fieldAddr 23 (Go.Operand.tmp 2) 2, type := 0, pos := "l23_tongues.go:36", after := #[], guard := none }) (v := ?_) rfl (by kernel_rfl) (by kernel_rfl) (by kernel_rfl) (fun _ _ _ h => h) (Or.inl ⟨by rfl, ?_⟩) (by assumption) ?_
  rotate_left 1
  · (intro w hSw; (try dsimp only at hSw); go_simp); all_goals (with_reducible rfl)
  try simp only [Act.put, List.setIfInBounds_toArray, List.set_cons_zero, List.set_cons_succ]
  refine wpAnyH_take (i := 5) (oi := { dst := some 15, op := Go.Op.load 2 (Go.Operand.tmp 14), type := 2, pos := "l23_tongues.go:36", after := #[{ on := 4, ground := Go.Ground.data }], guard := none }) (v := ?_) rfl (by kernel_rfl) (by kernel_rfl) (by kernel_rfl) (fun _ _ _ h => h) (Or.inl ⟨by rfl, ?_⟩) (by assumption) ?_
  rotate_left 1
  · (intro w hSw; (try dsimp only at hSw); go_simp); all_goals (with_reducible rfl)
  try simp only [Act.put, List.setIfInBounds_toArray, List.set_cons_zero, List.set_cons_succ]
  refine wpAnyH_ready (rs := [0, 6]) (by kernel_rfl) (by simp) ?_
  refine AllReadyH.cons (o := { dst := some 10, op := Go.Op.buildSlice 59 4 #[(0, Go.Operand.const (Go.Value.string { data := #[] })), (1, Go.Operand.const (Go.Value.string { data := #[44, 32, 114, 105, 115, 105, 110, 103, 32, 116, 111, 32] })), (2, Go.Operand.const (Go.Value.string { data := #[44, 32, 122, 117, 110, 101, 104, 109, 101, 110, 100, 32] })), (3, Go.Operand.const (Go.Value.string { data := #[44, 32, 119, 122, 114, 111, 115, 116, 32, 100, 111, 32] }))], type := 59, pos := "l23_tongues.go:36", after := #[], guard := none }) rfl (fun K hK => ?_) (AllReadyH.cons (o := { dst := some 16, op := Go.Op.call { callee := Go.Callee.value (Go.Operand.func 33), args := #[Go.Operand.tmp 15], argTypes := #[2] }, type := 9, pos := "l23_tongues.go:36", after := #[{ on := 5, ground := Go.Ground.data }], guard := none }) rfl (fun K hK => ?_) AllReadyH.nil)
  · go_simp
    refine hK.out _ _ (cell_al2 y2) (fun hHeld2 => ?_)
    clear hK K hHeld
    have hHeld := hHeld2
    clear hHeld2
    try simp only [Act.put, List.setIfInBounds_toArray, List.set_cons_zero, List.set_cons_succ]
    refine wpAnyH_take (i := 2) (oi := { dst := some 12, op := Go.Op.indexAddr 59 (Go.Operand.tmp 10) (Go.Operand.tmp 11), type := 0, pos := "l23_tongues.go:36", after := #[{ on := 0, ground := Go.Ground.data }, { on := 1, ground := Go.Ground.data }], guard := none }) (v := ?_) rfl (by kernel_rfl) (by kernel_rfl) (by kernel_rfl) (fun _ _ _ h => h) (Or.inl ⟨by rfl, ?_⟩) (by assumption) ?_
    rotate_left 1
    · (intro w hSw; (try dsimp only at hSw); go_simp); all_goals (with_reducible rfl)
    try simp only [Act.put, List.setIfInBounds_toArray, List.set_cons_zero, List.set_cons_succ]
    refine wpAnyH_ready (rs := [3, 6]) (by kernel_rfl) (by simp) ?_
    refine AllReadyH.cons (o := { dst := some 13, op := Go.Op.load 9 (Go.Operand.tmp 12), type := 9, pos := "l23_tongues.go:36", after := #[{ on := 2, ground := Go.Ground.data }], guard := none }) rfl (fun K hK => ?_) (AllReadyH.cons (o := { dst := some 16, op := Go.Op.call { callee := Go.Callee.value (Go.Operand.func 33), args := #[Go.Operand.tmp 15], argTypes := #[2] }, type := 9, pos := "l23_tongues.go:36", after := #[{ on := 5, ground := Go.Ground.data }], guard := none }) rfl (fun K hK => ?_) AllReadyH.nil)
    · go_simp
      refine hK.out _ _ (cell_al2 y2) (fun hHeld2 => ?_)
      clear hK K hHeld
      have hHeld := hHeld2
      clear hHeld2
      try simp only [Act.put, List.setIfInBounds_toArray, List.set_cons_zero, List.set_cons_succ]
      refine wpAnyH_ready (rs := [6]) (by kernel_rfl) (by simp) ?_
      refine AllReadyH.cons (o := { dst := some 16, op := Go.Op.call { callee := Go.Callee.value (Go.Operand.func 33), args := #[Go.Operand.tmp 15], argTypes := #[2] }, type := 9, pos := "l23_tongues.go:36", after := #[{ on := 5, ground := Go.Ground.data }], guard := none }) rfl (fun K hK => ?_) AllReadyH.nil
      go_simp
      refine (FD.out (w0.drew.alloc (.cells #[.string ⟨#[]⟩, .string ⟨#[44, 32, 114, 105, 115, 105, 110, 103, 32, 116, 111, 32]⟩, .string ⟨#[44, 32, 122, 117, 110, 101, 104, 109, 101, 110, 100, 32]⟩, .string ⟨#[44, 32, 119, 122, 114, 111, 115, 116, 32, 100, 111, 32]⟩] 9))).mono ?_
      rintro e w2 ⟨rfl, hb2⟩
      have b2 : Below w0.heap.size w0 w2 := ((Below.refl _ _).drew.alloc (by simp) _).trans (hb2.mono (by simp))
      have BF : Hid (Below w.heap.size w w2) := B0.out.trans (b2.mono B0.out.size)
      go_wp2_with fail
      refine hK.out _ _ ((b2.cell (p := ⟨w.heap.size, 2, none⟩) z0).trans y2) (fun hHeld2 => ?_)
      clear hK K hHeld
      have hHeld := hHeld2
      clear hHeld2
      try simp only [Act.put, List.setIfInBounds_toArray, List.set_cons_zero, List.set_cons_succ]
      refine wpAnyH_take (i := 7) (oi := { dst := some 17, op := Go.Op.binOp Go.BinOp.add 9 (Go.Operand.tmp 13) (Go.Operand.tmp 16) 9, type := 9, pos := "l23_tongues.go:36", after := #[{ on := 3, ground := Go.Ground.data }, { on := 6, ground := Go.Ground.data }], guard := none }) (v := ?_) rfl (by kernel_rfl) (by kernel_rfl) (by kernel_rfl) (fun _ _ _ h => h) (Or.inl ⟨by rfl, ?_⟩) (by assumption) ?_
      rotate_left 1
      · (intro w hSw; (try dsimp only at hSw); go_simp); all_goals (with_reducible rfl)
      try simp only [Act.put, List.setIfInBounds_toArray, List.set_cons_zero, List.set_cons_succ]
      refine wpAnyH_take (i := 8) (oi := { dst := some 4, op := Go.Op.assign (Go.Operand.tmp 17), type := 9, pos := "l23_tongues.go:36", after := #[{ on := 7, ground := Go.Ground.data }, { on := 6, ground := Go.Ground.chain }, { on := 0, ground := Go.Ground.phase }, { on := 1, ground := Go.Ground.phase }, { on := 2, ground := Go.Ground.phase }, { on := 3, ground := Go.Ground.phase }, { on := 4, ground := Go.Ground.phase }, { on := 5, ground := Go.Ground.phase }, { on := 6, ground := Go.Ground.phase }, { on := 7, ground := Go.Ground.phase }], guard := none }) (v := ?_) rfl (by kernel_rfl) (by kernel_rfl) (by kernel_rfl) (fun _ _ _ h => h) (Or.inl ⟨by rfl, ?_⟩) (by assumption) ?_
      rotate_left 1
      · (intro w hSw; (try dsimp only at hSw); go_simp); all_goals (with_reducible rfl)
      try simp only [Act.put, List.setIfInBounds_toArray, List.set_cons_zero, List.set_cons_succ]
      refine wpAnyH_done (by kernel_rfl) ?_ _
      clear hHeld
      go_wp2_with fail
      go_ret
      exact ⟨rfl, BF.out⟩
    · go_simp
      refine (FD.out (w0.drew.alloc (.cells #[.string ⟨#[]⟩, .string ⟨#[44, 32, 114, 105, 115, 105, 110, 103, 32, 116, 111, 32]⟩, .string ⟨#[44, 32, 122, 117, 110, 101, 104, 109, 101, 110, 100, 32]⟩, .string ⟨#[44, 32, 119, 122, 114, 111, 115, 116, 32, 100, 111, 32]⟩] 9))).mono ?_
      rintro e w2 ⟨rfl, hb2⟩
      have b2 : Below w0.heap.size w0 w2 := ((Below.refl _ _).drew.alloc (by simp) _).trans (hb2.mono (by simp))
      have lc : w2.cell? ⟨w0.heap.size, 3, none⟩ = some (.string ⟨#[44, 32, 119, 122, 114, 111, 115, 116, 32, 100, 111, 32]⟩) := (hb2.cell (p := ⟨w0.heap.size, 3, none⟩) (by simp)).trans (by simp [go_sem])
      have BF : Hid (Below w.heap.size w w2) := B0.out.trans (b2.mono B0.out.size)
      go_wp2_with fail
      refine hK.out _ _ ((b2.cell (p := ⟨w.heap.size, 2, none⟩) z0).trans y2) (fun hHeld2 => ?_)
      clear hK K hHeld
      have hHeld := hHeld2
      clear hHeld2
      try simp only [Act.put, List.setIfInBounds_toArray, List.set_cons_zero, List.set_cons_succ]
      refine wpAnyH_ready (rs := [3]) (by kernel_rfl) (by simp) ?_
      refine AllReadyH.cons (o := { dst := some 13, op := Go.Op.load 9 (Go.Operand.tmp 12), type := 9, pos := "l23_tongues.go:36", after := #[{ on := 2, ground := Go.Ground.data }], guard := none }) rfl (fun K hK => ?_) AllReadyH.nil
      go_simp
      refine hK.out _ _ ((b2.cell (p := ⟨w.heap.size, 2, none⟩) z0).trans y2) (fun hHeld2 => ?_)
      clear hK K hHeld
      have hHeld := hHeld2
      clear hHeld2
      try simp only [Act.put, List.setIfInBounds_toArray, List.set_cons_zero, List.set_cons_succ]
      refine wpAnyH_take (i := 7) (oi := { dst := some 17, op := Go.Op.binOp Go.BinOp.add 9 (Go.Operand.tmp 13) (Go.Operand.tmp 16) 9, type := 9, pos := "l23_tongues.go:36", after := #[{ on := 3, ground := Go.Ground.data }, { on := 6, ground := Go.Ground.data }], guard := none }) (v := ?_) rfl (by kernel_rfl) (by kernel_rfl) (by kernel_rfl) (fun _ _ _ h => h) (Or.inl ⟨by rfl, ?_⟩) (by assumption) ?_
      rotate_left 1
      · (intro w hSw; (try dsimp only at hSw); go_simp); all_goals (with_reducible rfl)
      try simp only [Act.put, List.setIfInBounds_toArray, List.set_cons_zero, List.set_cons_succ]
      refine wpAnyH_take (i := 8) (oi := { dst := some 4, op := Go.Op.assign (Go.Operand.tmp 17), type := 9, pos := "l23_tongues.go:36", after := #[{ on := 7, ground := Go.Ground.data }, { on := 6, ground := Go.Ground.chain }, { on := 0, ground := Go.Ground.phase }, { on := 1, ground := Go.Ground.phase }, { on := 2, ground := Go.Ground.phase }, { on := 3, ground := Go.Ground.phase }, { on := 4, ground := Go.Ground.phase }, { on := 5, ground := Go.Ground.phase }, { on := 6, ground := Go.Ground.phase }, { on := 7, ground := Go.Ground.phase }], guard := none }) (v := ?_) rfl (by kernel_rfl) (by kernel_rfl) (by kernel_rfl) (fun _ _ _ h => h) (Or.inl ⟨by rfl, ?_⟩) (by assumption) ?_
      rotate_left 1
      · (intro w hSw; (try dsimp only at hSw); go_simp); all_goals (with_reducible rfl)
      try simp only [Act.put, List.setIfInBounds_toArray, List.set_cons_zero, List.set_cons_succ]
      refine wpAnyH_done (by kernel_rfl) ?_ _
      clear hHeld
      go_wp2_with fail
      go_ret
      exact ⟨rfl, BF.out⟩
  · go_simp
    refine (FD.out w0.drew).mono ?_
    rintro e w2 ⟨rfl, hb2⟩
    have b2 : Below w0.heap.size w0 w2 := (Below.refl _ _).drew.trans (hb2.mono (by simp))
    have BF0 : Below w.heap.size w w2 := B0.out.trans (b2.mono B0.out.size)
    have k2 := (b2.cell (p := ⟨w.heap.size, 2, none⟩) z0).trans y2
    go_wp2_with fail
    refine hK.out _ _ (k2) (fun hHeld2 => ?_)
    clear hK K hHeld
    have hHeld := hHeld2
    clear hHeld2
    try simp only [Act.put, List.setIfInBounds_toArray, List.set_cons_zero, List.set_cons_succ]
    refine wpAnyH_ready (rs := [0]) (by kernel_rfl) (by simp) ?_
    refine AllReadyH.cons (o := { dst := some 10, op := Go.Op.buildSlice 59 4 #[(0, Go.Operand.const (Go.Value.string { data := #[] })), (1, Go.Operand.const (Go.Value.string { data := #[44, 32, 114, 105, 115, 105, 110, 103, 32, 116, 111, 32] })), (2, Go.Operand.const (Go.Value.string { data := #[44, 32, 122, 117, 110, 101, 104, 109, 101, 110, 100, 32] })), (3, Go.Operand.const (Go.Value.string { data := #[44, 32, 119, 122, 114, 111, 115, 116, 32, 100, 111, 32] }))], type := 59, pos := "l23_tongues.go:36", after := #[], guard := none }) rfl (fun K hK => ?_) AllReadyH.nil
    go_simp
    refine hK.out _ _ (cell_al2 k2) (fun hHeld2 => ?_)
    clear hK K hHeld
    have hHeld := hHeld2
    clear hHeld2
    try simp only [Act.put, List.setIfInBounds_toArray, List.set_cons_zero, List.set_cons_succ]
    refine wpAnyH_take (i := 2) (oi := { dst := some 12, op := Go.Op.indexAddr 59 (Go.Operand.tmp 10) (Go.Operand.tmp 11), type := 0, pos := "l23_tongues.go:36", after := #[{ on := 0, ground := Go.Ground.data }, { on := 1, ground := Go.Ground.data }], guard := none }) (v := ?_) rfl (by kernel_rfl) (by kernel_rfl) (by kernel_rfl) (fun _ _ _ h => h) (Or.inl ⟨by rfl, ?_⟩) (by assumption) ?_
    rotate_left 1
    · (intro w hSw; (try dsimp only at hSw); go_simp); all_goals (with_reducible rfl)
    try simp only [Act.put, List.setIfInBounds_toArray, List.set_cons_zero, List.set_cons_succ]
    refine wpAnyH_ready (rs := [3]) (by kernel_rfl) (by simp) ?_
    refine AllReadyH.cons (o := { dst := some 13, op := Go.Op.load 9 (Go.Operand.tmp 12), type := 9, pos := "l23_tongues.go:36", after := #[{ on := 2, ground := Go.Ground.data }], guard := none }) rfl (fun K hK => ?_) AllReadyH.nil
    go_simp
    refine hK.out _ _ (cell_al2 k2) (fun hHeld2 => ?_)
    clear hK K hHeld
    have hHeld := hHeld2
    clear hHeld2
    try simp only [Act.put, List.setIfInBounds_toArray, List.set_cons_zero, List.set_cons_succ]
    have BF : Hid (Below w.heap.size w (w2.alloc (.cells #[.string ⟨#[]⟩, .string ⟨#[44, 32, 114, 105, 115, 105, 110, 103, 32, 116, 111, 32]⟩, .string ⟨#[44, 32, 122, 117, 110, 101, 104, 109, 101, 110, 100, 32]⟩, .string ⟨#[44, 32, 119, 122, 114, 111, 115, 116, 32, 100, 111, 32]⟩] 9))) := BF0.alloc BF0.size _
    refine wpAnyH_take (i := 7) (oi := { dst := some 17, op := Go.Op.binOp Go.BinOp.add 9 (Go.Operand.tmp 13) (Go.Operand.tmp 16) 9, type := 9, pos := "l23_tongues.go:36", after := #[{ on := 3, ground := Go.Ground.data }, { on := 6, ground := Go.Ground.data }], guard := none }) (v := ?_) rfl (by kernel_rfl) (by kernel_rfl) (by kernel_rfl) (fun _ _ _ h => h) (Or.inl ⟨by rfl, ?_⟩) (by assumption) ?_
    rotate_left 1
    · (intro w hSw; (try dsimp only at hSw); go_simp); all_goals (with_reducible rfl)
    try simp only [Act.put, List.setIfInBounds_toArray, List.set_cons_zero, List.set_cons_succ]
    refine wpAnyH_take (i := 8) (oi := { dst := some 4, op := Go.Op.assign (Go.Operand.tmp 17), type := 9, pos := "l23_tongues.go:36", after := #[{ on := 7, ground := Go.Ground.data }, { on := 6, ground := Go.Ground.chain }, { on := 0, ground := Go.Ground.phase }, { on := 1, ground := Go.Ground.phase }, { on := 2, ground := Go.Ground.phase }, { on := 3, ground := Go.Ground.phase }, { on := 4, ground := Go.Ground.phase }, { on := 5, ground := Go.Ground.phase }, { on := 6, ground := Go.Ground.phase }, { on := 7, ground := Go.Ground.phase }], guard := none }) (v := ?_) rfl (by kernel_rfl) (by kernel_rfl) (by kernel_rfl) (fun _ _ _ h => h) (Or.inl ⟨by rfl, ?_⟩) (by assumption) ?_
    rotate_left 1
    · (intro w hSw; (try dsimp only at hSw); go_simp); all_goals (with_reducible rfl)
    try simp only [Act.put, List.setIfInBounds_toArray, List.set_cons_zero, List.set_cons_succ]
    refine wpAnyH_done (by kernel_rfl) ?_ _
    clear hHeld
    go_wp2_with fail
    go_ret
    exact ⟨rfl, BF.out⟩
set_option maxHeartbeats 2000000 in
set_option maxRecDepth 20000 in
theorem slater_lt3 (d f l r p : Int) (LL R : List UInt8) (w : World) (hf : l < f) (hLL : LL.length ≤ 100) (hR : R = [44, 32, 115, 112, 97, 100, 101, 107, 32, 100, 111, 32] ++ LL)
    (FD : Hid (∀ X, Calls Tryd.prog 33 #[.int .i64 l] X fun e w' => e = .returned (.string ⟨LL.toArray⟩) ∧ Below X.heap.size X w')) :
    Calls Tryd.prog 16 #[.agg #[.int .i64 d, .int .i64 f, .int .i64 l, .int .i64 r, .int .i64 p], .int .i64 3] w fun e w' => e = .returned (.string ⟨R.toArray⟩) ∧ Below w.heap.size w w' := by
  have eA : (⟨#[44, 32, 115, 112, 97, 100, 101, 107, 32, 100, 111, 32]⟩ : ByteArray) ++ ⟨LL.toArray⟩ = ⟨R.toArray⟩ := by rw [hR]; exact cat [44, 32, 115, 112, 97, 100, 101, 107, 32, 100, 111, 32] LL
  have uA : ¬ 9223372036854775807 < 12 + LL.length := by omega
  clear hR
  have g1 : ¬ f < l := by omega
  obtain ⟨w0, hw0⟩ : ∃ w0, w0 = w.alloc (.cells #[.int .i64 d, .int .i64 f, .int .i64 l, .int .i64 r, .int .i64 p] 23) := ⟨_, rfl⟩
  have HW : Hid (w0 = w.alloc (.cells #[.int .i64 d, .int .i64 f, .int .i64 l, .int .i64 r, .int .i64 p] 23)) := hw0
  have B0 : Hid (Below w.heap.size w w0) := (by show Below _ _ _; rw [hw0]; exact (Below.refl _ _).alloc (Nat.le_refl _) _)
  have z0 : w.heap.size < w0.heap.size := by rw [hw0]; simp
  have y1 : w0.cell? ⟨w.heap.size, 1, none⟩ = some (.int .i64 f) := by rw [hw0]; simp [go_sem]
  have y2 : w0.cell? ⟨w.heap.size, 2, none⟩ = some (.int .i64 l) := by rw [hw0]; simp [go_sem]
  clear hw0
  go_enter Tryd.func16, Tryd.ntmps16
  go_upto_region 1 with fail
  rw [← HW.out]
  go_upto_region 4 with fail
  refine wp_region_held_drew (S := fun w' => w'.cell? ⟨w.heap.size, 2, none⟩ = some (.int .i64 l)) (by kernel_rfl) y2 (fun hHeld => ?_)
  refine wpAnyH_take (i := 1) (oi := { dst := some 24, op := Go.Op.move (Go.Operand.tmp 1), type := 2, pos := "l23_tongues.go:39", after := #[], guard := none }) (v := ?_) rfl (by kernel_rfl) (by kernel_rfl) (by kernel_rfl) (fun _ _ _ h => h) (Or.inl ⟨by rfl, ?_⟩) (by assumption) ?_
  rotate_left 1
  · (intro w hSw; (try dsimp only at hSw); go_simp); all_goals (with_reducible rfl)
  try simp only [Act.put, List.setIfInBounds_toArray, List.set_cons_zero, List.set_cons_succ]
  refine wpAnyH_take (i := 4) (oi := { dst := some 27, op := Go.Op.fieldAddr 23 (Go.Operand.tmp 2) 2, type := 0, pos := "l23_tongues.go:39", after := #[], guard := none }) (v := ?_) rfl (by kernel_rfl) (by kernel_rfl) (by kernel_rfl) (fun _ _ _ h => h) (Or.inl ⟨by rfl, ?_⟩) (by assumption) ?_
  rotate_left 1
  · (intro w hSw; (try dsimp only at hSw); go_simp); all_goals (with_reducible rfl)
  try simp only [Act.put, List.setIfInBounds_toArray, List.set_cons_zero, List.set_cons_succ]
  refine wpAnyH_take (i := 5) (oi := { dst := some 28, op := Go.Op.load 2 (Go.Operand.tmp 27), type := 2, pos := "l23_tongues.go:39", after := #[{ on := 4, ground := Go.Ground.data }], guard := none }) (v := ?_) rfl (by kernel_rfl) (by kernel_rfl) (by kernel_rfl) (fun _ _ _ h => h) (Or.inl ⟨by rfl, ?_⟩) (by assumption) ?_
  rotate_left 1
  · (intro w hSw; (try dsimp only at hSw); go_simp); all_goals (with_reducible rfl)
  try simp only [Act.put, List.setIfInBounds_toArray, List.set_cons_zero, List.set_cons_succ]
  refine wpAnyH_ready (rs := [0, 6]) (by kernel_rfl) (by simp) ?_
  refine AllReadyH.cons (o := { dst := some 23, op := Go.Op.buildSlice 59 4 #[(0, Go.Operand.const (Go.Value.string { data := #[] })), (1, Go.Operand.const (Go.Value.string { data := #[44, 32, 102, 97, 108, 108, 105, 110, 103, 32, 116, 111, 32] })), (2, Go.Operand.const (Go.Value.string { data := #[44, 32, 97, 98, 110, 101, 104, 109, 101, 110, 100, 32] })), (3, Go.Operand.const (Go.Value.string { data := #[44, 32, 115, 112, 97, 100, 101, 107, 32, 100, 111, 32] }))], type := 59, pos := "l23_tongues.go:39", after := #[], guard := none }) rfl (fun K hK => ?_) (AllReadyH.cons (o := { dst := some 29, op := Go.Op.call { callee := Go.Callee.value (Go.Operand.func 33), args := #[Go.Operand.tmp 28], argTypes := #[2] }, type := 9, pos := "l23_tongues.go:39", after := #[{ on := 5, ground := Go.Ground.data }], guard := none }) rfl (fun K hK => ?_) AllReadyH.nil)
  · go_simp
    refine hK.out _ _ (cell_al2 y2) (fun hHeld2 => ?_)
    clear hK K hHeld
    have hHeld := hHeld2
    clear hHeld2
    try simp only [Act.put, List.setIfInBounds_toArray, List.set_cons_zero, List.set_cons_succ]
    refine wpAnyH_take (i := 2) (oi := { dst := some 25, op := Go.Op.indexAddr 59 (Go.Operand.tmp 23) (Go.Operand.tmp 24), type := 0, pos := "l23_tongues.go:39", after := #[{ on := 0, ground := Go.Ground.data }, { on := 1, ground := Go.Ground.data }], guard := none }) (v := ?_) rfl (by kernel_rfl) (by kernel_rfl) (by kernel_rfl) (fun _ _ _ h => h) (Or.inl ⟨by rfl, ?_⟩) (by assumption) ?_
    rotate_left 1
    · (intro w hSw; (try dsimp only at hSw); go_simp); all_goals (with_reducible rfl)
    try simp only [Act.put, List.setIfInBounds_toArray, List.set_cons_zero, List.set_cons_succ]
    refine wpAnyH_ready (rs := [3, 6]) (by kernel_rfl) (by simp) ?_
    refine AllReadyH.cons (o := { dst := some 26, op := Go.Op.load 9 (Go.Operand.tmp 25), type := 9, pos := "l23_tongues.go:39", after := #[{ on := 2, ground := Go.Ground.data }], guard := none }) rfl (fun K hK => ?_) (AllReadyH.cons (o := { dst := some 29, op := Go.Op.call { callee := Go.Callee.value (Go.Operand.func 33), args := #[Go.Operand.tmp 28], argTypes := #[2] }, type := 9, pos := "l23_tongues.go:39", after := #[{ on := 5, ground := Go.Ground.data }], guard := none }) rfl (fun K hK => ?_) AllReadyH.nil)
    · go_simp
      refine hK.out _ _ (cell_al2 y2) (fun hHeld2 => ?_)
      clear hK K hHeld
      have hHeld := hHeld2
      clear hHeld2
      try simp only [Act.put, List.setIfInBounds_toArray, List.set_cons_zero, List.set_cons_succ]
      refine wpAnyH_ready (rs := [6]) (by kernel_rfl) (by simp) ?_
      refine AllReadyH.cons (o := { dst := some 29, op := Go.Op.call { callee := Go.Callee.value (Go.Operand.func 33), args := #[Go.Operand.tmp 28], argTypes := #[2] }, type := 9, pos := "l23_tongues.go:39", after := #[{ on := 5, ground := Go.Ground.data }], guard := none }) rfl (fun K hK => ?_) AllReadyH.nil
      go_simp
      refine (FD.out (w0.drew.alloc (.cells #[.string ⟨#[]⟩, .string ⟨#[44, 32, 102, 97, 108, 108, 105, 110, 103, 32, 116, 111, 32]⟩, .string ⟨#[44, 32, 97, 98, 110, 101, 104, 109, 101, 110, 100, 32]⟩, .string ⟨#[44, 32, 115, 112, 97, 100, 101, 107, 32, 100, 111, 32]⟩] 9))).mono ?_
      rintro e w2 ⟨rfl, hb2⟩
      have b2 : Below w0.heap.size w0 w2 := ((Below.refl _ _).drew.alloc (by simp) _).trans (hb2.mono (by simp))
      have BF : Hid (Below w.heap.size w w2) := B0.out.trans (b2.mono B0.out.size)
      go_wp2_with fail
      refine hK.out _ _ ((b2.cell (p := ⟨w.heap.size, 2, none⟩) z0).trans y2) (fun hHeld2 => ?_)
      clear hK K hHeld
      have hHeld := hHeld2
      clear hHeld2
      try simp only [Act.put, List.setIfInBounds_toArray, List.set_cons_zero, List.set_cons_succ]
      refine wpAnyH_take (i := 7) (oi := { dst := some 30, op := Go.Op.binOp Go.BinOp.add 9 (Go.Operand.tmp 26) (Go.Operand.tmp 29) 9, type := 9, pos := "l23_tongues.go:39", after := #[{ on := 3, ground := Go.Ground.data }, { on := 6, ground := Go.Ground.data }], guard := none }) (v := ?_) rfl (by kernel_rfl) (by kernel_rfl) (by kernel_rfl) (fun _ _ _ h => h) (Or.inl ⟨by rfl, ?_⟩) (by assumption) ?_
      rotate_left 1
      · (intro w hSw; (try dsimp only at hSw); go_simp); all_goals (with_reducible rfl)
      try simp only [Act.put, List.setIfInBounds_toArray, List.set_cons_zero, List.set_cons_succ]
      refine wpAnyH_take (i := 8) (oi := { dst := some 4, op := Go.Op.assign (Go.Operand.tmp 30), type := 9, pos := "l23_tongues.go:39", after := #[{ on := 7, ground := Go.Ground.data }, { on := 6, ground := Go.Ground.chain }, { on := 0, ground := Go.Ground.phase }, { on := 1, ground := Go.Ground.phase }, { on := 2, ground := Go.Ground.phase }, { on := 3, ground := Go.Ground.phase }, { on := 4, ground := Go.Ground.phase }, { on := 5, ground := Go.Ground.phase }, { on := 6, ground := Go.Ground.phase }, { on := 7, ground := Go.Ground.phase }], guard := none }) (v := ?_) rfl (by kernel_rfl) (by kernel_rfl) (by kernel_rfl) (fun _ _ _ h => h) (Or.inl ⟨by rfl, ?_⟩) (by assumption) ?_
      rotate_left 1
      · (intro w hSw; (try dsimp only at hSw); go_simp); all_goals (with_reducible rfl)
      try simp only [Act.put, List.setIfInBounds_toArray, List.set_cons_zero, List.set_cons_succ]
      refine wpAnyH_done (by kernel_rfl) ?_ _
      clear hHeld
      go_wp2_with fail
      go_ret
      exact ⟨rfl, BF.out⟩
    · go_simp
      refine (FD.out (w0.drew.alloc (.cells #[.string ⟨#[]⟩, .string ⟨#[44, 32, 102, 97, 108, 108, 105, 110, 103, 32, 116, 111, 32]⟩, .string ⟨#[44, 32, 97, 98, 110, 101, 104, 109, 101, 110, 100, 32]⟩, .string ⟨#[44, 32, 115, 112, 97, 100, 101, 107, 32, 100, 111, 32]⟩] 9))).mono ?_
      rintro e w2 ⟨rfl, hb2⟩
      have b2 : Below w0.heap.size w0 w2 := ((Below.refl _ _).drew.alloc (by simp) _).trans (hb2.mono (by simp))
      have lc : w2.cell? ⟨w0.heap.size, 3, none⟩ = some (.string ⟨#[44, 32, 115, 112, 97, 100, 101, 107, 32, 100, 111, 32]⟩) := (hb2.cell (p := ⟨w0.heap.size, 3, none⟩) (by simp)).trans (by simp [go_sem])
      have BF : Hid (Below w.heap.size w w2) := B0.out.trans (b2.mono B0.out.size)
      go_wp2_with fail
      refine hK.out _ _ ((b2.cell (p := ⟨w.heap.size, 2, none⟩) z0).trans y2) (fun hHeld2 => ?_)
      clear hK K hHeld
      have hHeld := hHeld2
      clear hHeld2
      try simp only [Act.put, List.setIfInBounds_toArray, List.set_cons_zero, List.set_cons_succ]
      refine wpAnyH_ready (rs := [3]) (by kernel_rfl) (by simp) ?_
      refine AllReadyH.cons (o := { dst := some 26, op := Go.Op.load 9 (Go.Operand.tmp 25), type := 9, pos := "l23_tongues.go:39", after := #[{ on := 2, ground := Go.Ground.data }], guard := none }) rfl (fun K hK => ?_) AllReadyH.nil
      go_simp
      refine hK.out _ _ ((b2.cell (p := ⟨w.heap.size, 2, none⟩) z0).trans y2) (fun hHeld2 => ?_)
      clear hK K hHeld
      have hHeld := hHeld2
      clear hHeld2
      try simp only [Act.put, List.setIfInBounds_toArray, List.set_cons_zero, List.set_cons_succ]
      refine wpAnyH_take (i := 7) (oi := { dst := some 30, op := Go.Op.binOp Go.BinOp.add 9 (Go.Operand.tmp 26) (Go.Operand.tmp 29) 9, type := 9, pos := "l23_tongues.go:39", after := #[{ on := 3, ground := Go.Ground.data }, { on := 6, ground := Go.Ground.data }], guard := none }) (v := ?_) rfl (by kernel_rfl) (by kernel_rfl) (by kernel_rfl) (fun _ _ _ h => h) (Or.inl ⟨by rfl, ?_⟩) (by assumption) ?_
      rotate_left 1
      · (intro w hSw; (try dsimp only at hSw); go_simp); all_goals (with_reducible rfl)
      try simp only [Act.put, List.setIfInBounds_toArray, List.set_cons_zero, List.set_cons_succ]
      refine wpAnyH_take (i := 8) (oi := { dst := some 4, op := Go.Op.assign (Go.Operand.tmp 30), type := 9, pos := "l23_tongues.go:39", after := #[{ on := 7, ground := Go.Ground.data }, { on := 6, ground := Go.Ground.chain }, { on := 0, ground := Go.Ground.phase }, { on := 1, ground := Go.Ground.phase }, { on := 2, ground := Go.Ground.phase }, { on := 3, ground := Go.Ground.phase }, { on := 4, ground := Go.Ground.phase }, { on := 5, ground := Go.Ground.phase }, { on := 6, ground := Go.Ground.phase }, { on := 7, ground := Go.Ground.phase }], guard := none }) (v := ?_) rfl (by kernel_rfl) (by kernel_rfl) (by kernel_rfl) (fun _ _ _ h => h) (Or.inl ⟨by rfl, ?_⟩) (by assumption) ?_
      rotate_left 1
      · (intro w hSw; (try dsimp only at hSw); go_simp); all_goals (with_reducible rfl)
      try simp only [Act.put, List.setIfInBounds_toArray, List.set_cons_zero, List.set_cons_succ]
      refine wpAnyH_done (by kernel_rfl) ?_ _
      clear hHeld
      go_wp2_with fail
      go_ret
      exact ⟨rfl, BF.out⟩
  · go_simp
    refine (FD.out w0.drew).mono ?_
    rintro e w2 ⟨rfl, hb2⟩
    have b2 : Below w0.heap.size w0 w2 := (Below.refl _ _).drew.trans (hb2.mono (by simp))
    have BF0 : Below w.heap.size w w2 := B0.out.trans (b2.mono B0.out.size)
    have k2 := (b2.cell (p := ⟨w.heap.size, 2, none⟩) z0).trans y2
    go_wp2_with fail
    refine hK.out _ _ (k2) (fun hHeld2 => ?_)
    clear hK K hHeld
    have hHeld := hHeld2
    clear hHeld2
    try simp only [Act.put, List.setIfInBounds_toArray, List.set_cons_zero, List.set_cons_succ]
    refine wpAnyH_ready (rs := [0]) (by kernel_rfl) (by simp) ?_
    refine AllReadyH.cons (o := { dst := some 23, op := Go.Op.buildSlice 59 4 #[(0, Go.Operand.const (Go.Value.string { data := #[] })), (1, Go.Operand.const (Go.Value.string { data := #[44, 32, 102, 97, 108, 108, 105, 110, 103, 32, 116, 111, 32] })), (2, Go.Operand.const (Go.Value.string { data := #[44, 32, 97, 98, 110, 101, 104, 109, 101, 110, 100, 32] })), (3, Go.Operand.const (Go.Value.string { data := #[44, 32, 115, 112, 97, 100, 101, 107, 32, 100, 111, 32] }))], type := 59, pos := "l23_tongues.go:39", after := #[], guard := none }) rfl (fun K hK => ?_) AllReadyH.nil
    go_simp
    refine hK.out _ _ (cell_al2 k2) (fun hHeld2 => ?_)
    clear hK K hHeld
    have hHeld := hHeld2
    clear hHeld2
    try simp only [Act.put, List.setIfInBounds_toArray, List.set_cons_zero, List.set_cons_succ]
    refine wpAnyH_take (i := 2) (oi := { dst := some 25, op := Go.Op.indexAddr 59 (Go.Operand.tmp 23) (Go.Operand.tmp 24), type := 0, pos := "l23_tongues.go:39", after := #[{ on := 0, ground := Go.Ground.data }, { on := 1, ground := Go.Ground.data }], guard := none }) (v := ?_) rfl (by kernel_rfl) (by kernel_rfl) (by kernel_rfl) (fun _ _ _ h => h) (Or.inl ⟨by rfl, ?_⟩) (by assumption) ?_
    rotate_left 1
    · (intro w hSw; (try dsimp only at hSw); go_simp); all_goals (with_reducible rfl)
    try simp only [Act.put, List.setIfInBounds_toArray, List.set_cons_zero, List.set_cons_succ]
    refine wpAnyH_ready (rs := [3]) (by kernel_rfl) (by simp) ?_
    refine AllReadyH.cons (o := { dst := some 26, op := Go.Op.load 9 (Go.Operand.tmp 25), type := 9, pos := "l23_tongues.go:39", after := #[{ on := 2, ground := Go.Ground.data }], guard := none }) rfl (fun K hK => ?_) AllReadyH.nil
    go_simp
    refine hK.out _ _ (cell_al2 k2) (fun hHeld2 => ?_)
    clear hK K hHeld
    have hHeld := hHeld2
    clear hHeld2
    try simp only [Act.put, List.setIfInBounds_toArray, List.set_cons_zero, List.set_cons_succ]
    have BF : Hid (Below w.heap.size w (w2.alloc (.cells #[.string ⟨#[]⟩, .string ⟨#[44, 32, 102, 97, 108, 108, 105, 110, 103, 32, 116, 111, 32]⟩, .string ⟨#[44, 32, 97, 98, 110, 101, 104, 109, 101, 110, 100, 32]⟩, .string ⟨#[44, 32, 115, 112, 97, 100, 101, 107, 32, 100, 111, 32]⟩] 9))) := BF0.alloc BF0.size _
    refine wpAnyH_take (i := 7) (oi := { dst := some 30, op := Go.Op.binOp Go.BinOp.add 9 (Go.Operand.tmp 26) (Go.Operand.tmp 29) 9, type := 9, pos := "l23_tongues.go:39", after := #[{ on := 3, ground := Go.Ground.data }, { on := 6, ground := Go.Ground.data }], guard := none }) (v := ?_) rfl (by kernel_rfl) (by kernel_rfl) (by kernel_rfl) (fun _ _ _ h => h) (Or.inl ⟨by rfl, ?_⟩) (by assumption) ?_
    rotate_left 1
    · (intro w hSw; (try dsimp only at hSw); go_simp); all_goals (with_reducible rfl)
    try simp only [Act.put, List.setIfInBounds_toArray, List.set_cons_zero, List.set_cons_succ]
    refine wpAnyH_take (i := 8) (oi := { dst := some 4, op := Go.Op.assign (Go.Operand.tmp 30), type := 9, pos := "l23_tongues.go:39", after := #[{ on := 7, ground := Go.Ground.data }, { on := 6, ground := Go.Ground.chain }, { on := 0, ground := Go.Ground.phase }, { on := 1, ground := Go.Ground.phase }, { on := 2, ground := Go.Ground.phase }, { on := 3, ground := Go.Ground.phase }, { on := 4, ground := Go.Ground.phase }, { on := 5, ground := Go.Ground.phase }, { on := 6, ground := Go.Ground.phase }, { on := 7, ground := Go.Ground.phase }], guard := none }) (v := ?_) rfl (by kernel_rfl) (by kernel_rfl) (by kernel_rfl) (fun _ _ _ h => h) (Or.inl ⟨by rfl, ?_⟩) (by assumption) ?_
    rotate_left 1
    · (intro w hSw; (try dsimp only at hSw); go_simp); all_goals (with_reducible rfl)
    try simp only [Act.put, List.setIfInBounds_toArray, List.set_cons_zero, List.set_cons_succ]
    refine wpAnyH_done (by kernel_rfl) ?_ _
    clear hHeld
    go_wp2_with fail
    go_ret
    exact ⟨rfl, BF.out⟩
set_option maxHeartbeats 1000000 in
theorem slater_eq (d f l r p t : Int) (w : World) (hf : l = f) : Calls Tryd.prog 16 #[.agg #[.int .i64 d, .int .i64 f, .int .i64 l, .int .i64 r, .int .i64 p], .int .i64 t] w fun e w' => e = .returned (.string ⟨#[]⟩) ∧ Below w.heap.size w w' := by
  subst l
  obtain ⟨w0, hw0⟩ : ∃ w0, w0 = w.alloc (.cells #[.int .i64 d, .int .i64 f, .int .i64 f, .int .i64 r, .int .i64 p] 23) := ⟨_, rfl⟩
  have HW : Hid (w0 = w.alloc (.cells #[.int .i64 d, .int .i64 f, .int .i64 f, .int .i64 r, .int .i64 p] 23)) := hw0
  have B0 : Hid (Below w.heap.size w w0) := (by show Below _ _ _; rw [hw0]; exact (Below.refl _ _).alloc (Nat.le_refl _) _)
  have z0 : w.heap.size < w0.heap.size := by rw [hw0]; simp
  have y1 : w0.cell? ⟨w.heap.size, 1, none⟩ = some (.int .i64 f) := by rw [hw0]; simp [go_sem]
  have y2 : w0.cell? ⟨w.heap.size, 2, none⟩ = some (.int .i64 f) := by rw [hw0]; simp [go_sem]
  clear hw0
  have g1 : ¬ f < f := by omega
  go_enter Tryd.func16, Tryd.ntmps16
  go_upto_region 1 with fail
  rw [← HW.out]
  go_wp2_with fail
  go_ret
  exact ⟨rfl, B0.out⟩
end Go.Proofs.YtnbhfjcpimdnlaaDoor.Ph
