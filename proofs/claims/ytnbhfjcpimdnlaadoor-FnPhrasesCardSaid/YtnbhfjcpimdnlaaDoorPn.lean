/- The model's words of rain; the whole saying. -/
import Derived.Test.YtnbhfjcpimdnlaaDoorPm
namespace Go.Proofs.YtnbhfjcpimdnlaaDoor.Ph
open Go.ChangeShapes Go.WideShapes Go.ChangeAt Go.RowKit
open Go.Proofs.YtnbhfjcpimdnlaaDoor.Dec (cat dec_any dec_len)
set_option maxHeartbeats 1000000 in
theorem srain_dry1 (d f l r p : Int) (w : World) (hr : r = 0) : Calls Tryd.prog 26 #[.agg #[.int .i64 d, .int .i64 f, .int .i64 l, .int .i64 r, .int .i64 p], .int .i64 1] w fun e w' => e = .returned (.string ⟨#[100, 114, 121]⟩) ∧ Below w.heap.size w w' := by
  subst r
  obtain ⟨w0, hw0⟩ : ∃ w0, w0 = w.alloc (.cells #[.int .i64 d, .int .i64 f, .int .i64 l, .int .i64 0, .int .i64 p] 23) := ⟨_, rfl⟩
  have HW : Hid (w0 = w.alloc (.cells #[.int .i64 d, .int .i64 f, .int .i64 l, .int .i64 0, .int .i64 p] 23)) := hw0
  have B0 : Hid (Below w.heap.size w w0) := (by show Below _ _ _; rw [hw0]; exact (Below.refl _ _).alloc (Nat.le_refl _) _)
  have z0 : w.heap.size < w0.heap.size := by rw [hw0]; simp
  have y3 : w0.cell? ⟨w.heap.size, 3, none⟩ = some (.int .i64 0) := by rw [hw0]; simp [go_sem]
  clear hw0
  go_enter Tryd.func26, Tryd.ntmps26
  go_upto_region 1 with fail
  rw [← HW.out]
  go_wp2_with fail
  go_ret
  exact ⟨rfl, B0.out.alloc B0.out.size _⟩
set_option maxHeartbeats 1000000 in
set_option maxRecDepth 20000 in
theorem srain_one11 (d f l r p : Int) (PP R : List UInt8) (w : World) (hr : r = 1) (hp : p = 1) (hPP : PP.length ≤ 200) (hR : R = [114, 97, 105, 110] ++ [32, 105, 110, 32] ++ PP ++ [32] ++ [112, 108, 97, 99, 101])
    (FD : Hid (∀ X, Calls Tryd.prog 33 #[.int .i64 p] X fun e w' => e = .returned (.string ⟨PP.toArray⟩) ∧ Below X.heap.size X w')) :
    Calls Tryd.prog 26 #[.agg #[.int .i64 d, .int .i64 f, .int .i64 l, .int .i64 r, .int .i64 p], .int .i64 1] w fun e w' => e = .returned (.string ⟨R.toArray⟩) ∧ Below w.heap.size w w' := by
  obtain ⟨A0, hA0⟩ : ∃ A, A = ([114, 97, 105, 110] : List UInt8) ++ [32, 105, 110, 32] := ⟨_, rfl⟩
  have lA0 : A0.length = 4 + 4 := by rw [hA0]; simp <;> omega
  have eA0 : (⟨#[114, 97, 105, 110]⟩ : ByteArray) ++ ⟨#[32, 105, 110, 32]⟩ = ⟨A0.toArray⟩ := by rw [hA0]; exact cat [114, 97, 105, 110] [32, 105, 110, 32]
  have uA0 : ¬ 9223372036854775807 < 4 + 4 := by omega
  obtain ⟨A1, hA1⟩ : ∃ A, A = A0 ++ PP := ⟨_, rfl⟩
  have lA1 : A1.length = A0.length + PP.length := by rw [hA1]; simp <;> omega
  have eA1 : (⟨A0.toArray⟩ : ByteArray) ++ ⟨PP.toArray⟩ = ⟨A1.toArray⟩ := by rw [hA1]; exact cat A0 PP
  have uA1 : ¬ 9223372036854775807 < A0.length + PP.length := by omega
  obtain ⟨A2, hA2⟩ : ∃ A, A = A1 ++ [32] := ⟨_, rfl⟩
  have lA2 : A2.length = A1.length + 1 := by rw [hA2]; simp <;> omega
  have eA2 : (⟨A1.toArray⟩ : ByteArray) ++ ⟨#[32]⟩ = ⟨A2.toArray⟩ := by rw [hA2]; exact cat A1 [32]
  have uA2 : ¬ 9223372036854775807 < A1.length + 1 := by omega
  obtain ⟨A3, hA3⟩ : ∃ A, A = A2 ++ [112, 108, 97, 99, 101] := ⟨_, rfl⟩
  have lA3 : A3.length = A2.length + 5 := by rw [hA3]; simp <;> omega
  have eA3 : (⟨A2.toArray⟩ : ByteArray) ++ ⟨#[112, 108, 97, 99, 101]⟩ = ⟨A3.toArray⟩ := by rw [hA3]; exact cat A2 [112, 108, 97, 99, 101]
  have uA3 : ¬ 9223372036854775807 < A2.length + 5 := by omega
  have hRR : R = A3 := by rw [hR, hA3, hA2, hA1, hA0]
  subst hRR
  clear hR hA0 hA1 hA2 hA3 lA0 lA1 lA2 lA3
  subst r
  subst p
  obtain ⟨w0, hw0⟩ : ∃ w0, w0 = w.alloc (.cells #[.int .i64 d, .int .i64 f, .int .i64 l, .int .i64 1, .int .i64 1] 23) := ⟨_, rfl⟩
  have HW : Hid (w0 = w.alloc (.cells #[.int .i64 d, .int .i64 f, .int .i64 l, .int .i64 1, .int .i64 1] 23)) := hw0
  have B0 : Hid (Below w.heap.size w w0) := (by show Below _ _ _; rw [hw0]; exact (Below.refl _ _).alloc (Nat.le_refl _) _)
  have z0 : w.heap.size < w0.heap.size := by rw [hw0]; simp
  have y3 : w0.cell? ⟨w.heap.size, 3, none⟩ = some (.int .i64 1) := by rw [hw0]; simp [go_sem]
  have y4 : w0.cell? ⟨w.heap.size, 4, none⟩ = some (.int .i64 1) := by rw [hw0]; simp [go_sem]
  clear hw0
  go_enter Tryd.func26, Tryd.ntmps26
  go_upto_region 1 with fail
  rw [← HW.out]
  clear HW
  go_upto_region 4 with fail
  obtain ⟨v0, hv0⟩ : ∃ x, x = w0.alloc (Obj.cells #[.string ⟨#[]⟩, .string ⟨#[114, 97, 105, 110]⟩, .string ⟨#[115, 110, 111, 119]⟩, .string ⟨#[104, 97, 105, 108]⟩, .string ⟨#[82, 101, 103, 101, 110]⟩, .string ⟨#[83, 99, 104, 110, 101, 101]⟩, .string ⟨#[72, 97, 103, 101, 108]⟩, .string ⟨#[100, 101, 115, 122, 99, 122]⟩, .string ⟨#[197, 155, 110, 105, 101, 103]⟩, .string ⟨#[103, 114, 97, 100]⟩] 9) := ⟨_, rfl⟩
  rw [← hv0]
  have a3_0 := cell_al2 (ob := (Obj.cells #[.string ⟨#[]⟩, .string ⟨#[114, 97, 105, 110]⟩, .string ⟨#[115, 110, 111, 119]⟩, .string ⟨#[104, 97, 105, 108]⟩, .string ⟨#[82, 101, 103, 101, 110]⟩, .string ⟨#[83, 99, 104, 110, 101, 101]⟩, .string ⟨#[72, 97, 103, 101, 108]⟩, .string ⟨#[100, 101, 115, 122, 99, 122]⟩, .string ⟨#[197, 155, 110, 105, 101, 103]⟩, .string ⟨#[103, 114, 97, 100]⟩] 9)) y3
  have a4_0 := cell_al2 (ob := (Obj.cells #[.string ⟨#[]⟩, .string ⟨#[114, 97, 105, 110]⟩, .string ⟨#[115, 110, 111, 119]⟩, .string ⟨#[104, 97, 105, 108]⟩, .string ⟨#[82, 101, 103, 101, 110]⟩, .string ⟨#[83, 99, 104, 110, 101, 101]⟩, .string ⟨#[72, 97, 103, 101, 108]⟩, .string ⟨#[100, 101, 115, 122, 99, 122]⟩, .string ⟨#[197, 155, 110, 105, 101, 103]⟩, .string ⟨#[103, 114, 97, 100]⟩] 9)) y4
  have C0 : Hid (Below w.heap.size w (w0.alloc (Obj.cells #[.string ⟨#[]⟩, .string ⟨#[114, 97, 105, 110]⟩, .string ⟨#[115, 110, 111, 119]⟩, .string ⟨#[104, 97, 105, 108]⟩, .string ⟨#[82, 101, 103, 101, 110]⟩, .string ⟨#[83, 99, 104, 110, 101, 101]⟩, .string ⟨#[72, 97, 103, 101, 108]⟩, .string ⟨#[100, 101, 115, 122, 99, 122]⟩, .string ⟨#[197, 155, 110, 105, 101, 103]⟩, .string ⟨#[103, 114, 97, 100]⟩] 9))) := B0.out.alloc B0.out.size _
  rw [← hv0] at a3_0 a4_0 C0
  clear hv0 y3 y4 B0
  go_upto_region 5 with fail
  obtain ⟨v1, hv1⟩ : ∃ x, x = v0.alloc (Obj.cells #[.string ⟨#[]⟩, .string ⟨#[32, 105, 110, 32]⟩, .string ⟨#[32, 97, 110, 32]⟩, .string ⟨#[32, 119, 32]⟩] 9) := ⟨_, rfl⟩
  rw [← hv1]
  have a3_1 := cell_al2 (ob := (Obj.cells #[.string ⟨#[]⟩, .string ⟨#[32, 105, 110, 32]⟩, .string ⟨#[32, 97, 110, 32]⟩, .string ⟨#[32, 119, 32]⟩] 9)) a3_0
  have a4_1 := cell_al2 (ob := (Obj.cells #[.string ⟨#[]⟩, .string ⟨#[32, 105, 110, 32]⟩, .string ⟨#[32, 97, 110, 32]⟩, .string ⟨#[32, 119, 32]⟩] 9)) a4_0
  have C1 : Hid (Below w.heap.size w (v0.alloc (Obj.cells #[.string ⟨#[]⟩, .string ⟨#[32, 105, 110, 32]⟩, .string ⟨#[32, 97, 110, 32]⟩, .string ⟨#[32, 119, 32]⟩] 9))) := C0.out.alloc C0.out.size _
  rw [← hv1] at a3_1 a4_1 C1
  clear hv1 a3_0 a4_0 C0
  go_upto_region 6 with fail
  obtain ⟨v2, hv2⟩ : ∃ x, x = v1.alloc (Obj.cells #[.string ⟨#[]⟩, .string ⟨#[112, 108, 97, 99, 101, 115]⟩, .string ⟨#[79, 114, 116, 101, 110]⟩, .string ⟨#[109, 105, 101, 106, 115, 99, 97, 99, 104]⟩] 9) := ⟨_, rfl⟩
  rw [← hv2]
  have a3_2 := cell_al2 (ob := (Obj.cells #[.string ⟨#[]⟩, .string ⟨#[112, 108, 97, 99, 101, 115]⟩, .string ⟨#[79, 114, 116, 101, 110]⟩, .string ⟨#[109, 105, 101, 106, 115, 99, 97, 99, 104]⟩] 9)) a3_1
  have a4_2 := cell_al2 (ob := (Obj.cells #[.string ⟨#[]⟩, .string ⟨#[112, 108, 97, 99, 101, 115]⟩, .string ⟨#[79, 114, 116, 101, 110]⟩, .string ⟨#[109, 105, 101, 106, 115, 99, 97, 99, 104]⟩] 9)) a4_1
  have C2 : Hid (Below w.heap.size w (v1.alloc (Obj.cells #[.string ⟨#[]⟩, .string ⟨#[112, 108, 97, 99, 101, 115]⟩, .string ⟨#[79, 114, 116, 101, 110]⟩, .string ⟨#[109, 105, 101, 106, 115, 99, 97, 99, 104]⟩] 9))) := C1.out.alloc C1.out.size _
  rw [← hv2] at a3_2 a4_2 C2
  clear hv2 a3_1 a4_1 C1
  go_upto_region 8 with fail
  obtain ⟨v3, hv3⟩ : ∃ x, x = v2.alloc (Obj.cells #[.string ⟨#[]⟩, .string ⟨#[112, 108, 97, 99, 101]⟩, .string ⟨#[79, 114, 116]⟩, .string ⟨#[109, 105, 101, 106, 115, 99, 117]⟩] 9) := ⟨_, rfl⟩
  rw [← hv3]
  have a3_3 := cell_al2 (ob := (Obj.cells #[.string ⟨#[]⟩, .string ⟨#[112, 108, 97, 99, 101]⟩, .string ⟨#[79, 114, 116]⟩, .string ⟨#[109, 105, 101, 106, 115, 99, 117]⟩] 9)) a3_2
  have a4_3 := cell_al2 (ob := (Obj.cells #[.string ⟨#[]⟩, .string ⟨#[112, 108, 97, 99, 101]⟩, .string ⟨#[79, 114, 116]⟩, .string ⟨#[109, 105, 101, 106, 115, 99, 117]⟩] 9)) a4_2
  have C3 : Hid (Below w.heap.size w (v2.alloc (Obj.cells #[.string ⟨#[]⟩, .string ⟨#[112, 108, 97, 99, 101]⟩, .string ⟨#[79, 114, 116]⟩, .string ⟨#[109, 105, 101, 106, 115, 99, 117]⟩] 9))) := C2.out.alloc C2.out.size _
  rw [← hv3] at a3_3 a4_3 C3
  clear hv3 a3_2 a4_2 C2
  go_wp2_with fail
  refine (FD.out _).mono ?_
  rintro e w2 ⟨rfl, hb2⟩
  have BF : Hid (Below w.heap.size w w2) := C3.out.trans (hb2.mono C3.out.size)
  clear hb2
  go_wp2_with fail
  go_ret
  exact ⟨rfl, BF.out⟩
set_option maxHeartbeats 1000000 in
set_option maxRecDepth 20000 in
theorem srain_one12 (d f l r p : Int) (PP R : List UInt8) (w : World) (hr : r = 2) (hp : p = 1) (hPP : PP.length ≤ 200) (hR : R = [115, 110, 111, 119] ++ [32, 105, 110, 32] ++ PP ++ [32] ++ [112, 108, 97, 99, 101])
    (FD : Hid (∀ X, Calls Tryd.prog 33 #[.int .i64 p] X fun e w' => e = .returned (.string ⟨PP.toArray⟩) ∧ Below X.heap.size X w')) :
    Calls Tryd.prog 26 #[.agg #[.int .i64 d, .int .i64 f, .int .i64 l, .int .i64 r, .int .i64 p], .int .i64 1] w fun e w' => e = .returned (.string ⟨R.toArray⟩) ∧ Below w.heap.size w w' := by
  obtain ⟨A0, hA0⟩ : ∃ A, A = ([115, 110, 111, 119] : List UInt8) ++ [32, 105, 110, 32] := ⟨_, rfl⟩
  have lA0 : A0.length = 4 + 4 := by rw [hA0]; simp <;> omega
  have eA0 : (⟨#[115, 110, 111, 119]⟩ : ByteArray) ++ ⟨#[32, 105, 110, 32]⟩ = ⟨A0.toArray⟩ := by rw [hA0]; exact cat [115, 110, 111, 119] [32, 105, 110, 32]
  have uA0 : ¬ 9223372036854775807 < 4 + 4 := by omega
  obtain ⟨A1, hA1⟩ : ∃ A, A = A0 ++ PP := ⟨_, rfl⟩
  have lA1 : A1.length = A0.length + PP.length := by rw [hA1]; simp <;> omega
  have eA1 : (⟨A0.toArray⟩ : ByteArray) ++ ⟨PP.toArray⟩ = ⟨A1.toArray⟩ := by rw [hA1]; exact cat A0 PP
  have uA1 : ¬ 9223372036854775807 < A0.length + PP.length := by omega
  obtain ⟨A2, hA2⟩ : ∃ A, A = A1 ++ [32] := ⟨_, rfl⟩
  have lA2 : A2.length = A1.length + 1 := by rw [hA2]; simp <;> omega
  have eA2 : (⟨A1.toArray⟩ : ByteArray) ++ ⟨#[32]⟩ = ⟨A2.toArray⟩ := by rw [hA2]; exact cat A1 [32]
  have uA2 : ¬ 9223372036854775807 < A1.length + 1 := by omega
  obtain ⟨A3, hA3⟩ : ∃ A, A = A2 ++ [112, 108, 97, 99, 101] := ⟨_, rfl⟩
  have lA3 : A3.length = A2.length + 5 := by rw [hA3]; simp <;> omega
  have eA3 : (⟨A2.toArray⟩ : ByteArray) ++ ⟨#[112, 108, 97, 99, 101]⟩ = ⟨A3.toArray⟩ := by rw [hA3]; exact cat A2 [112, 108, 97, 99, 101]
  have uA3 : ¬ 9223372036854775807 < A2.length + 5 := by omega
  have hRR : R = A3 := by rw [hR, hA3, hA2, hA1, hA0]
  subst hRR
  clear hR hA0 hA1 hA2 hA3 lA0 lA1 lA2 lA3
  subst r
  subst p
  obtain ⟨w0, hw0⟩ : ∃ w0, w0 = w.alloc (.cells #[.int .i64 d, .int .i64 f, .int .i64 l, .int .i64 2, .int .i64 1] 23) := ⟨_, rfl⟩
  have HW : Hid (w0 = w.alloc (.cells #[.int .i64 d, .int .i64 f, .int .i64 l, .int .i64 2, .int .i64 1] 23)) := hw0
  have B0 : Hid (Below w.heap.size w w0) := (by show Below _ _ _; rw [hw0]; exact (Below.refl _ _).alloc (Nat.le_refl _) _)
  have z0 : w.heap.size < w0.heap.size := by rw [hw0]; simp
  have y3 : w0.cell? ⟨w.heap.size, 3, none⟩ = some (.int .i64 2) := by rw [hw0]; simp [go_sem]
  have y4 : w0.cell? ⟨w.heap.size, 4, none⟩ = some (.int .i64 1) := by rw [hw0]; simp [go_sem]
  clear hw0
  go_enter Tryd.func26, Tryd.ntmps26
  go_upto_region 1 with fail
  rw [← HW.out]
  clear HW
  go_upto_region 4 with fail
  obtain ⟨v0, hv0⟩ : ∃ x, x = w0.alloc (Obj.cells #[.string ⟨#[]⟩, .string ⟨#[114, 97, 105, 110]⟩, .string ⟨#[115, 110, 111, 119]⟩, .string ⟨#[104, 97, 105, 108]⟩, .string ⟨#[82, 101, 103, 101, 110]⟩, .string ⟨#[83, 99, 104, 110, 101, 101]⟩, .string ⟨#[72, 97, 103, 101, 108]⟩, .string ⟨#[100, 101, 115, 122, 99, 122]⟩, .string ⟨#[197, 155, 110, 105, 101, 103]⟩, .string ⟨#[103, 114, 97, 100]⟩] 9) := ⟨_, rfl⟩
  rw [← hv0]
  have a3_0 := cell_al2 (ob := (Obj.cells #[.string ⟨#[]⟩, .string ⟨#[114, 97, 105, 110]⟩, .string ⟨#[115, 110, 111, 119]⟩, .string ⟨#[104, 97, 105, 108]⟩, .string ⟨#[82, 101, 103, 101, 110]⟩, .string ⟨#[83, 99, 104, 110, 101, 101]⟩, .string ⟨#[72, 97, 103, 101, 108]⟩, .string ⟨#[100, 101, 115, 122, 99, 122]⟩, .string ⟨#[197, 155, 110, 105, 101, 103]⟩, .string ⟨#[103, 114, 97, 100]⟩] 9)) y3
  have a4_0 := cell_al2 (ob := (Obj.cells #[.string ⟨#[]⟩, .string ⟨#[114, 97, 105, 110]⟩, .string ⟨#[115, 110, 111, 119]⟩, .string ⟨#[104, 97, 105, 108]⟩, .string ⟨#[82, 101, 103, 101, 110]⟩, .string ⟨#[83, 99, 104, 110, 101, 101]⟩, .string ⟨#[72, 97, 103, 101, 108]⟩, .string ⟨#[100, 101, 115, 122, 99, 122]⟩, .string ⟨#[197, 155, 110, 105, 101, 103]⟩, .string ⟨#[103, 114, 97, 100]⟩] 9)) y4
  have C0 : Hid (Below w.heap.size w (w0.alloc (Obj.cells #[.string ⟨#[]⟩, .string ⟨#[114, 97, 105, 110]⟩, .string ⟨#[115, 110, 111, 119]⟩, .string ⟨#[104, 97, 105, 108]⟩, .string ⟨#[82, 101, 103, 101, 110]⟩, .string ⟨#[83, 99, 104, 110, 101, 101]⟩, .string ⟨#[72, 97, 103, 101, 108]⟩, .string ⟨#[100, 101, 115, 122, 99, 122]⟩, .string ⟨#[197, 155, 110, 105, 101, 103]⟩, .string ⟨#[103, 114, 97, 100]⟩] 9))) := B0.out.alloc B0.out.size _
  rw [← hv0] at a3_0 a4_0 C0
  clear hv0 y3 y4 B0
  go_upto_region 5 with fail
  obtain ⟨v1, hv1⟩ : ∃ x, x = v0.alloc (Obj.cells #[.string ⟨#[]⟩, .string ⟨#[32, 105, 110, 32]⟩, .string ⟨#[32, 97, 110, 32]⟩, .string ⟨#[32, 119, 32]⟩] 9) := ⟨_, rfl⟩
  rw [← hv1]
  have a3_1 := cell_al2 (ob := (Obj.cells #[.string ⟨#[]⟩, .string ⟨#[32, 105, 110, 32]⟩, .string ⟨#[32, 97, 110, 32]⟩, .string ⟨#[32, 119, 32]⟩] 9)) a3_0
  have a4_1 := cell_al2 (ob := (Obj.cells #[.string ⟨#[]⟩, .string ⟨#[32, 105, 110, 32]⟩, .string ⟨#[32, 97, 110, 32]⟩, .string ⟨#[32, 119, 32]⟩] 9)) a4_0
  have C1 : Hid (Below w.heap.size w (v0.alloc (Obj.cells #[.string ⟨#[]⟩, .string ⟨#[32, 105, 110, 32]⟩, .string ⟨#[32, 97, 110, 32]⟩, .string ⟨#[32, 119, 32]⟩] 9))) := C0.out.alloc C0.out.size _
  rw [← hv1] at a3_1 a4_1 C1
  clear hv1 a3_0 a4_0 C0
  go_upto_region 6 with fail
  obtain ⟨v2, hv2⟩ : ∃ x, x = v1.alloc (Obj.cells #[.string ⟨#[]⟩, .string ⟨#[112, 108, 97, 99, 101, 115]⟩, .string ⟨#[79, 114, 116, 101, 110]⟩, .string ⟨#[109, 105, 101, 106, 115, 99, 97, 99, 104]⟩] 9) := ⟨_, rfl⟩
  rw [← hv2]
  have a3_2 := cell_al2 (ob := (Obj.cells #[.string ⟨#[]⟩, .string ⟨#[112, 108, 97, 99, 101, 115]⟩, .string ⟨#[79, 114, 116, 101, 110]⟩, .string ⟨#[109, 105, 101, 106, 115, 99, 97, 99, 104]⟩] 9)) a3_1
  have a4_2 := cell_al2 (ob := (Obj.cells #[.string ⟨#[]⟩, .string ⟨#[112, 108, 97, 99, 101, 115]⟩, .string ⟨#[79, 114, 116, 101, 110]⟩, .string ⟨#[109, 105, 101, 106, 115, 99, 97, 99, 104]⟩] 9)) a4_1
  have C2 : Hid (Below w.heap.size w (v1.alloc (Obj.cells #[.string ⟨#[]⟩, .string ⟨#[112, 108, 97, 99, 101, 115]⟩, .string ⟨#[79, 114, 116, 101, 110]⟩, .string ⟨#[109, 105, 101, 106, 115, 99, 97, 99, 104]⟩] 9))) := C1.out.alloc C1.out.size _
  rw [← hv2] at a3_2 a4_2 C2
  clear hv2 a3_1 a4_1 C1
  go_upto_region 8 with fail
  obtain ⟨v3, hv3⟩ : ∃ x, x = v2.alloc (Obj.cells #[.string ⟨#[]⟩, .string ⟨#[112, 108, 97, 99, 101]⟩, .string ⟨#[79, 114, 116]⟩, .string ⟨#[109, 105, 101, 106, 115, 99, 117]⟩] 9) := ⟨_, rfl⟩
  rw [← hv3]
  have a3_3 := cell_al2 (ob := (Obj.cells #[.string ⟨#[]⟩, .string ⟨#[112, 108, 97, 99, 101]⟩, .string ⟨#[79, 114, 116]⟩, .string ⟨#[109, 105, 101, 106, 115, 99, 117]⟩] 9)) a3_2
  have a4_3 := cell_al2 (ob := (Obj.cells #[.string ⟨#[]⟩, .string ⟨#[112, 108, 97, 99, 101]⟩, .string ⟨#[79, 114, 116]⟩, .string ⟨#[109, 105, 101, 106, 115, 99, 117]⟩] 9)) a4_2
  have C3 : Hid (Below w.heap.size w (v2.alloc (Obj.cells #[.string ⟨#[]⟩, .string ⟨#[112, 108, 97, 99, 101]⟩, .string ⟨#[79, 114, 116]⟩, .string ⟨#[109, 105, 101, 106, 115, 99, 117]⟩] 9))) := C2.out.alloc C2.out.size _
  rw [← hv3] at a3_3 a4_3 C3
  clear hv3 a3_2 a4_2 C2
  go_wp2_with fail
  refine (FD.out _).mono ?_
  rintro e w2 ⟨rfl, hb2⟩
  have BF : Hid (Below w.heap.size w w2) := C3.out.trans (hb2.mono C3.out.size)
  clear hb2
  go_wp2_with fail
  go_ret
  exact ⟨rfl, BF.out⟩
set_option maxHeartbeats 1000000 in
set_option maxRecDepth 20000 in
theorem srain_one13 (d f l r p : Int) (PP R : List UInt8) (w : World) (hr : r = 3) (hp : p = 1) (hPP : PP.length ≤ 200) (hR : R = [104, 97, 105, 108] ++ [32, 105, 110, 32] ++ PP ++ [32] ++ [112, 108, 97, 99, 101])
    (FD : Hid (∀ X, Calls Tryd.prog 33 #[.int .i64 p] X fun e w' => e = .returned (.string ⟨PP.toArray⟩) ∧ Below X.heap.size X w')) :
    Calls Tryd.prog 26 #[.agg #[.int .i64 d, .int .i64 f, .int .i64 l, .int .i64 r, .int .i64 p], .int .i64 1] w fun e w' => e = .returned (.string ⟨R.toArray⟩) ∧ Below w.heap.size w w' := by
  obtain ⟨A0, hA0⟩ : ∃ A, A = ([104, 97, 105, 108] : List UInt8) ++ [32, 105, 110, 32] := ⟨_, rfl⟩
  have lA0 : A0.length = 4 + 4 := by rw [hA0]; simp <;> omega
  have eA0 : (⟨#[104, 97, 105, 108]⟩ : ByteArray) ++ ⟨#[32, 105, 110, 32]⟩ = ⟨A0.toArray⟩ := by rw [hA0]; exact cat [104, 97, 105, 108] [32, 105, 110, 32]
  have uA0 : ¬ 9223372036854775807 < 4 + 4 := by omega
  obtain ⟨A1, hA1⟩ : ∃ A, A = A0 ++ PP := ⟨_, rfl⟩
  have lA1 : A1.length = A0.length + PP.length := by rw [hA1]; simp <;> omega
  have eA1 : (⟨A0.toArray⟩ : ByteArray) ++ ⟨PP.toArray⟩ = ⟨A1.toArray⟩ := by rw [hA1]; exact cat A0 PP
  have uA1 : ¬ 9223372036854775807 < A0.length + PP.length := by omega
  obtain ⟨A2, hA2⟩ : ∃ A, A = A1 ++ [32] := ⟨_, rfl⟩
  have lA2 : A2.length = A1.length + 1 := by rw [hA2]; simp <;> omega
  have eA2 : (⟨A1.toArray⟩ : ByteArray) ++ ⟨#[32]⟩ = ⟨A2.toArray⟩ := by rw [hA2]; exact cat A1 [32]
  have uA2 : ¬ 9223372036854775807 < A1.length + 1 := by omega
  obtain ⟨A3, hA3⟩ : ∃ A, A = A2 ++ [112, 108, 97, 99, 101] := ⟨_, rfl⟩
  have lA3 : A3.length = A2.length + 5 := by rw [hA3]; simp <;> omega
  have eA3 : (⟨A2.toArray⟩ : ByteArray) ++ ⟨#[112, 108, 97, 99, 101]⟩ = ⟨A3.toArray⟩ := by rw [hA3]; exact cat A2 [112, 108, 97, 99, 101]
  have uA3 : ¬ 9223372036854775807 < A2.length + 5 := by omega
  have hRR : R = A3 := by rw [hR, hA3, hA2, hA1, hA0]
  subst hRR
  clear hR hA0 hA1 hA2 hA3 lA0 lA1 lA2 lA3
  subst r
  subst p
  obtain ⟨w0, hw0⟩ : ∃ w0, w0 = w.alloc (.cells #[.int .i64 d, .int .i64 f, .int .i64 l, .int .i64 3, .int .i64 1] 23) := ⟨_, rfl⟩
  have HW : Hid (w0 = w.alloc (.cells #[.int .i64 d, .int .i64 f, .int .i64 l, .int .i64 3, .int .i64 1] 23)) := hw0
  have B0 : Hid (Below w.heap.size w w0) := (by show Below _ _ _; rw [hw0]; exact (Below.refl _ _).alloc (Nat.le_refl _) _)
  have z0 : w.heap.size < w0.heap.size := by rw [hw0]; simp
  have y3 : w0.cell? ⟨w.heap.size, 3, none⟩ = some (.int .i64 3) := by rw [hw0]; simp [go_sem]
  have y4 : w0.cell? ⟨w.heap.size, 4, none⟩ = some (.int .i64 1) := by rw [hw0]; simp [go_sem]
  clear hw0
  go_enter Tryd.func26, Tryd.ntmps26
  go_upto_region 1 with fail
  rw [← HW.out]
  clear HW
  go_upto_region 4 with fail
  obtain ⟨v0, hv0⟩ : ∃ x, x = w0.alloc (Obj.cells #[.string ⟨#[]⟩, .string ⟨#[114, 97, 105, 110]⟩, .string ⟨#[115, 110, 111, 119]⟩, .string ⟨#[104, 97, 105, 108]⟩, .string ⟨#[82, 101, 103, 101, 110]⟩, .string ⟨#[83, 99, 104, 110, 101, 101]⟩, .string ⟨#[72, 97, 103, 101, 108]⟩, .string ⟨#[100, 101, 115, 122, 99, 122]⟩, .string ⟨#[197, 155, 110, 105, 101, 103]⟩, .string ⟨#[103, 114, 97, 100]⟩] 9) := ⟨_, rfl⟩
  rw [← hv0]
  have a3_0 := cell_al2 (ob := (Obj.cells #[.string ⟨#[]⟩, .string ⟨#[114, 97, 105, 110]⟩, .string ⟨#[115, 110, 111, 119]⟩, .string ⟨#[104, 97, 105, 108]⟩, .string ⟨#[82, 101, 103, 101, 110]⟩, .string ⟨#[83, 99, 104, 110, 101, 101]⟩, .string ⟨#[72, 97, 103, 101, 108]⟩, .string ⟨#[100, 101, 115, 122, 99, 122]⟩, .string ⟨#[197, 155, 110, 105, 101, 103]⟩, .string ⟨#[103, 114, 97, 100]⟩] 9)) y3
  have a4_0 := cell_al2 (ob := (Obj.cells #[.string ⟨#[]⟩, .string ⟨#[114, 97, 105, 110]⟩, .string ⟨#[115, 110, 111, 119]⟩, .string ⟨#[104, 97, 105, 108]⟩, .string ⟨#[82, 101, 103, 101, 110]⟩, .string ⟨#[83, 99, 104, 110, 101, 101]⟩, .string ⟨#[72, 97, 103, 101, 108]⟩, .string ⟨#[100, 101, 115, 122, 99, 122]⟩, .string ⟨#[197, 155, 110, 105, 101, 103]⟩, .string ⟨#[103, 114, 97, 100]⟩] 9)) y4
  have C0 : Hid (Below w.heap.size w (w0.alloc (Obj.cells #[.string ⟨#[]⟩, .string ⟨#[114, 97, 105, 110]⟩, .string ⟨#[115, 110, 111, 119]⟩, .string ⟨#[104, 97, 105, 108]⟩, .string ⟨#[82, 101, 103, 101, 110]⟩, .string ⟨#[83, 99, 104, 110, 101, 101]⟩, .string ⟨#[72, 97, 103, 101, 108]⟩, .string ⟨#[100, 101, 115, 122, 99, 122]⟩, .string ⟨#[197, 155, 110, 105, 101, 103]⟩, .string ⟨#[103, 114, 97, 100]⟩] 9))) := B0.out.alloc B0.out.size _
  rw [← hv0] at a3_0 a4_0 C0
  clear hv0 y3 y4 B0
  go_upto_region 5 with fail
  obtain ⟨v1, hv1⟩ : ∃ x, x = v0.alloc (Obj.cells #[.string ⟨#[]⟩, .string ⟨#[32, 105, 110, 32]⟩, .string ⟨#[32, 97, 110, 32]⟩, .string ⟨#[32, 119, 32]⟩] 9) := ⟨_, rfl⟩
  rw [← hv1]
  have a3_1 := cell_al2 (ob := (Obj.cells #[.string ⟨#[]⟩, .string ⟨#[32, 105, 110, 32]⟩, .string ⟨#[32, 97, 110, 32]⟩, .string ⟨#[32, 119, 32]⟩] 9)) a3_0
  have a4_1 := cell_al2 (ob := (Obj.cells #[.string ⟨#[]⟩, .string ⟨#[32, 105, 110, 32]⟩, .string ⟨#[32, 97, 110, 32]⟩, .string ⟨#[32, 119, 32]⟩] 9)) a4_0
  have C1 : Hid (Below w.heap.size w (v0.alloc (Obj.cells #[.string ⟨#[]⟩, .string ⟨#[32, 105, 110, 32]⟩, .string ⟨#[32, 97, 110, 32]⟩, .string ⟨#[32, 119, 32]⟩] 9))) := C0.out.alloc C0.out.size _
  rw [← hv1] at a3_1 a4_1 C1
  clear hv1 a3_0 a4_0 C0
  go_upto_region 6 with fail
  obtain ⟨v2, hv2⟩ : ∃ x, x = v1.alloc (Obj.cells #[.string ⟨#[]⟩, .string ⟨#[112, 108, 97, 99, 101, 115]⟩, .string ⟨#[79, 114, 116, 101, 110]⟩, .string ⟨#[109, 105, 101, 106, 115, 99, 97, 99, 104]⟩] 9) := ⟨_, rfl⟩
  rw [← hv2]
  have a3_2 := cell_al2 (ob := (Obj.cells #[.string ⟨#[]⟩, .string ⟨#[112, 108, 97, 99, 101, 115]⟩, .string ⟨#[79, 114, 116, 101, 110]⟩, .string ⟨#[109, 105, 101, 106, 115, 99, 97, 99, 104]⟩] 9)) a3_1
  have a4_2 := cell_al2 (ob := (Obj.cells #[.string ⟨#[]⟩, .string ⟨#[112, 108, 97, 99, 101, 115]⟩, .string ⟨#[79, 114, 116, 101, 110]⟩, .string ⟨#[109, 105, 101, 106, 115, 99, 97, 99, 104]⟩] 9)) a4_1
  have C2 : Hid (Below w.heap.size w (v1.alloc (Obj.cells #[.string ⟨#[]⟩, .string ⟨#[112, 108, 97, 99, 101, 115]⟩, .string ⟨#[79, 114, 116, 101, 110]⟩, .string ⟨#[109, 105, 101, 106, 115, 99, 97, 99, 104]⟩] 9))) := C1.out.alloc C1.out.size _
  rw [← hv2] at a3_2 a4_2 C2
  clear hv2 a3_1 a4_1 C1
  go_upto_region 8 with fail
  obtain ⟨v3, hv3⟩ : ∃ x, x = v2.alloc (Obj.cells #[.string ⟨#[]⟩, .string ⟨#[112, 108, 97, 99, 101]⟩, .string ⟨#[79, 114, 116]⟩, .string ⟨#[109, 105, 101, 106, 115, 99, 117]⟩] 9) := ⟨_, rfl⟩
  rw [← hv3]
  have a3_3 := cell_al2 (ob := (Obj.cells #[.string ⟨#[]⟩, .string ⟨#[112, 108, 97, 99, 101]⟩, .string ⟨#[79, 114, 116]⟩, .string ⟨#[109, 105, 101, 106, 115, 99, 117]⟩] 9)) a3_2
  have a4_3 := cell_al2 (ob := (Obj.cells #[.string ⟨#[]⟩, .string ⟨#[112, 108, 97, 99, 101]⟩, .string ⟨#[79, 114, 116]⟩, .string ⟨#[109, 105, 101, 106, 115, 99, 117]⟩] 9)) a4_2
  have C3 : Hid (Below w.heap.size w (v2.alloc (Obj.cells #[.string ⟨#[]⟩, .string ⟨#[112, 108, 97, 99, 101]⟩, .string ⟨#[79, 114, 116]⟩, .string ⟨#[109, 105, 101, 106, 115, 99, 117]⟩] 9))) := C2.out.alloc C2.out.size _
  rw [← hv3] at a3_3 a4_3 C3
  clear hv3 a3_2 a4_2 C2
  go_wp2_with fail
  refine (FD.out _).mono ?_
  rintro e w2 ⟨rfl, hb2⟩
  have BF : Hid (Below w.heap.size w w2) := C3.out.trans (hb2.mono C3.out.size)
  clear hb2
  go_wp2_with fail
  go_ret
  exact ⟨rfl, BF.out⟩
set_option maxHeartbeats 1000000 in
set_option maxRecDepth 20000 in
theorem srain_more11 (d f l r p : Int) (PP R : List UInt8) (w : World) (hr : r = 1) (hp : p ≠ 1) (hPP : PP.length ≤ 200) (hR : R = [114, 97, 105, 110] ++ [32, 105, 110, 32] ++ PP ++ [32] ++ [112, 108, 97, 99, 101, 115])
    (FD : Hid (∀ X, Calls Tryd.prog 33 #[.int .i64 p] X fun e w' => e = .returned (.string ⟨PP.toArray⟩) ∧ Below X.heap.size X w')) :
    Calls Tryd.prog 26 #[.agg #[.int .i64 d, .int .i64 f, .int .i64 l, .int .i64 r, .int .i64 p], .int .i64 1] w fun e w' => e = .returned (.string ⟨R.toArray⟩) ∧ Below w.heap.size w w' := by
  obtain ⟨A0, hA0⟩ : ∃ A, A = ([114, 97, 105, 110] : List UInt8) ++ [32, 105, 110, 32] := ⟨_, rfl⟩
  have lA0 : A0.length = 4 + 4 := by rw [hA0]; simp <;> omega
  have eA0 : (⟨#[114, 97, 105, 110]⟩ : ByteArray) ++ ⟨#[32, 105, 110, 32]⟩ = ⟨A0.toArray⟩ := by rw [hA0]; exact cat [114, 97, 105, 110] [32, 105, 110, 32]
  have uA0 : ¬ 9223372036854775807 < 4 + 4 := by omega
  obtain ⟨A1, hA1⟩ : ∃ A, A = A0 ++ PP := ⟨_, rfl⟩
  have lA1 : A1.length = A0.length + PP.length := by rw [hA1]; simp <;> omega
  have eA1 : (⟨A0.toArray⟩ : ByteArray) ++ ⟨PP.toArray⟩ = ⟨A1.toArray⟩ := by rw [hA1]; exact cat A0 PP
  have uA1 : ¬ 9223372036854775807 < A0.length + PP.length := by omega
  obtain ⟨A2, hA2⟩ : ∃ A, A = A1 ++ [32] := ⟨_, rfl⟩
  have lA2 : A2.length = A1.length + 1 := by rw [hA2]; simp <;> omega
  have eA2 : (⟨A1.toArray⟩ : ByteArray) ++ ⟨#[32]⟩ = ⟨A2.toArray⟩ := by rw [hA2]; exact cat A1 [32]
  have uA2 : ¬ 9223372036854775807 < A1.length + 1 := by omega
  obtain ⟨A3, hA3⟩ : ∃ A, A = A2 ++ [112, 108, 97, 99, 101, 115] := ⟨_, rfl⟩
  have lA3 : A3.length = A2.length + 6 := by rw [hA3]; simp <;> omega
  have eA3 : (⟨A2.toArray⟩ : ByteArray) ++ ⟨#[112, 108, 97, 99, 101, 115]⟩ = ⟨A3.toArray⟩ := by rw [hA3]; exact cat A2 [112, 108, 97, 99, 101, 115]
  have uA3 : ¬ 9223372036854775807 < A2.length + 6 := by omega
  have hRR : R = A3 := by rw [hR, hA3, hA2, hA1, hA0]
  subst hRR
  clear hR hA0 hA1 hA2 hA3 lA0 lA1 lA2 lA3
  subst r
  have pb : (p == 1) = false := by simpa using hp
  obtain ⟨w0, hw0⟩ : ∃ w0, w0 = w.alloc (.cells #[.int .i64 d, .int .i64 f, .int .i64 l, .int .i64 1, .int .i64 p] 23) := ⟨_, rfl⟩
  have HW : Hid (w0 = w.alloc (.cells #[.int .i64 d, .int .i64 f, .int .i64 l, .int .i64 1, .int .i64 p] 23)) := hw0
  have B0 : Hid (Below w.heap.size w w0) := (by show Below _ _ _; rw [hw0]; exact (Below.refl _ _).alloc (Nat.le_refl _) _)
  have z0 : w.heap.size < w0.heap.size := by rw [hw0]; simp
  have y3 : w0.cell? ⟨w.heap.size, 3, none⟩ = some (.int .i64 1) := by rw [hw0]; simp [go_sem]
  have y4 : w0.cell? ⟨w.heap.size, 4, none⟩ = some (.int .i64 p) := by rw [hw0]; simp [go_sem]
  clear hw0
  go_enter Tryd.func26, Tryd.ntmps26
  go_upto_region 1 with fail
  rw [← HW.out]
  clear HW
  go_upto_region 4 with fail
  obtain ⟨v0, hv0⟩ : ∃ x, x = w0.alloc (Obj.cells #[.string ⟨#[]⟩, .string ⟨#[114, 97, 105, 110]⟩, .string ⟨#[115, 110, 111, 119]⟩, .string ⟨#[104, 97, 105, 108]⟩, .string ⟨#[82, 101, 103, 101, 110]⟩, .string ⟨#[83, 99, 104, 110, 101, 101]⟩, .string ⟨#[72, 97, 103, 101, 108]⟩, .string ⟨#[100, 101, 115, 122, 99, 122]⟩, .string ⟨#[197, 155, 110, 105, 101, 103]⟩, .string ⟨#[103, 114, 97, 100]⟩] 9) := ⟨_, rfl⟩
  rw [← hv0]
  have a3_0 := cell_al2 (ob := (Obj.cells #[.string ⟨#[]⟩, .string ⟨#[114, 97, 105, 110]⟩, .string ⟨#[115, 110, 111, 119]⟩, .string ⟨#[104, 97, 105, 108]⟩, .string ⟨#[82, 101, 103, 101, 110]⟩, .string ⟨#[83, 99, 104, 110, 101, 101]⟩, .string ⟨#[72, 97, 103, 101, 108]⟩, .string ⟨#[100, 101, 115, 122, 99, 122]⟩, .string ⟨#[197, 155, 110, 105, 101, 103]⟩, .string ⟨#[103, 114, 97, 100]⟩] 9)) y3
  have a4_0 := cell_al2 (ob := (Obj.cells #[.string ⟨#[]⟩, .string ⟨#[114, 97, 105, 110]⟩, .string ⟨#[115, 110, 111, 119]⟩, .string ⟨#[104, 97, 105, 108]⟩, .string ⟨#[82, 101, 103, 101, 110]⟩, .string ⟨#[83, 99, 104, 110, 101, 101]⟩, .string ⟨#[72, 97, 103, 101, 108]⟩, .string ⟨#[100, 101, 115, 122, 99, 122]⟩, .string ⟨#[197, 155, 110, 105, 101, 103]⟩, .string ⟨#[103, 114, 97, 100]⟩] 9)) y4
  have C0 : Hid (Below w.heap.size w (w0.alloc (Obj.cells #[.string ⟨#[]⟩, .string ⟨#[114, 97, 105, 110]⟩, .string ⟨#[115, 110, 111, 119]⟩, .string ⟨#[104, 97, 105, 108]⟩, .string ⟨#[82, 101, 103, 101, 110]⟩, .string ⟨#[83, 99, 104, 110, 101, 101]⟩, .string ⟨#[72, 97, 103, 101, 108]⟩, .string ⟨#[100, 101, 115, 122, 99, 122]⟩, .string ⟨#[197, 155, 110, 105, 101, 103]⟩, .string ⟨#[103, 114, 97, 100]⟩] 9))) := B0.out.alloc B0.out.size _
  rw [← hv0] at a3_0 a4_0 C0
  clear hv0 y3 y4 B0
  go_upto_region 5 with fail
  obtain ⟨v1, hv1⟩ : ∃ x, x = v0.alloc (Obj.cells #[.string ⟨#[]⟩, .string ⟨#[32, 105, 110, 32]⟩, .string ⟨#[32, 97, 110, 32]⟩, .string ⟨#[32, 119, 32]⟩] 9) := ⟨_, rfl⟩
  rw [← hv1]
  have a3_1 := cell_al2 (ob := (Obj.cells #[.string ⟨#[]⟩, .string ⟨#[32, 105, 110, 32]⟩, .string ⟨#[32, 97, 110, 32]⟩, .string ⟨#[32, 119, 32]⟩] 9)) a3_0
  have a4_1 := cell_al2 (ob := (Obj.cells #[.string ⟨#[]⟩, .string ⟨#[32, 105, 110, 32]⟩, .string ⟨#[32, 97, 110, 32]⟩, .string ⟨#[32, 119, 32]⟩] 9)) a4_0
  have C1 : Hid (Below w.heap.size w (v0.alloc (Obj.cells #[.string ⟨#[]⟩, .string ⟨#[32, 105, 110, 32]⟩, .string ⟨#[32, 97, 110, 32]⟩, .string ⟨#[32, 119, 32]⟩] 9))) := C0.out.alloc C0.out.size _
  rw [← hv1] at a3_1 a4_1 C1
  clear hv1 a3_0 a4_0 C0
  go_upto_region 6 with fail
  obtain ⟨v2, hv2⟩ : ∃ x, x = v1.alloc (Obj.cells #[.string ⟨#[]⟩, .string ⟨#[112, 108, 97, 99, 101, 115]⟩, .string ⟨#[79, 114, 116, 101, 110]⟩, .string ⟨#[109, 105, 101, 106, 115, 99, 97, 99, 104]⟩] 9) := ⟨_, rfl⟩
  rw [← hv2]
  have a3_2 := cell_al2 (ob := (Obj.cells #[.string ⟨#[]⟩, .string ⟨#[112, 108, 97, 99, 101, 115]⟩, .string ⟨#[79, 114, 116, 101, 110]⟩, .string ⟨#[109, 105, 101, 106, 115, 99, 97, 99, 104]⟩] 9)) a3_1
  have a4_2 := cell_al2 (ob := (Obj.cells #[.string ⟨#[]⟩, .string ⟨#[112, 108, 97, 99, 101, 115]⟩, .string ⟨#[79, 114, 116, 101, 110]⟩, .string ⟨#[109, 105, 101, 106, 115, 99, 97, 99, 104]⟩] 9)) a4_1
  have C2 : Hid (Below w.heap.size w (v1.alloc (Obj.cells #[.string ⟨#[]⟩, .string ⟨#[112, 108, 97, 99, 101, 115]⟩, .string ⟨#[79, 114, 116, 101, 110]⟩, .string ⟨#[109, 105, 101, 106, 115, 99, 97, 99, 104]⟩] 9))) := C1.out.alloc C1.out.size _
  rw [← hv2] at a3_2 a4_2 C2
  clear hv2 a3_1 a4_1 C1
  go_wp2_with fail
  refine (FD.out _).mono ?_
  rintro e w2 ⟨rfl, hb2⟩
  have BF : Hid (Below w.heap.size w w2) := C2.out.trans (hb2.mono C2.out.size)
  clear hb2
  go_wp2_with fail
  go_ret
  exact ⟨rfl, BF.out⟩
set_option maxHeartbeats 1000000 in
set_option maxRecDepth 20000 in
theorem srain_more12 (d f l r p : Int) (PP R : List UInt8) (w : World) (hr : r = 2) (hp : p ≠ 1) (hPP : PP.length ≤ 200) (hR : R = [115, 110, 111, 119] ++ [32, 105, 110, 32] ++ PP ++ [32] ++ [112, 108, 97, 99, 101, 115])
    (FD : Hid (∀ X, Calls Tryd.prog 33 #[.int .i64 p] X fun e w' => e = .returned (.string ⟨PP.toArray⟩) ∧ Below X.heap.size X w')) :
    Calls Tryd.prog 26 #[.agg #[.int .i64 d, .int .i64 f, .int .i64 l, .int .i64 r, .int .i64 p], .int .i64 1] w fun e w' => e = .returned (.string ⟨R.toArray⟩) ∧ Below w.heap.size w w' := by
  obtain ⟨A0, hA0⟩ : ∃ A, A = ([115, 110, 111, 119] : List UInt8) ++ [32, 105, 110, 32] := ⟨_, rfl⟩
  have lA0 : A0.length = 4 + 4 := by rw [hA0]; simp <;> omega
  have eA0 : (⟨#[115, 110, 111, 119]⟩ : ByteArray) ++ ⟨#[32, 105, 110, 32]⟩ = ⟨A0.toArray⟩ := by rw [hA0]; exact cat [115, 110, 111, 119] [32, 105, 110, 32]
  have uA0 : ¬ 9223372036854775807 < 4 + 4 := by omega
  obtain ⟨A1, hA1⟩ : ∃ A, A = A0 ++ PP := ⟨_, rfl⟩
  have lA1 : A1.length = A0.length + PP.length := by rw [hA1]; simp <;> omega
  have eA1 : (⟨A0.toArray⟩ : ByteArray) ++ ⟨PP.toArray⟩ = ⟨A1.toArray⟩ := by rw [hA1]; exact cat A0 PP
  have uA1 : ¬ 9223372036854775807 < A0.length + PP.length := by omega
  obtain ⟨A2, hA2⟩ : ∃ A, A = A1 ++ [32] := ⟨_, rfl⟩
  have lA2 : A2.length = A1.length + 1 := by rw [hA2]; simp <;> omega
  have eA2 : (⟨A1.toArray⟩ : ByteArray) ++ ⟨#[32]⟩ = ⟨A2.toArray⟩ := by rw [hA2]; exact cat A1 [32]
  have uA2 : ¬ 9223372036854775807 < A1.length + 1 := by omega
  obtain ⟨A3, hA3⟩ : ∃ A, A = A2 ++ [112, 108, 97, 99, 101, 115] := ⟨_, rfl⟩
  have lA3 : A3.length = A2.length + 6 := by rw [hA3]; simp <;> omega
  have eA3 : (⟨A2.toArray⟩ : ByteArray) ++ ⟨#[112, 108, 97, 99, 101, 115]⟩ = ⟨A3.toArray⟩ := by rw [hA3]; exact cat A2 [112, 108, 97, 99, 101, 115]
  have uA3 : ¬ 9223372036854775807 < A2.length + 6 := by omega
  have hRR : R = A3 := by rw [hR, hA3, hA2, hA1, hA0]
  subst hRR
  clear hR hA0 hA1 hA2 hA3 lA0 lA1 lA2 lA3
  subst r
  have pb : (p == 1) = false := by simpa using hp
  obtain ⟨w0, hw0⟩ : ∃ w0, w0 = w.alloc (.cells #[.int .i64 d, .int .i64 f, .int .i64 l, .int .i64 2, .int .i64 p] 23) := ⟨_, rfl⟩
  have HW : Hid (w0 = w.alloc (.cells #[.int .i64 d, .int .i64 f, .int .i64 l, .int .i64 2, .int .i64 p] 23)) := hw0
  have B0 : Hid (Below w.heap.size w w0) := (by show Below _ _ _; rw [hw0]; exact (Below.refl _ _).alloc (Nat.le_refl _) _)
  have z0 : w.heap.size < w0.heap.size := by rw [hw0]; simp
  have y3 : w0.cell? ⟨w.heap.size, 3, none⟩ = some (.int .i64 2) := by rw [hw0]; simp [go_sem]
  have y4 : w0.cell? ⟨w.heap.size, 4, none⟩ = some (.int .i64 p) := by rw [hw0]; simp [go_sem]
  clear hw0
  go_enter Tryd.func26, Tryd.ntmps26
  go_upto_region 1 with fail
  rw [← HW.out]
  clear HW
  go_upto_region 4 with fail
  obtain ⟨v0, hv0⟩ : ∃ x, x = w0.alloc (Obj.cells #[.string ⟨#[]⟩, .string ⟨#[114, 97, 105, 110]⟩, .string ⟨#[115, 110, 111, 119]⟩, .string ⟨#[104, 97, 105, 108]⟩, .string ⟨#[82, 101, 103, 101, 110]⟩, .string ⟨#[83, 99, 104, 110, 101, 101]⟩, .string ⟨#[72, 97, 103, 101, 108]⟩, .string ⟨#[100, 101, 115, 122, 99, 122]⟩, .string ⟨#[197, 155, 110, 105, 101, 103]⟩, .string ⟨#[103, 114, 97, 100]⟩] 9) := ⟨_, rfl⟩
  rw [← hv0]
  have a3_0 := cell_al2 (ob := (Obj.cells #[.string ⟨#[]⟩, .string ⟨#[114, 97, 105, 110]⟩, .string ⟨#[115, 110, 111, 119]⟩, .string ⟨#[104, 97, 105, 108]⟩, .string ⟨#[82, 101, 103, 101, 110]⟩, .string ⟨#[83, 99, 104, 110, 101, 101]⟩, .string ⟨#[72, 97, 103, 101, 108]⟩, .string ⟨#[100, 101, 115, 122, 99, 122]⟩, .string ⟨#[197, 155, 110, 105, 101, 103]⟩, .string ⟨#[103, 114, 97, 100]⟩] 9)) y3
  have a4_0 := cell_al2 (ob := (Obj.cells #[.string ⟨#[]⟩, .string ⟨#[114, 97, 105, 110]⟩, .string ⟨#[115, 110, 111, 119]⟩, .string ⟨#[104, 97, 105, 108]⟩, .string ⟨#[82, 101, 103, 101, 110]⟩, .string ⟨#[83, 99, 104, 110, 101, 101]⟩, .string ⟨#[72, 97, 103, 101, 108]⟩, .string ⟨#[100, 101, 115, 122, 99, 122]⟩, .string ⟨#[197, 155, 110, 105, 101, 103]⟩, .string ⟨#[103, 114, 97, 100]⟩] 9)) y4
  have C0 : Hid (Below w.heap.size w (w0.alloc (Obj.cells #[.string ⟨#[]⟩, .string ⟨#[114, 97, 105, 110]⟩, .string ⟨#[115, 110, 111, 119]⟩, .string ⟨#[104, 97, 105, 108]⟩, .string ⟨#[82, 101, 103, 101, 110]⟩, .string ⟨#[83, 99, 104, 110, 101, 101]⟩, .string ⟨#[72, 97, 103, 101, 108]⟩, .string ⟨#[100, 101, 115, 122, 99, 122]⟩, .string ⟨#[197, 155, 110, 105, 101, 103]⟩, .string ⟨#[103, 114, 97, 100]⟩] 9))) := B0.out.alloc B0.out.size _
  rw [← hv0] at a3_0 a4_0 C0
  clear hv0 y3 y4 B0
  go_upto_region 5 with fail
  obtain ⟨v1, hv1⟩ : ∃ x, x = v0.alloc (Obj.cells #[.string ⟨#[]⟩, .string ⟨#[32, 105, 110, 32]⟩, .string ⟨#[32, 97, 110, 32]⟩, .string ⟨#[32, 119, 32]⟩] 9) := ⟨_, rfl⟩
  rw [← hv1]
  have a3_1 := cell_al2 (ob := (Obj.cells #[.string ⟨#[]⟩, .string ⟨#[32, 105, 110, 32]⟩, .string ⟨#[32, 97, 110, 32]⟩, .string ⟨#[32, 119, 32]⟩] 9)) a3_0
  have a4_1 := cell_al2 (ob := (Obj.cells #[.string ⟨#[]⟩, .string ⟨#[32, 105, 110, 32]⟩, .string ⟨#[32, 97, 110, 32]⟩, .string ⟨#[32, 119, 32]⟩] 9)) a4_0
  have C1 : Hid (Below w.heap.size w (v0.alloc (Obj.cells #[.string ⟨#[]⟩, .string ⟨#[32, 105, 110, 32]⟩, .string ⟨#[32, 97, 110, 32]⟩, .string ⟨#[32, 119, 32]⟩] 9))) := C0.out.alloc C0.out.size _
  rw [← hv1] at a3_1 a4_1 C1
  clear hv1 a3_0 a4_0 C0
  go_upto_region 6 with fail
  obtain ⟨v2, hv2⟩ : ∃ x, x = v1.alloc (Obj.cells #[.string ⟨#[]⟩, .string ⟨#[112, 108, 97, 99, 101, 115]⟩, .string ⟨#[79, 114, 116, 101, 110]⟩, .string ⟨#[109, 105, 101, 106, 115, 99, 97, 99, 104]⟩] 9) := ⟨_, rfl⟩
  rw [← hv2]
  have a3_2 := cell_al2 (ob := (Obj.cells #[.string ⟨#[]⟩, .string ⟨#[112, 108, 97, 99, 101, 115]⟩, .string ⟨#[79, 114, 116, 101, 110]⟩, .string ⟨#[109, 105, 101, 106, 115, 99, 97, 99, 104]⟩] 9)) a3_1
  have a4_2 := cell_al2 (ob := (Obj.cells #[.string ⟨#[]⟩, .string ⟨#[112, 108, 97, 99, 101, 115]⟩, .string ⟨#[79, 114, 116, 101, 110]⟩, .string ⟨#[109, 105, 101, 106, 115, 99, 97, 99, 104]⟩] 9)) a4_1
  have C2 : Hid (Below w.heap.size w (v1.alloc (Obj.cells #[.string ⟨#[]⟩, .string ⟨#[112, 108, 97, 99, 101, 115]⟩, .string ⟨#[79, 114, 116, 101, 110]⟩, .string ⟨#[109, 105, 101, 106, 115, 99, 97, 99, 104]⟩] 9))) := C1.out.alloc C1.out.size _
  rw [← hv2] at a3_2 a4_2 C2
  clear hv2 a3_1 a4_1 C1
  go_wp2_with fail
  refine (FD.out _).mono ?_
  rintro e w2 ⟨rfl, hb2⟩
  have BF : Hid (Below w.heap.size w w2) := C2.out.trans (hb2.mono C2.out.size)
  clear hb2
  go_wp2_with fail
  go_ret
  exact ⟨rfl, BF.out⟩
set_option maxHeartbeats 1000000 in
set_option maxRecDepth 20000 in
theorem srain_more13 (d f l r p : Int) (PP R : List UInt8) (w : World) (hr : r = 3) (hp : p ≠ 1) (hPP : PP.length ≤ 200) (hR : R = [104, 97, 105, 108] ++ [32, 105, 110, 32] ++ PP ++ [32] ++ [112, 108, 97, 99, 101, 115])
    (FD : Hid (∀ X, Calls Tryd.prog 33 #[.int .i64 p] X fun e w' => e = .returned (.string ⟨PP.toArray⟩) ∧ Below X.heap.size X w')) :
    Calls Tryd.prog 26 #[.agg #[.int .i64 d, .int .i64 f, .int .i64 l, .int .i64 r, .int .i64 p], .int .i64 1] w fun e w' => e = .returned (.string ⟨R.toArray⟩) ∧ Below w.heap.size w w' := by
  obtain ⟨A0, hA0⟩ : ∃ A, A = ([104, 97, 105, 108] : List UInt8) ++ [32, 105, 110, 32] := ⟨_, rfl⟩
  have lA0 : A0.length = 4 + 4 := by rw [hA0]; simp <;> omega
  have eA0 : (⟨#[104, 97, 105, 108]⟩ : ByteArray) ++ ⟨#[32, 105, 110, 32]⟩ = ⟨A0.toArray⟩ := by rw [hA0]; exact cat [104, 97, 105, 108] [32, 105, 110, 32]
  have uA0 : ¬ 9223372036854775807 < 4 + 4 := by omega
  obtain ⟨A1, hA1⟩ : ∃ A, A = A0 ++ PP := ⟨_, rfl⟩
  have lA1 : A1.length = A0.length + PP.length := by rw [hA1]; simp <;> omega
  have eA1 : (⟨A0.toArray⟩ : ByteArray) ++ ⟨PP.toArray⟩ = ⟨A1.toArray⟩ := by rw [hA1]; exact cat A0 PP
  have uA1 : ¬ 9223372036854775807 < A0.length + PP.length := by omega
  obtain ⟨A2, hA2⟩ : ∃ A, A = A1 ++ [32] := ⟨_, rfl⟩
  have lA2 : A2.length = A1.length + 1 := by rw [hA2]; simp <;> omega
  have eA2 : (⟨A1.toArray⟩ : ByteArray) ++ ⟨#[32]⟩ = ⟨A2.toArray⟩ := by rw [hA2]; exact cat A1 [32]
  have uA2 : ¬ 9223372036854775807 < A1.length + 1 := by omega
  obtain ⟨A3, hA3⟩ : ∃ A, A = A2 ++ [112, 108, 97, 99, 101, 115] := ⟨_, rfl⟩
  have lA3 : A3.length = A2.length + 6 := by rw [hA3]; simp <;> omega
  have eA3 : (⟨A2.toArray⟩ : ByteArray) ++ ⟨#[112, 108, 97, 99, 101, 115]⟩ = ⟨A3.toArray⟩ := by rw [hA3]; exact cat A2 [112, 108, 97, 99, 101, 115]
  have uA3 : ¬ 9223372036854775807 < A2.length + 6 := by omega
  have hRR : R = A3 := by rw [hR, hA3, hA2, hA1, hA0]
  subst hRR
  clear hR hA0 hA1 hA2 hA3 lA0 lA1 lA2 lA3
  subst r
  have pb : (p == 1) = false := by simpa using hp
  obtain ⟨w0, hw0⟩ : ∃ w0, w0 = w.alloc (.cells #[.int .i64 d, .int .i64 f, .int .i64 l, .int .i64 3, .int .i64 p] 23) := ⟨_, rfl⟩
  have HW : Hid (w0 = w.alloc (.cells #[.int .i64 d, .int .i64 f, .int .i64 l, .int .i64 3, .int .i64 p] 23)) := hw0
  have B0 : Hid (Below w.heap.size w w0) := (by show Below _ _ _; rw [hw0]; exact (Below.refl _ _).alloc (Nat.le_refl _) _)
  have z0 : w.heap.size < w0.heap.size := by rw [hw0]; simp
  have y3 : w0.cell? ⟨w.heap.size, 3, none⟩ = some (.int .i64 3) := by rw [hw0]; simp [go_sem]
  have y4 : w0.cell? ⟨w.heap.size, 4, none⟩ = some (.int .i64 p) := by rw [hw0]; simp [go_sem]
  clear hw0
  go_enter Tryd.func26, Tryd.ntmps26
  go_upto_region 1 with fail
  rw [← HW.out]
  clear HW
  go_upto_region 4 with fail
  obtain ⟨v0, hv0⟩ : ∃ x, x = w0.alloc (Obj.cells #[.string ⟨#[]⟩, .string ⟨#[114, 97, 105, 110]⟩, .string ⟨#[115, 110, 111, 119]⟩, .string ⟨#[104, 97, 105, 108]⟩, .string ⟨#[82, 101, 103, 101, 110]⟩, .string ⟨#[83, 99, 104, 110, 101, 101]⟩, .string ⟨#[72, 97, 103, 101, 108]⟩, .string ⟨#[100, 101, 115, 122, 99, 122]⟩, .string ⟨#[197, 155, 110, 105, 101, 103]⟩, .string ⟨#[103, 114, 97, 100]⟩] 9) := ⟨_, rfl⟩
  rw [← hv0]
  have a3_0 := cell_al2 (ob := (Obj.cells #[.string ⟨#[]⟩, .string ⟨#[114, 97, 105, 110]⟩, .string ⟨#[115, 110, 111, 119]⟩, .string ⟨#[104, 97, 105, 108]⟩, .string ⟨#[82, 101, 103, 101, 110]⟩, .string ⟨#[83, 99, 104, 110, 101, 101]⟩, .string ⟨#[72, 97, 103, 101, 108]⟩, .string ⟨#[100, 101, 115, 122, 99, 122]⟩, .string ⟨#[197, 155, 110, 105, 101, 103]⟩, .string ⟨#[103, 114, 97, 100]⟩] 9)) y3
  have a4_0 := cell_al2 (ob := (Obj.cells #[.string ⟨#[]⟩, .string ⟨#[114, 97, 105, 110]⟩, .string ⟨#[115, 110, 111, 119]⟩, .string ⟨#[104, 97, 105, 108]⟩, .string ⟨#[82, 101, 103, 101, 110]⟩, .string ⟨#[83, 99, 104, 110, 101, 101]⟩, .string ⟨#[72, 97, 103, 101, 108]⟩, .string ⟨#[100, 101, 115, 122, 99, 122]⟩, .string ⟨#[197, 155, 110, 105, 101, 103]⟩, .string ⟨#[103, 114, 97, 100]⟩] 9)) y4
  have C0 : Hid (Below w.heap.size w (w0.alloc (Obj.cells #[.string ⟨#[]⟩, .string ⟨#[114, 97, 105, 110]⟩, .string ⟨#[115, 110, 111, 119]⟩, .string ⟨#[104, 97, 105, 108]⟩, .string ⟨#[82, 101, 103, 101, 110]⟩, .string ⟨#[83, 99, 104, 110, 101, 101]⟩, .string ⟨#[72, 97, 103, 101, 108]⟩, .string ⟨#[100, 101, 115, 122, 99, 122]⟩, .string ⟨#[197, 155, 110, 105, 101, 103]⟩, .string ⟨#[103, 114, 97, 100]⟩] 9))) := B0.out.alloc B0.out.size _
  rw [← hv0] at a3_0 a4_0 C0
  clear hv0 y3 y4 B0
  go_upto_region 5 with fail
  obtain ⟨v1, hv1⟩ : ∃ x, x = v0.alloc (Obj.cells #[.string ⟨#[]⟩, .string ⟨#[32, 105, 110, 32]⟩, .string ⟨#[32, 97, 110, 32]⟩, .string ⟨#[32, 119, 32]⟩] 9) := ⟨_, rfl⟩
  rw [← hv1]
  have a3_1 := cell_al2 (ob := (Obj.cells #[.string ⟨#[]⟩, .string ⟨#[32, 105, 110, 32]⟩, .string ⟨#[32, 97, 110, 32]⟩, .string ⟨#[32, 119, 32]⟩] 9)) a3_0
  have a4_1 := cell_al2 (ob := (Obj.cells #[.string ⟨#[]⟩, .string ⟨#[32, 105, 110, 32]⟩, .string ⟨#[32, 97, 110, 32]⟩, .string ⟨#[32, 119, 32]⟩] 9)) a4_0
  have C1 : Hid (Below w.heap.size w (v0.alloc (Obj.cells #[.string ⟨#[]⟩, .string ⟨#[32, 105, 110, 32]⟩, .string ⟨#[32, 97, 110, 32]⟩, .string ⟨#[32, 119, 32]⟩] 9))) := C0.out.alloc C0.out.size _
  rw [← hv1] at a3_1 a4_1 C1
  clear hv1 a3_0 a4_0 C0
  go_upto_region 6 with fail
  obtain ⟨v2, hv2⟩ : ∃ x, x = v1.alloc (Obj.cells #[.string ⟨#[]⟩, .string ⟨#[112, 108, 97, 99, 101, 115]⟩, .string ⟨#[79, 114, 116, 101, 110]⟩, .string ⟨#[109, 105, 101, 106, 115, 99, 97, 99, 104]⟩] 9) := ⟨_, rfl⟩
  rw [← hv2]
  have a3_2 := cell_al2 (ob := (Obj.cells #[.string ⟨#[]⟩, .string ⟨#[112, 108, 97, 99, 101, 115]⟩, .string ⟨#[79, 114, 116, 101, 110]⟩, .string ⟨#[109, 105, 101, 106, 115, 99, 97, 99, 104]⟩] 9)) a3_1
  have a4_2 := cell_al2 (ob := (Obj.cells #[.string ⟨#[]⟩, .string ⟨#[112, 108, 97, 99, 101, 115]⟩, .string ⟨#[79, 114, 116, 101, 110]⟩, .string ⟨#[109, 105, 101, 106, 115, 99, 97, 99, 104]⟩] 9)) a4_1
  have C2 : Hid (Below w.heap.size w (v1.alloc (Obj.cells #[.string ⟨#[]⟩, .string ⟨#[112, 108, 97, 99, 101, 115]⟩, .string ⟨#[79, 114, 116, 101, 110]⟩, .string ⟨#[109, 105, 101, 106, 115, 99, 97, 99, 104]⟩] 9))) := C1.out.alloc C1.out.size _
  rw [← hv2] at a3_2 a4_2 C2
  clear hv2 a3_1 a4_1 C1
  go_wp2_with fail
  refine (FD.out _).mono ?_
  rintro e w2 ⟨rfl, hb2⟩
  have BF : Hid (Below w.heap.size w w2) := C2.out.trans (hb2.mono C2.out.size)
  clear hb2
  go_wp2_with fail
  go_ret
  exact ⟨rfl, BF.out⟩
set_option maxHeartbeats 1000000 in
theorem srain_dry2 (d f l r p : Int) (w : World) (hr : r = 0) : Calls Tryd.prog 26 #[.agg #[.int .i64 d, .int .i64 f, .int .i64 l, .int .i64 r, .int .i64 p], .int .i64 2] w fun e w' => e = .returned (.string ⟨#[116, 114, 111, 99, 107, 101, 110]⟩) ∧ Below w.heap.size w w' := by
  subst r
  obtain ⟨w0, hw0⟩ : ∃ w0, w0 = w.alloc (.cells #[.int .i64 d, .int .i64 f, .int .i64 l, .int .i64 0, .int .i64 p] 23) := ⟨_, rfl⟩
  have HW : Hid (w0 = w.alloc (.cells #[.int .i64 d, .int .i64 f, .int .i64 l, .int .i64 0, .int .i64 p] 23)) := hw0
  have B0 : Hid (Below w.heap.size w w0) := (by show Below _ _ _; rw [hw0]; exact (Below.refl _ _).alloc (Nat.le_refl _) _)
  have z0 : w.heap.size < w0.heap.size := by rw [hw0]; simp
  have y3 : w0.cell? ⟨w.heap.size, 3, none⟩ = some (.int .i64 0) := by rw [hw0]; simp [go_sem]
  clear hw0
  go_enter Tryd.func26, Tryd.ntmps26
  go_upto_region 1 with fail
  rw [← HW.out]
  go_wp2_with fail
  go_ret
  exact ⟨rfl, B0.out.alloc B0.out.size _⟩
set_option maxHeartbeats 1000000 in
set_option maxRecDepth 20000 in
theorem srain_one21 (d f l r p : Int) (PP R : List UInt8) (w : World) (hr : r = 1) (hp : p = 1) (hPP : PP.length ≤ 200) (hR : R = [82, 101, 103, 101, 110] ++ [32, 97, 110, 32] ++ PP ++ [32] ++ [79, 114, 116])
    (FD : Hid (∀ X, Calls Tryd.prog 33 #[.int .i64 p] X fun e w' => e = .returned (.string ⟨PP.toArray⟩) ∧ Below X.heap.size X w')) :
    Calls Tryd.prog 26 #[.agg #[.int .i64 d, .int .i64 f, .int .i64 l, .int .i64 r, .int .i64 p], .int .i64 2] w fun e w' => e = .returned (.string ⟨R.toArray⟩) ∧ Below w.heap.size w w' := by
  obtain ⟨A0, hA0⟩ : ∃ A, A = ([82, 101, 103, 101, 110] : List UInt8) ++ [32, 97, 110, 32] := ⟨_, rfl⟩
  have lA0 : A0.length = 5 + 4 := by rw [hA0]; simp <;> omega
  have eA0 : (⟨#[82, 101, 103, 101, 110]⟩ : ByteArray) ++ ⟨#[32, 97, 110, 32]⟩ = ⟨A0.toArray⟩ := by rw [hA0]; exact cat [82, 101, 103, 101, 110] [32, 97, 110, 32]
  have uA0 : ¬ 9223372036854775807 < 5 + 4 := by omega
  obtain ⟨A1, hA1⟩ : ∃ A, A = A0 ++ PP := ⟨_, rfl⟩
  have lA1 : A1.length = A0.length + PP.length := by rw [hA1]; simp <;> omega
  have eA1 : (⟨A0.toArray⟩ : ByteArray) ++ ⟨PP.toArray⟩ = ⟨A1.toArray⟩ := by rw [hA1]; exact cat A0 PP
  have uA1 : ¬ 9223372036854775807 < A0.length + PP.length := by omega
  obtain ⟨A2, hA2⟩ : ∃ A, A = A1 ++ [32] := ⟨_, rfl⟩
  have lA2 : A2.length = A1.length + 1 := by rw [hA2]; simp <;> omega
  have eA2 : (⟨A1.toArray⟩ : ByteArray) ++ ⟨#[32]⟩ = ⟨A2.toArray⟩ := by rw [hA2]; exact cat A1 [32]
  have uA2 : ¬ 9223372036854775807 < A1.length + 1 := by omega
  obtain ⟨A3, hA3⟩ : ∃ A, A = A2 ++ [79, 114, 116] := ⟨_, rfl⟩
  have lA3 : A3.length = A2.length + 3 := by rw [hA3]; simp <;> omega
  have eA3 : (⟨A2.toArray⟩ : ByteArray) ++ ⟨#[79, 114, 116]⟩ = ⟨A3.toArray⟩ := by rw [hA3]; exact cat A2 [79, 114, 116]
  have uA3 : ¬ 9223372036854775807 < A2.length + 3 := by omega
  have hRR : R = A3 := by rw [hR, hA3, hA2, hA1, hA0]
  subst hRR
  clear hR hA0 hA1 hA2 hA3 lA0 lA1 lA2 lA3
  subst r
  subst p
  obtain ⟨w0, hw0⟩ : ∃ w0, w0 = w.alloc (.cells #[.int .i64 d, .int .i64 f, .int .i64 l, .int .i64 1, .int .i64 1] 23) := ⟨_, rfl⟩
  have HW : Hid (w0 = w.alloc (.cells #[.int .i64 d, .int .i64 f, .int .i64 l, .int .i64 1, .int .i64 1] 23)) := hw0
  have B0 : Hid (Below w.heap.size w w0) := (by show Below _ _ _; rw [hw0]; exact (Below.refl _ _).alloc (Nat.le_refl _) _)
  have z0 : w.heap.size < w0.heap.size := by rw [hw0]; simp
  have y3 : w0.cell? ⟨w.heap.size, 3, none⟩ = some (.int .i64 1) := by rw [hw0]; simp [go_sem]
  have y4 : w0.cell? ⟨w.heap.size, 4, none⟩ = some (.int .i64 1) := by rw [hw0]; simp [go_sem]
  clear hw0
  go_enter Tryd.func26, Tryd.ntmps26
  go_upto_region 1 with fail
  rw [← HW.out]
  clear HW
  go_upto_region 4 with fail
  obtain ⟨v0, hv0⟩ : ∃ x, x = w0.alloc (Obj.cells #[.string ⟨#[]⟩, .string ⟨#[114, 97, 105, 110]⟩, .string ⟨#[115, 110, 111, 119]⟩, .string ⟨#[104, 97, 105, 108]⟩, .string ⟨#[82, 101, 103, 101, 110]⟩, .string ⟨#[83, 99, 104, 110, 101, 101]⟩, .string ⟨#[72, 97, 103, 101, 108]⟩, .string ⟨#[100, 101, 115, 122, 99, 122]⟩, .string ⟨#[197, 155, 110, 105, 101, 103]⟩, .string ⟨#[103, 114, 97, 100]⟩] 9) := ⟨_, rfl⟩
  rw [← hv0]
  have a3_0 := cell_al2 (ob := (Obj.cells #[.string ⟨#[]⟩, .string ⟨#[114, 97, 105, 110]⟩, .string ⟨#[115, 110, 111, 119]⟩, .string ⟨#[104, 97, 105, 108]⟩, .string ⟨#[82, 101, 103, 101, 110]⟩, .string ⟨#[83, 99, 104, 110, 101, 101]⟩, .string ⟨#[72, 97, 103, 101, 108]⟩, .string ⟨#[100, 101, 115, 122, 99, 122]⟩, .string ⟨#[197, 155, 110, 105, 101, 103]⟩, .string ⟨#[103, 114, 97, 100]⟩] 9)) y3
  have a4_0 := cell_al2 (ob := (Obj.cells #[.string ⟨#[]⟩, .string ⟨#[114, 97, 105, 110]⟩, .string ⟨#[115, 110, 111, 119]⟩, .string ⟨#[104, 97, 105, 108]⟩, .string ⟨#[82, 101, 103, 101, 110]⟩, .string ⟨#[83, 99, 104, 110, 101, 101]⟩, .string ⟨#[72, 97, 103, 101, 108]⟩, .string ⟨#[100, 101, 115, 122, 99, 122]⟩, .string ⟨#[197, 155, 110, 105, 101, 103]⟩, .string ⟨#[103, 114, 97, 100]⟩] 9)) y4
  have C0 : Hid (Below w.heap.size w (w0.alloc (Obj.cells #[.string ⟨#[]⟩, .string ⟨#[114, 97, 105, 110]⟩, .string ⟨#[115, 110, 111, 119]⟩, .string ⟨#[104, 97, 105, 108]⟩, .string ⟨#[82, 101, 103, 101, 110]⟩, .string ⟨#[83, 99, 104, 110, 101, 101]⟩, .string ⟨#[72, 97, 103, 101, 108]⟩, .string ⟨#[100, 101, 115, 122, 99, 122]⟩, .string ⟨#[197, 155, 110, 105, 101, 103]⟩, .string ⟨#[103, 114, 97, 100]⟩] 9))) := B0.out.alloc B0.out.size _
  rw [← hv0] at a3_0 a4_0 C0
  clear hv0 y3 y4 B0
  go_upto_region 5 with fail
  obtain ⟨v1, hv1⟩ : ∃ x, x = v0.alloc (Obj.cells #[.string ⟨#[]⟩, .string ⟨#[32, 105, 110, 32]⟩, .string ⟨#[32, 97, 110, 32]⟩, .string ⟨#[32, 119, 32]⟩] 9) := ⟨_, rfl⟩
  rw [← hv1]
  have a3_1 := cell_al2 (ob := (Obj.cells #[.string ⟨#[]⟩, .string ⟨#[32, 105, 110, 32]⟩, .string ⟨#[32, 97, 110, 32]⟩, .string ⟨#[32, 119, 32]⟩] 9)) a3_0
  have a4_1 := cell_al2 (ob := (Obj.cells #[.string ⟨#[]⟩, .string ⟨#[32, 105, 110, 32]⟩, .string ⟨#[32, 97, 110, 32]⟩, .string ⟨#[32, 119, 32]⟩] 9)) a4_0
  have C1 : Hid (Below w.heap.size w (v0.alloc (Obj.cells #[.string ⟨#[]⟩, .string ⟨#[32, 105, 110, 32]⟩, .string ⟨#[32, 97, 110, 32]⟩, .string ⟨#[32, 119, 32]⟩] 9))) := C0.out.alloc C0.out.size _
  rw [← hv1] at a3_1 a4_1 C1
  clear hv1 a3_0 a4_0 C0
  go_upto_region 6 with fail
  obtain ⟨v2, hv2⟩ : ∃ x, x = v1.alloc (Obj.cells #[.string ⟨#[]⟩, .string ⟨#[112, 108, 97, 99, 101, 115]⟩, .string ⟨#[79, 114, 116, 101, 110]⟩, .string ⟨#[109, 105, 101, 106, 115, 99, 97, 99, 104]⟩] 9) := ⟨_, rfl⟩
  rw [← hv2]
  have a3_2 := cell_al2 (ob := (Obj.cells #[.string ⟨#[]⟩, .string ⟨#[112, 108, 97, 99, 101, 115]⟩, .string ⟨#[79, 114, 116, 101, 110]⟩, .string ⟨#[109, 105, 101, 106, 115, 99, 97, 99, 104]⟩] 9)) a3_1
  have a4_2 := cell_al2 (ob := (Obj.cells #[.string ⟨#[]⟩, .string ⟨#[112, 108, 97, 99, 101, 115]⟩, .string ⟨#[79, 114, 116, 101, 110]⟩, .string ⟨#[109, 105, 101, 106, 115, 99, 97, 99, 104]⟩] 9)) a4_1
  have C2 : Hid (Below w.heap.size w (v1.alloc (Obj.cells #[.string ⟨#[]⟩, .string ⟨#[112, 108, 97, 99, 101, 115]⟩, .string ⟨#[79, 114, 116, 101, 110]⟩, .string ⟨#[109, 105, 101, 106, 115, 99, 97, 99, 104]⟩] 9))) := C1.out.alloc C1.out.size _
  rw [← hv2] at a3_2 a4_2 C2
  clear hv2 a3_1 a4_1 C1
  go_upto_region 8 with fail
  obtain ⟨v3, hv3⟩ : ∃ x, x = v2.alloc (Obj.cells #[.string ⟨#[]⟩, .string ⟨#[112, 108, 97, 99, 101]⟩, .string ⟨#[79, 114, 116]⟩, .string ⟨#[109, 105, 101, 106, 115, 99, 117]⟩] 9) := ⟨_, rfl⟩
  rw [← hv3]
  have a3_3 := cell_al2 (ob := (Obj.cells #[.string ⟨#[]⟩, .string ⟨#[112, 108, 97, 99, 101]⟩, .string ⟨#[79, 114, 116]⟩, .string ⟨#[109, 105, 101, 106, 115, 99, 117]⟩] 9)) a3_2
  have a4_3 := cell_al2 (ob := (Obj.cells #[.string ⟨#[]⟩, .string ⟨#[112, 108, 97, 99, 101]⟩, .string ⟨#[79, 114, 116]⟩, .string ⟨#[109, 105, 101, 106, 115, 99, 117]⟩] 9)) a4_2
  have C3 : Hid (Below w.heap.size w (v2.alloc (Obj.cells #[.string ⟨#[]⟩, .string ⟨#[112, 108, 97, 99, 101]⟩, .string ⟨#[79, 114, 116]⟩, .string ⟨#[109, 105, 101, 106, 115, 99, 117]⟩] 9))) := C2.out.alloc C2.out.size _
  rw [← hv3] at a3_3 a4_3 C3
  clear hv3 a3_2 a4_2 C2
  go_wp2_with fail
  refine (FD.out _).mono ?_
  rintro e w2 ⟨rfl, hb2⟩
  have BF : Hid (Below w.heap.size w w2) := C3.out.trans (hb2.mono C3.out.size)
  clear hb2
  go_wp2_with fail
  go_ret
  exact ⟨rfl, BF.out⟩
set_option maxHeartbeats 1000000 in
set_option maxRecDepth 20000 in
theorem srain_one22 (d f l r p : Int) (PP R : List UInt8) (w : World) (hr : r = 2) (hp : p = 1) (hPP : PP.length ≤ 200) (hR : R = [83, 99, 104, 110, 101, 101] ++ [32, 97, 110, 32] ++ PP ++ [32] ++ [79, 114, 116])
    (FD : Hid (∀ X, Calls Tryd.prog 33 #[.int .i64 p] X fun e w' => e = .returned (.string ⟨PP.toArray⟩) ∧ Below X.heap.size X w')) :
    Calls Tryd.prog 26 #[.agg #[.int .i64 d, .int .i64 f, .int .i64 l, .int .i64 r, .int .i64 p], .int .i64 2] w fun e w' => e = .returned (.string ⟨R.toArray⟩) ∧ Below w.heap.size w w' := by
  obtain ⟨A0, hA0⟩ : ∃ A, A = ([83, 99, 104, 110, 101, 101] : List UInt8) ++ [32, 97, 110, 32] := ⟨_, rfl⟩
  have lA0 : A0.length = 6 + 4 := by rw [hA0]; simp <;> omega
  have eA0 : (⟨#[83, 99, 104, 110, 101, 101]⟩ : ByteArray) ++ ⟨#[32, 97, 110, 32]⟩ = ⟨A0.toArray⟩ := by rw [hA0]; exact cat [83, 99, 104, 110, 101, 101] [32, 97, 110, 32]
  have uA0 : ¬ 9223372036854775807 < 6 + 4 := by omega
  obtain ⟨A1, hA1⟩ : ∃ A, A = A0 ++ PP := ⟨_, rfl⟩
  have lA1 : A1.length = A0.length + PP.length := by rw [hA1]; simp <;> omega
  have eA1 : (⟨A0.toArray⟩ : ByteArray) ++ ⟨PP.toArray⟩ = ⟨A1.toArray⟩ := by rw [hA1]; exact cat A0 PP
  have uA1 : ¬ 9223372036854775807 < A0.length + PP.length := by omega
  obtain ⟨A2, hA2⟩ : ∃ A, A = A1 ++ [32] := ⟨_, rfl⟩
  have lA2 : A2.length = A1.length + 1 := by rw [hA2]; simp <;> omega
  have eA2 : (⟨A1.toArray⟩ : ByteArray) ++ ⟨#[32]⟩ = ⟨A2.toArray⟩ := by rw [hA2]; exact cat A1 [32]
  have uA2 : ¬ 9223372036854775807 < A1.length + 1 := by omega
  obtain ⟨A3, hA3⟩ : ∃ A, A = A2 ++ [79, 114, 116] := ⟨_, rfl⟩
  have lA3 : A3.length = A2.length + 3 := by rw [hA3]; simp <;> omega
  have eA3 : (⟨A2.toArray⟩ : ByteArray) ++ ⟨#[79, 114, 116]⟩ = ⟨A3.toArray⟩ := by rw [hA3]; exact cat A2 [79, 114, 116]
  have uA3 : ¬ 9223372036854775807 < A2.length + 3 := by omega
  have hRR : R = A3 := by rw [hR, hA3, hA2, hA1, hA0]
  subst hRR
  clear hR hA0 hA1 hA2 hA3 lA0 lA1 lA2 lA3
  subst r
  subst p
  obtain ⟨w0, hw0⟩ : ∃ w0, w0 = w.alloc (.cells #[.int .i64 d, .int .i64 f, .int .i64 l, .int .i64 2, .int .i64 1] 23) := ⟨_, rfl⟩
  have HW : Hid (w0 = w.alloc (.cells #[.int .i64 d, .int .i64 f, .int .i64 l, .int .i64 2, .int .i64 1] 23)) := hw0
  have B0 : Hid (Below w.heap.size w w0) := (by show Below _ _ _; rw [hw0]; exact (Below.refl _ _).alloc (Nat.le_refl _) _)
  have z0 : w.heap.size < w0.heap.size := by rw [hw0]; simp
  have y3 : w0.cell? ⟨w.heap.size, 3, none⟩ = some (.int .i64 2) := by rw [hw0]; simp [go_sem]
  have y4 : w0.cell? ⟨w.heap.size, 4, none⟩ = some (.int .i64 1) := by rw [hw0]; simp [go_sem]
  clear hw0
  go_enter Tryd.func26, Tryd.ntmps26
  go_upto_region 1 with fail
  rw [← HW.out]
  clear HW
  go_upto_region 4 with fail
  obtain ⟨v0, hv0⟩ : ∃ x, x = w0.alloc (Obj.cells #[.string ⟨#[]⟩, .string ⟨#[114, 97, 105, 110]⟩, .string ⟨#[115, 110, 111, 119]⟩, .string ⟨#[104, 97, 105, 108]⟩, .string ⟨#[82, 101, 103, 101, 110]⟩, .string ⟨#[83, 99, 104, 110, 101, 101]⟩, .string ⟨#[72, 97, 103, 101, 108]⟩, .string ⟨#[100, 101, 115, 122, 99, 122]⟩, .string ⟨#[197, 155, 110, 105, 101, 103]⟩, .string ⟨#[103, 114, 97, 100]⟩] 9) := ⟨_, rfl⟩
  rw [← hv0]
  have a3_0 := cell_al2 (ob := (Obj.cells #[.string ⟨#[]⟩, .string ⟨#[114, 97, 105, 110]⟩, .string ⟨#[115, 110, 111, 119]⟩, .string ⟨#[104, 97, 105, 108]⟩, .string ⟨#[82, 101, 103, 101, 110]⟩, .string ⟨#[83, 99, 104, 110, 101, 101]⟩, .string ⟨#[72, 97, 103, 101, 108]⟩, .string ⟨#[100, 101, 115, 122, 99, 122]⟩, .string ⟨#[197, 155, 110, 105, 101, 103]⟩, .string ⟨#[103, 114, 97, 100]⟩] 9)) y3
  have a4_0 := cell_al2 (ob := (Obj.cells #[.string ⟨#[]⟩, .string ⟨#[114, 97, 105, 110]⟩, .string ⟨#[115, 110, 111, 119]⟩, .string ⟨#[104, 97, 105, 108]⟩, .string ⟨#[82, 101, 103, 101, 110]⟩, .string ⟨#[83, 99, 104, 110, 101, 101]⟩, .string ⟨#[72, 97, 103, 101, 108]⟩, .string ⟨#[100, 101, 115, 122, 99, 122]⟩, .string ⟨#[197, 155, 110, 105, 101, 103]⟩, .string ⟨#[103, 114, 97, 100]⟩] 9)) y4
  have C0 : Hid (Below w.heap.size w (w0.alloc (Obj.cells #[.string ⟨#[]⟩, .string ⟨#[114, 97, 105, 110]⟩, .string ⟨#[115, 110, 111, 119]⟩, .string ⟨#[104, 97, 105, 108]⟩, .string ⟨#[82, 101, 103, 101, 110]⟩, .string ⟨#[83, 99, 104, 110, 101, 101]⟩, .string ⟨#[72, 97, 103, 101, 108]⟩, .string ⟨#[100, 101, 115, 122, 99, 122]⟩, .string ⟨#[197, 155, 110, 105, 101, 103]⟩, .string ⟨#[103, 114, 97, 100]⟩] 9))) := B0.out.alloc B0.out.size _
  rw [← hv0] at a3_0 a4_0 C0
  clear hv0 y3 y4 B0
  go_upto_region 5 with fail
  obtain ⟨v1, hv1⟩ : ∃ x, x = v0.alloc (Obj.cells #[.string ⟨#[]⟩, .string ⟨#[32, 105, 110, 32]⟩, .string ⟨#[32, 97, 110, 32]⟩, .string ⟨#[32, 119, 32]⟩] 9) := ⟨_, rfl⟩
  rw [← hv1]
  have a3_1 := cell_al2 (ob := (Obj.cells #[.string ⟨#[]⟩, .string ⟨#[32, 105, 110, 32]⟩, .string ⟨#[32, 97, 110, 32]⟩, .string ⟨#[32, 119, 32]⟩] 9)) a3_0
  have a4_1 := cell_al2 (ob := (Obj.cells #[.string ⟨#[]⟩, .string ⟨#[32, 105, 110, 32]⟩, .string ⟨#[32, 97, 110, 32]⟩, .string ⟨#[32, 119, 32]⟩] 9)) a4_0
  have C1 : Hid (Below w.heap.size w (v0.alloc (Obj.cells #[.string ⟨#[]⟩, .string ⟨#[32, 105, 110, 32]⟩, .string ⟨#[32, 97, 110, 32]⟩, .string ⟨#[32, 119, 32]⟩] 9))) := C0.out.alloc C0.out.size _
  rw [← hv1] at a3_1 a4_1 C1
  clear hv1 a3_0 a4_0 C0
  go_upto_region 6 with fail
  obtain ⟨v2, hv2⟩ : ∃ x, x = v1.alloc (Obj.cells #[.string ⟨#[]⟩, .string ⟨#[112, 108, 97, 99, 101, 115]⟩, .string ⟨#[79, 114, 116, 101, 110]⟩, .string ⟨#[109, 105, 101, 106, 115, 99, 97, 99, 104]⟩] 9) := ⟨_, rfl⟩
  rw [← hv2]
  have a3_2 := cell_al2 (ob := (Obj.cells #[.string ⟨#[]⟩, .string ⟨#[112, 108, 97, 99, 101, 115]⟩, .string ⟨#[79, 114, 116, 101, 110]⟩, .string ⟨#[109, 105, 101, 106, 115, 99, 97, 99, 104]⟩] 9)) a3_1
  have a4_2 := cell_al2 (ob := (Obj.cells #[.string ⟨#[]⟩, .string ⟨#[112, 108, 97, 99, 101, 115]⟩, .string ⟨#[79, 114, 116, 101, 110]⟩, .string ⟨#[109, 105, 101, 106, 115, 99, 97, 99, 104]⟩] 9)) a4_1
  have C2 : Hid (Below w.heap.size w (v1.alloc (Obj.cells #[.string ⟨#[]⟩, .string ⟨#[112, 108, 97, 99, 101, 115]⟩, .string ⟨#[79, 114, 116, 101, 110]⟩, .string ⟨#[109, 105, 101, 106, 115, 99, 97, 99, 104]⟩] 9))) := C1.out.alloc C1.out.size _
  rw [← hv2] at a3_2 a4_2 C2
  clear hv2 a3_1 a4_1 C1
  go_upto_region 8 with fail
  obtain ⟨v3, hv3⟩ : ∃ x, x = v2.alloc (Obj.cells #[.string ⟨#[]⟩, .string ⟨#[112, 108, 97, 99, 101]⟩, .string ⟨#[79, 114, 116]⟩, .string ⟨#[109, 105, 101, 106, 115, 99, 117]⟩] 9) := ⟨_, rfl⟩
  rw [← hv3]
  have a3_3 := cell_al2 (ob := (Obj.cells #[.string ⟨#[]⟩, .string ⟨#[112, 108, 97, 99, 101]⟩, .string ⟨#[79, 114, 116]⟩, .string ⟨#[109, 105, 101, 106, 115, 99, 117]⟩] 9)) a3_2
  have a4_3 := cell_al2 (ob := (Obj.cells #[.string ⟨#[]⟩, .string ⟨#[112, 108, 97, 99, 101]⟩, .string ⟨#[79, 114, 116]⟩, .string ⟨#[109, 105, 101, 106, 115, 99, 117]⟩] 9)) a4_2
  have C3 : Hid (Below w.heap.size w (v2.alloc (Obj.cells #[.string ⟨#[]⟩, .string ⟨#[112, 108, 97, 99, 101]⟩, .string ⟨#[79, 114, 116]⟩, .string ⟨#[109, 105, 101, 106, 115, 99, 117]⟩] 9))) := C2.out.alloc C2.out.size _
  rw [← hv3] at a3_3 a4_3 C3
  clear hv3 a3_2 a4_2 C2
  go_wp2_with fail
  refine (FD.out _).mono ?_
  rintro e w2 ⟨rfl, hb2⟩
  have BF : Hid (Below w.heap.size w w2) := C3.out.trans (hb2.mono C3.out.size)
  clear hb2
  go_wp2_with fail
  go_ret
  exact ⟨rfl, BF.out⟩
set_option maxHeartbeats 1000000 in
set_option maxRecDepth 20000 in
theorem srain_one23 (d f l r p : Int) (PP R : List UInt8) (w : World) (hr : r = 3) (hp : p = 1) (hPP : PP.length ≤ 200) (hR : R = [72, 97, 103, 101, 108] ++ [32, 97, 110, 32] ++ PP ++ [32] ++ [79, 114, 116])
    (FD : Hid (∀ X, Calls Tryd.prog 33 #[.int .i64 p] X fun e w' => e = .returned (.string ⟨PP.toArray⟩) ∧ Below X.heap.size X w')) :
    Calls Tryd.prog 26 #[.agg #[.int .i64 d, .int .i64 f, .int .i64 l, .int .i64 r, .int .i64 p], .int .i64 2] w fun e w' => e = .returned (.string ⟨R.toArray⟩) ∧ Below w.heap.size w w' := by
  obtain ⟨A0, hA0⟩ : ∃ A, A = ([72, 97, 103, 101, 108] : List UInt8) ++ [32, 97, 110, 32] := ⟨_, rfl⟩
  have lA0 : A0.length = 5 + 4 := by rw [hA0]; simp <;> omega
  have eA0 : (⟨#[72, 97, 103, 101, 108]⟩ : ByteArray) ++ ⟨#[32, 97, 110, 32]⟩ = ⟨A0.toArray⟩ := by rw [hA0]; exact cat [72, 97, 103, 101, 108] [32, 97, 110, 32]
  have uA0 : ¬ 9223372036854775807 < 5 + 4 := by omega
  obtain ⟨A1, hA1⟩ : ∃ A, A = A0 ++ PP := ⟨_, rfl⟩
  have lA1 : A1.length = A0.length + PP.length := by rw [hA1]; simp <;> omega
  have eA1 : (⟨A0.toArray⟩ : ByteArray) ++ ⟨PP.toArray⟩ = ⟨A1.toArray⟩ := by rw [hA1]; exact cat A0 PP
  have uA1 : ¬ 9223372036854775807 < A0.length + PP.length := by omega
  obtain ⟨A2, hA2⟩ : ∃ A, A = A1 ++ [32] := ⟨_, rfl⟩
  have lA2 : A2.length = A1.length + 1 := by rw [hA2]; simp <;> omega
  have eA2 : (⟨A1.toArray⟩ : ByteArray) ++ ⟨#[32]⟩ = ⟨A2.toArray⟩ := by rw [hA2]; exact cat A1 [32]
  have uA2 : ¬ 9223372036854775807 < A1.length + 1 := by omega
  obtain ⟨A3, hA3⟩ : ∃ A, A = A2 ++ [79, 114, 116] := ⟨_, rfl⟩
  have lA3 : A3.length = A2.length + 3 := by rw [hA3]; simp <;> omega
  have eA3 : (⟨A2.toArray⟩ : ByteArray) ++ ⟨#[79, 114, 116]⟩ = ⟨A3.toArray⟩ := by rw [hA3]; exact cat A2 [79, 114, 116]
  have uA3 : ¬ 9223372036854775807 < A2.length + 3 := by omega
  have hRR : R = A3 := by rw [hR, hA3, hA2, hA1, hA0]
  subst hRR
  clear hR hA0 hA1 hA2 hA3 lA0 lA1 lA2 lA3
  subst r
  subst p
  obtain ⟨w0, hw0⟩ : ∃ w0, w0 = w.alloc (.cells #[.int .i64 d, .int .i64 f, .int .i64 l, .int .i64 3, .int .i64 1] 23) := ⟨_, rfl⟩
  have HW : Hid (w0 = w.alloc (.cells #[.int .i64 d, .int .i64 f, .int .i64 l, .int .i64 3, .int .i64 1] 23)) := hw0
  have B0 : Hid (Below w.heap.size w w0) := (by show Below _ _ _; rw [hw0]; exact (Below.refl _ _).alloc (Nat.le_refl _) _)
  have z0 : w.heap.size < w0.heap.size := by rw [hw0]; simp
  have y3 : w0.cell? ⟨w.heap.size, 3, none⟩ = some (.int .i64 3) := by rw [hw0]; simp [go_sem]
  have y4 : w0.cell? ⟨w.heap.size, 4, none⟩ = some (.int .i64 1) := by rw [hw0]; simp [go_sem]
  clear hw0
  go_enter Tryd.func26, Tryd.ntmps26
  go_upto_region 1 with fail
  rw [← HW.out]
  clear HW
  go_upto_region 4 with fail
  obtain ⟨v0, hv0⟩ : ∃ x, x = w0.alloc (Obj.cells #[.string ⟨#[]⟩, .string ⟨#[114, 97, 105, 110]⟩, .string ⟨#[115, 110, 111, 119]⟩, .string ⟨#[104, 97, 105, 108]⟩, .string ⟨#[82, 101, 103, 101, 110]⟩, .string ⟨#[83, 99, 104, 110, 101, 101]⟩, .string ⟨#[72, 97, 103, 101, 108]⟩, .string ⟨#[100, 101, 115, 122, 99, 122]⟩, .string ⟨#[197, 155, 110, 105, 101, 103]⟩, .string ⟨#[103, 114, 97, 100]⟩] 9) := ⟨_, rfl⟩
  rw [← hv0]
  have a3_0 := cell_al2 (ob := (Obj.cells #[.string ⟨#[]⟩, .string ⟨#[114, 97, 105, 110]⟩, .string ⟨#[115, 110, 111, 119]⟩, .string ⟨#[104, 97, 105, 108]⟩, .string ⟨#[82, 101, 103, 101, 110]⟩, .string ⟨#[83, 99, 104, 110, 101, 101]⟩, .string ⟨#[72, 97, 103, 101, 108]⟩, .string ⟨#[100, 101, 115, 122, 99, 122]⟩, .string ⟨#[197, 155, 110, 105, 101, 103]⟩, .string ⟨#[103, 114, 97, 100]⟩] 9)) y3
  have a4_0 := cell_al2 (ob := (Obj.cells #[.string ⟨#[]⟩, .string ⟨#[114, 97, 105, 110]⟩, .string ⟨#[115, 110, 111, 119]⟩, .string ⟨#[104, 97, 105, 108]⟩, .string ⟨#[82, 101, 103, 101, 110]⟩, .string ⟨#[83, 99, 104, 110, 101, 101]⟩, .string ⟨#[72, 97, 103, 101, 108]⟩, .string ⟨#[100, 101, 115, 122, 99, 122]⟩, .string ⟨#[197, 155, 110, 105, 101, 103]⟩, .string ⟨#[103, 114, 97, 100]⟩] 9)) y4
  have C0 : Hid (Below w.heap.size w (w0.alloc (Obj.cells #[.string ⟨#[]⟩, .string ⟨#[114, 97, 105, 110]⟩, .string ⟨#[115, 110, 111, 119]⟩, .string ⟨#[104, 97, 105, 108]⟩, .string ⟨#[82, 101, 103, 101, 110]⟩, .string ⟨#[83, 99, 104, 110, 101, 101]⟩, .string ⟨#[72, 97, 103, 101, 108]⟩, .string ⟨#[100, 101, 115, 122, 99, 122]⟩, .string ⟨#[197, 155, 110, 105, 101, 103]⟩, .string ⟨#[103, 114, 97, 100]⟩] 9))) := B0.out.alloc B0.out.size _
  rw [← hv0] at a3_0 a4_0 C0
  clear hv0 y3 y4 B0
  go_upto_region 5 with fail
  obtain ⟨v1, hv1⟩ : ∃ x, x = v0.alloc (Obj.cells #[.string ⟨#[]⟩, .string ⟨#[32, 105, 110, 32]⟩, .string ⟨#[32, 97, 110, 32]⟩, .string ⟨#[32, 119, 32]⟩] 9) := ⟨_, rfl⟩
  rw [← hv1]
  have a3_1 := cell_al2 (ob := (Obj.cells #[.string ⟨#[]⟩, .string ⟨#[32, 105, 110, 32]⟩, .string ⟨#[32, 97, 110, 32]⟩, .string ⟨#[32, 119, 32]⟩] 9)) a3_0
  have a4_1 := cell_al2 (ob := (Obj.cells #[.string ⟨#[]⟩, .string ⟨#[32, 105, 110, 32]⟩, .string ⟨#[32, 97, 110, 32]⟩, .string ⟨#[32, 119, 32]⟩] 9)) a4_0
  have C1 : Hid (Below w.heap.size w (v0.alloc (Obj.cells #[.string ⟨#[]⟩, .string ⟨#[32, 105, 110, 32]⟩, .string ⟨#[32, 97, 110, 32]⟩, .string ⟨#[32, 119, 32]⟩] 9))) := C0.out.alloc C0.out.size _
  rw [← hv1] at a3_1 a4_1 C1
  clear hv1 a3_0 a4_0 C0
  go_upto_region 6 with fail
  obtain ⟨v2, hv2⟩ : ∃ x, x = v1.alloc (Obj.cells #[.string ⟨#[]⟩, .string ⟨#[112, 108, 97, 99, 101, 115]⟩, .string ⟨#[79, 114, 116, 101, 110]⟩, .string ⟨#[109, 105, 101, 106, 115, 99, 97, 99, 104]⟩] 9) := ⟨_, rfl⟩
  rw [← hv2]
  have a3_2 := cell_al2 (ob := (Obj.cells #[.string ⟨#[]⟩, .string ⟨#[112, 108, 97, 99, 101, 115]⟩, .string ⟨#[79, 114, 116, 101, 110]⟩, .string ⟨#[109, 105, 101, 106, 115, 99, 97, 99, 104]⟩] 9)) a3_1
  have a4_2 := cell_al2 (ob := (Obj.cells #[.string ⟨#[]⟩, .string ⟨#[112, 108, 97, 99, 101, 115]⟩, .string ⟨#[79, 114, 116, 101, 110]⟩, .string ⟨#[109, 105, 101, 106, 115, 99, 97, 99, 104]⟩] 9)) a4_1
  have C2 : Hid (Below w.heap.size w (v1.alloc (Obj.cells #[.string ⟨#[]⟩, .string ⟨#[112, 108, 97, 99, 101, 115]⟩, .string ⟨#[79, 114, 116, 101, 110]⟩, .string ⟨#[109, 105, 101, 106, 115, 99, 97, 99, 104]⟩] 9))) := C1.out.alloc C1.out.size _
  rw [← hv2] at a3_2 a4_2 C2
  clear hv2 a3_1 a4_1 C1
  go_upto_region 8 with fail
  obtain ⟨v3, hv3⟩ : ∃ x, x = v2.alloc (Obj.cells #[.string ⟨#[]⟩, .string ⟨#[112, 108, 97, 99, 101]⟩, .string ⟨#[79, 114, 116]⟩, .string ⟨#[109, 105, 101, 106, 115, 99, 117]⟩] 9) := ⟨_, rfl⟩
  rw [← hv3]
  have a3_3 := cell_al2 (ob := (Obj.cells #[.string ⟨#[]⟩, .string ⟨#[112, 108, 97, 99, 101]⟩, .string ⟨#[79, 114, 116]⟩, .string ⟨#[109, 105, 101, 106, 115, 99, 117]⟩] 9)) a3_2
  have a4_3 := cell_al2 (ob := (Obj.cells #[.string ⟨#[]⟩, .string ⟨#[112, 108, 97, 99, 101]⟩, .string ⟨#[79, 114, 116]⟩, .string ⟨#[109, 105, 101, 106, 115, 99, 117]⟩] 9)) a4_2
  have C3 : Hid (Below w.heap.size w (v2.alloc (Obj.cells #[.string ⟨#[]⟩, .string ⟨#[112, 108, 97, 99, 101]⟩, .string ⟨#[79, 114, 116]⟩, .string ⟨#[109, 105, 101, 106, 115, 99, 117]⟩] 9))) := C2.out.alloc C2.out.size _
  rw [← hv3] at a3_3 a4_3 C3
  clear hv3 a3_2 a4_2 C2
  go_wp2_with fail
  refine (FD.out _).mono ?_
  rintro e w2 ⟨rfl, hb2⟩
  have BF : Hid (Below w.heap.size w w2) := C3.out.trans (hb2.mono C3.out.size)
  clear hb2
  go_wp2_with fail
  go_ret
  exact ⟨rfl, BF.out⟩
set_option maxHeartbeats 1000000 in
set_option maxRecDepth 20000 in
theorem srain_more21 (d f l r p : Int) (PP R : List UInt8) (w : World) (hr : r = 1) (hp : p ≠ 1) (hPP : PP.length ≤ 200) (hR : R = [82, 101, 103, 101, 110] ++ [32, 97, 110, 32] ++ PP ++ [32] ++ [79, 114, 116, 101, 110])
    (FD : Hid (∀ X, Calls Tryd.prog 33 #[.int .i64 p] X fun e w' => e = .returned (.string ⟨PP.toArray⟩) ∧ Below X.heap.size X w')) :
    Calls Tryd.prog 26 #[.agg #[.int .i64 d, .int .i64 f, .int .i64 l, .int .i64 r, .int .i64 p], .int .i64 2] w fun e w' => e = .returned (.string ⟨R.toArray⟩) ∧ Below w.heap.size w w' := by
  obtain ⟨A0, hA0⟩ : ∃ A, A = ([82, 101, 103, 101, 110] : List UInt8) ++ [32, 97, 110, 32] := ⟨_, rfl⟩
  have lA0 : A0.length = 5 + 4 := by rw [hA0]; simp <;> omega
  have eA0 : (⟨#[82, 101, 103, 101, 110]⟩ : ByteArray) ++ ⟨#[32, 97, 110, 32]⟩ = ⟨A0.toArray⟩ := by rw [hA0]; exact cat [82, 101, 103, 101, 110] [32, 97, 110, 32]
  have uA0 : ¬ 9223372036854775807 < 5 + 4 := by omega
  obtain ⟨A1, hA1⟩ : ∃ A, A = A0 ++ PP := ⟨_, rfl⟩
  have lA1 : A1.length = A0.length + PP.length := by rw [hA1]; simp <;> omega
  have eA1 : (⟨A0.toArray⟩ : ByteArray) ++ ⟨PP.toArray⟩ = ⟨A1.toArray⟩ := by rw [hA1]; exact cat A0 PP
  have uA1 : ¬ 9223372036854775807 < A0.length + PP.length := by omega
  obtain ⟨A2, hA2⟩ : ∃ A, A = A1 ++ [32] := ⟨_, rfl⟩
  have lA2 : A2.length = A1.length + 1 := by rw [hA2]; simp <;> omega
  have eA2 : (⟨A1.toArray⟩ : ByteArray) ++ ⟨#[32]⟩ = ⟨A2.toArray⟩ := by rw [hA2]; exact cat A1 [32]
  have uA2 : ¬ 9223372036854775807 < A1.length + 1 := by omega
  obtain ⟨A3, hA3⟩ : ∃ A, A = A2 ++ [79, 114, 116, 101, 110] := ⟨_, rfl⟩
  have lA3 : A3.length = A2.length + 5 := by rw [hA3]; simp <;> omega
  have eA3 : (⟨A2.toArray⟩ : ByteArray) ++ ⟨#[79, 114, 116, 101, 110]⟩ = ⟨A3.toArray⟩ := by rw [hA3]; exact cat A2 [79, 114, 116, 101, 110]
  have uA3 : ¬ 9223372036854775807 < A2.length + 5 := by omega
  have hRR : R = A3 := by rw [hR, hA3, hA2, hA1, hA0]
  subst hRR
  clear hR hA0 hA1 hA2 hA3 lA0 lA1 lA2 lA3
  subst r
  have pb : (p == 1) = false := by simpa using hp
  obtain ⟨w0, hw0⟩ : ∃ w0, w0 = w.alloc (.cells #[.int .i64 d, .int .i64 f, .int .i64 l, .int .i64 1, .int .i64 p] 23) := ⟨_, rfl⟩
  have HW : Hid (w0 = w.alloc (.cells #[.int .i64 d, .int .i64 f, .int .i64 l, .int .i64 1, .int .i64 p] 23)) := hw0
  have B0 : Hid (Below w.heap.size w w0) := (by show Below _ _ _; rw [hw0]; exact (Below.refl _ _).alloc (Nat.le_refl _) _)
  have z0 : w.heap.size < w0.heap.size := by rw [hw0]; simp
  have y3 : w0.cell? ⟨w.heap.size, 3, none⟩ = some (.int .i64 1) := by rw [hw0]; simp [go_sem]
  have y4 : w0.cell? ⟨w.heap.size, 4, none⟩ = some (.int .i64 p) := by rw [hw0]; simp [go_sem]
  clear hw0
  go_enter Tryd.func26, Tryd.ntmps26
  go_upto_region 1 with fail
  rw [← HW.out]
  clear HW
  go_upto_region 4 with fail
  obtain ⟨v0, hv0⟩ : ∃ x, x = w0.alloc (Obj.cells #[.string ⟨#[]⟩, .string ⟨#[114, 97, 105, 110]⟩, .string ⟨#[115, 110, 111, 119]⟩, .string ⟨#[104, 97, 105, 108]⟩, .string ⟨#[82, 101, 103, 101, 110]⟩, .string ⟨#[83, 99, 104, 110, 101, 101]⟩, .string ⟨#[72, 97, 103, 101, 108]⟩, .string ⟨#[100, 101, 115, 122, 99, 122]⟩, .string ⟨#[197, 155, 110, 105, 101, 103]⟩, .string ⟨#[103, 114, 97, 100]⟩] 9) := ⟨_, rfl⟩
  rw [← hv0]
  have a3_0 := cell_al2 (ob := (Obj.cells #[.string ⟨#[]⟩, .string ⟨#[114, 97, 105, 110]⟩, .string ⟨#[115, 110, 111, 119]⟩, .string ⟨#[104, 97, 105, 108]⟩, .string ⟨#[82, 101, 103, 101, 110]⟩, .string ⟨#[83, 99, 104, 110, 101, 101]⟩, .string ⟨#[72, 97, 103, 101, 108]⟩, .string ⟨#[100, 101, 115, 122, 99, 122]⟩, .string ⟨#[197, 155, 110, 105, 101, 103]⟩, .string ⟨#[103, 114, 97, 100]⟩] 9)) y3
  have a4_0 := cell_al2 (ob := (Obj.cells #[.string ⟨#[]⟩, .string ⟨#[114, 97, 105, 110]⟩, .string ⟨#[115, 110, 111, 119]⟩, .string ⟨#[104, 97, 105, 108]⟩, .string ⟨#[82, 101, 103, 101, 110]⟩, .string ⟨#[83, 99, 104, 110, 101, 101]⟩, .string ⟨#[72, 97, 103, 101, 108]⟩, .string ⟨#[100, 101, 115, 122, 99, 122]⟩, .string ⟨#[197, 155, 110, 105, 101, 103]⟩, .string ⟨#[103, 114, 97, 100]⟩] 9)) y4
  have C0 : Hid (Below w.heap.size w (w0.alloc (Obj.cells #[.string ⟨#[]⟩, .string ⟨#[114, 97, 105, 110]⟩, .string ⟨#[115, 110, 111, 119]⟩, .string ⟨#[104, 97, 105, 108]⟩, .string ⟨#[82, 101, 103, 101, 110]⟩, .string ⟨#[83, 99, 104, 110, 101, 101]⟩, .string ⟨#[72, 97, 103, 101, 108]⟩, .string ⟨#[100, 101, 115, 122, 99, 122]⟩, .string ⟨#[197, 155, 110, 105, 101, 103]⟩, .string ⟨#[103, 114, 97, 100]⟩] 9))) := B0.out.alloc B0.out.size _
  rw [← hv0] at a3_0 a4_0 C0
  clear hv0 y3 y4 B0
  go_upto_region 5 with fail
  obtain ⟨v1, hv1⟩ : ∃ x, x = v0.alloc (Obj.cells #[.string ⟨#[]⟩, .string ⟨#[32, 105, 110, 32]⟩, .string ⟨#[32, 97, 110, 32]⟩, .string ⟨#[32, 119, 32]⟩] 9) := ⟨_, rfl⟩
  rw [← hv1]
  have a3_1 := cell_al2 (ob := (Obj.cells #[.string ⟨#[]⟩, .string ⟨#[32, 105, 110, 32]⟩, .string ⟨#[32, 97, 110, 32]⟩, .string ⟨#[32, 119, 32]⟩] 9)) a3_0
  have a4_1 := cell_al2 (ob := (Obj.cells #[.string ⟨#[]⟩, .string ⟨#[32, 105, 110, 32]⟩, .string ⟨#[32, 97, 110, 32]⟩, .string ⟨#[32, 119, 32]⟩] 9)) a4_0
  have C1 : Hid (Below w.heap.size w (v0.alloc (Obj.cells #[.string ⟨#[]⟩, .string ⟨#[32, 105, 110, 32]⟩, .string ⟨#[32, 97, 110, 32]⟩, .string ⟨#[32, 119, 32]⟩] 9))) := C0.out.alloc C0.out.size _
  rw [← hv1] at a3_1 a4_1 C1
  clear hv1 a3_0 a4_0 C0
  go_upto_region 6 with fail
  obtain ⟨v2, hv2⟩ : ∃ x, x = v1.alloc (Obj.cells #[.string ⟨#[]⟩, .string ⟨#[112, 108, 97, 99, 101, 115]⟩, .string ⟨#[79, 114, 116, 101, 110]⟩, .string ⟨#[109, 105, 101, 106, 115, 99, 97, 99, 104]⟩] 9) := ⟨_, rfl⟩
  rw [← hv2]
  have a3_2 := cell_al2 (ob := (Obj.cells #[.string ⟨#[]⟩, .string ⟨#[112, 108, 97, 99, 101, 115]⟩, .string ⟨#[79, 114, 116, 101, 110]⟩, .string ⟨#[109, 105, 101, 106, 115, 99, 97, 99, 104]⟩] 9)) a3_1
  have a4_2 := cell_al2 (ob := (Obj.cells #[.string ⟨#[]⟩, .string ⟨#[112, 108, 97, 99, 101, 115]⟩, .string ⟨#[79, 114, 116, 101, 110]⟩, .string ⟨#[109, 105, 101, 106, 115, 99, 97, 99, 104]⟩] 9)) a4_1
  have C2 : Hid (Below w.heap.size w (v1.alloc (Obj.cells #[.string ⟨#[]⟩, .string ⟨#[112, 108, 97, 99, 101, 115]⟩, .string ⟨#[79, 114, 116, 101, 110]⟩, .string ⟨#[109, 105, 101, 106, 115, 99, 97, 99, 104]⟩] 9))) := C1.out.alloc C1.out.size _
  rw [← hv2] at a3_2 a4_2 C2
  clear hv2 a3_1 a4_1 C1
  go_wp2_with fail
  refine (FD.out _).mono ?_
  rintro e w2 ⟨rfl, hb2⟩
  have BF : Hid (Below w.heap.size w w2) := C2.out.trans (hb2.mono C2.out.size)
  clear hb2
  go_wp2_with fail
  go_ret
  exact ⟨rfl, BF.out⟩
set_option maxHeartbeats 1000000 in
set_option maxRecDepth 20000 in
theorem srain_more22 (d f l r p : Int) (PP R : List UInt8) (w : World) (hr : r = 2) (hp : p ≠ 1) (hPP : PP.length ≤ 200) (hR : R = [83, 99, 104, 110, 101, 101] ++ [32, 97, 110, 32] ++ PP ++ [32] ++ [79, 114, 116, 101, 110])
    (FD : Hid (∀ X, Calls Tryd.prog 33 #[.int .i64 p] X fun e w' => e = .returned (.string ⟨PP.toArray⟩) ∧ Below X.heap.size X w')) :
    Calls Tryd.prog 26 #[.agg #[.int .i64 d, .int .i64 f, .int .i64 l, .int .i64 r, .int .i64 p], .int .i64 2] w fun e w' => e = .returned (.string ⟨R.toArray⟩) ∧ Below w.heap.size w w' := by
  obtain ⟨A0, hA0⟩ : ∃ A, A = ([83, 99, 104, 110, 101, 101] : List UInt8) ++ [32, 97, 110, 32] := ⟨_, rfl⟩
  have lA0 : A0.length = 6 + 4 := by rw [hA0]; simp <;> omega
  have eA0 : (⟨#[83, 99, 104, 110, 101, 101]⟩ : ByteArray) ++ ⟨#[32, 97, 110, 32]⟩ = ⟨A0.toArray⟩ := by rw [hA0]; exact cat [83, 99, 104, 110, 101, 101] [32, 97, 110, 32]
  have uA0 : ¬ 9223372036854775807 < 6 + 4 := by omega
  obtain ⟨A1, hA1⟩ : ∃ A, A = A0 ++ PP := ⟨_, rfl⟩
  have lA1 : A1.length = A0.length + PP.length := by rw [hA1]; simp <;> omega
  have eA1 : (⟨A0.toArray⟩ : ByteArray) ++ ⟨PP.toArray⟩ = ⟨A1.toArray⟩ := by rw [hA1]; exact cat A0 PP
  have uA1 : ¬ 9223372036854775807 < A0.length + PP.length := by omega
  obtain ⟨A2, hA2⟩ : ∃ A, A = A1 ++ [32] := ⟨_, rfl⟩
  have lA2 : A2.length = A1.length + 1 := by rw [hA2]; simp <;> omega
  have eA2 : (⟨A1.toArray⟩ : ByteArray) ++ ⟨#[32]⟩ = ⟨A2.toArray⟩ := by rw [hA2]; exact cat A1 [32]
  have uA2 : ¬ 9223372036854775807 < A1.length + 1 := by omega
  obtain ⟨A3, hA3⟩ : ∃ A, A = A2 ++ [79, 114, 116, 101, 110] := ⟨_, rfl⟩
  have lA3 : A3.length = A2.length + 5 := by rw [hA3]; simp <;> omega
  have eA3 : (⟨A2.toArray⟩ : ByteArray) ++ ⟨#[79, 114, 116, 101, 110]⟩ = ⟨A3.toArray⟩ := by rw [hA3]; exact cat A2 [79, 114, 116, 101, 110]
  have uA3 : ¬ 9223372036854775807 < A2.length + 5 := by omega
  have hRR : R = A3 := by rw [hR, hA3, hA2, hA1, hA0]
  subst hRR
  clear hR hA0 hA1 hA2 hA3 lA0 lA1 lA2 lA3
  subst r
  have pb : (p == 1) = false := by simpa using hp
  obtain ⟨w0, hw0⟩ : ∃ w0, w0 = w.alloc (.cells #[.int .i64 d, .int .i64 f, .int .i64 l, .int .i64 2, .int .i64 p] 23) := ⟨_, rfl⟩
  have HW : Hid (w0 = w.alloc (.cells #[.int .i64 d, .int .i64 f, .int .i64 l, .int .i64 2, .int .i64 p] 23)) := hw0
  have B0 : Hid (Below w.heap.size w w0) := (by show Below _ _ _; rw [hw0]; exact (Below.refl _ _).alloc (Nat.le_refl _) _)
  have z0 : w.heap.size < w0.heap.size := by rw [hw0]; simp
  have y3 : w0.cell? ⟨w.heap.size, 3, none⟩ = some (.int .i64 2) := by rw [hw0]; simp [go_sem]
  have y4 : w0.cell? ⟨w.heap.size, 4, none⟩ = some (.int .i64 p) := by rw [hw0]; simp [go_sem]
  clear hw0
  go_enter Tryd.func26, Tryd.ntmps26
  go_upto_region 1 with fail
  rw [← HW.out]
  clear HW
  go_upto_region 4 with fail
  obtain ⟨v0, hv0⟩ : ∃ x, x = w0.alloc (Obj.cells #[.string ⟨#[]⟩, .string ⟨#[114, 97, 105, 110]⟩, .string ⟨#[115, 110, 111, 119]⟩, .string ⟨#[104, 97, 105, 108]⟩, .string ⟨#[82, 101, 103, 101, 110]⟩, .string ⟨#[83, 99, 104, 110, 101, 101]⟩, .string ⟨#[72, 97, 103, 101, 108]⟩, .string ⟨#[100, 101, 115, 122, 99, 122]⟩, .string ⟨#[197, 155, 110, 105, 101, 103]⟩, .string ⟨#[103, 114, 97, 100]⟩] 9) := ⟨_, rfl⟩
  rw [← hv0]
  have a3_0 := cell_al2 (ob := (Obj.cells #[.string ⟨#[]⟩, .string ⟨#[114, 97, 105, 110]⟩, .string ⟨#[115, 110, 111, 119]⟩, .string ⟨#[104, 97, 105, 108]⟩, .string ⟨#[82, 101, 103, 101, 110]⟩, .string ⟨#[83, 99, 104, 110, 101, 101]⟩, .string ⟨#[72, 97, 103, 101, 108]⟩, .string ⟨#[100, 101, 115, 122, 99, 122]⟩, .string ⟨#[197, 155, 110, 105, 101, 103]⟩, .string ⟨#[103, 114, 97, 100]⟩] 9)) y3
  have a4_0 := cell_al2 (ob := (Obj.cells #[.string ⟨#[]⟩, .string ⟨#[114, 97, 105, 110]⟩, .string ⟨#[115, 110, 111, 119]⟩, .string ⟨#[104, 97, 105, 108]⟩, .string ⟨#[82, 101, 103, 101, 110]⟩, .string ⟨#[83, 99, 104, 110, 101, 101]⟩, .string ⟨#[72, 97, 103, 101, 108]⟩, .string ⟨#[100, 101, 115, 122, 99, 122]⟩, .string ⟨#[197, 155, 110, 105, 101, 103]⟩, .string ⟨#[103, 114, 97, 100]⟩] 9)) y4
  have C0 : Hid (Below w.heap.size w (w0.alloc (Obj.cells #[.string ⟨#[]⟩, .string ⟨#[114, 97, 105, 110]⟩, .string ⟨#[115, 110, 111, 119]⟩, .string ⟨#[104, 97, 105, 108]⟩, .string ⟨#[82, 101, 103, 101, 110]⟩, .string ⟨#[83, 99, 104, 110, 101, 101]⟩, .string ⟨#[72, 97, 103, 101, 108]⟩, .string ⟨#[100, 101, 115, 122, 99, 122]⟩, .string ⟨#[197, 155, 110, 105, 101, 103]⟩, .string ⟨#[103, 114, 97, 100]⟩] 9))) := B0.out.alloc B0.out.size _
  rw [← hv0] at a3_0 a4_0 C0
  clear hv0 y3 y4 B0
  go_upto_region 5 with fail
  obtain ⟨v1, hv1⟩ : ∃ x, x = v0.alloc (Obj.cells #[.string ⟨#[]⟩, .string ⟨#[32, 105, 110, 32]⟩, .string ⟨#[32, 97, 110, 32]⟩, .string ⟨#[32, 119, 32]⟩] 9) := ⟨_, rfl⟩
  rw [← hv1]
  have a3_1 := cell_al2 (ob := (Obj.cells #[.string ⟨#[]⟩, .string ⟨#[32, 105, 110, 32]⟩, .string ⟨#[32, 97, 110, 32]⟩, .string ⟨#[32, 119, 32]⟩] 9)) a3_0
  have a4_1 := cell_al2 (ob := (Obj.cells #[.string ⟨#[]⟩, .string ⟨#[32, 105, 110, 32]⟩, .string ⟨#[32, 97, 110, 32]⟩, .string ⟨#[32, 119, 32]⟩] 9)) a4_0
  have C1 : Hid (Below w.heap.size w (v0.alloc (Obj.cells #[.string ⟨#[]⟩, .string ⟨#[32, 105, 110, 32]⟩, .string ⟨#[32, 97, 110, 32]⟩, .string ⟨#[32, 119, 32]⟩] 9))) := C0.out.alloc C0.out.size _
  rw [← hv1] at a3_1 a4_1 C1
  clear hv1 a3_0 a4_0 C0
  go_upto_region 6 with fail
  obtain ⟨v2, hv2⟩ : ∃ x, x = v1.alloc (Obj.cells #[.string ⟨#[]⟩, .string ⟨#[112, 108, 97, 99, 101, 115]⟩, .string ⟨#[79, 114, 116, 101, 110]⟩, .string ⟨#[109, 105, 101, 106, 115, 99, 97, 99, 104]⟩] 9) := ⟨_, rfl⟩
  rw [← hv2]
  have a3_2 := cell_al2 (ob := (Obj.cells #[.string ⟨#[]⟩, .string ⟨#[112, 108, 97, 99, 101, 115]⟩, .string ⟨#[79, 114, 116, 101, 110]⟩, .string ⟨#[109, 105, 101, 106, 115, 99, 97, 99, 104]⟩] 9)) a3_1
  have a4_2 := cell_al2 (ob := (Obj.cells #[.string ⟨#[]⟩, .string ⟨#[112, 108, 97, 99, 101, 115]⟩, .string ⟨#[79, 114, 116, 101, 110]⟩, .string ⟨#[109, 105, 101, 106, 115, 99, 97, 99, 104]⟩] 9)) a4_1
  have C2 : Hid (Below w.heap.size w (v1.alloc (Obj.cells #[.string ⟨#[]⟩, .string ⟨#[112, 108, 97, 99, 101, 115]⟩, .string ⟨#[79, 114, 116, 101, 110]⟩, .string ⟨#[109, 105, 101, 106, 115, 99, 97, 99, 104]⟩] 9))) := C1.out.alloc C1.out.size _
  rw [← hv2] at a3_2 a4_2 C2
  clear hv2 a3_1 a4_1 C1
  go_wp2_with fail
  refine (FD.out _).mono ?_
  rintro e w2 ⟨rfl, hb2⟩
  have BF : Hid (Below w.heap.size w w2) := C2.out.trans (hb2.mono C2.out.size)
  clear hb2
  go_wp2_with fail
  go_ret
  exact ⟨rfl, BF.out⟩
set_option maxHeartbeats 1000000 in
set_option maxRecDepth 20000 in
theorem srain_more23 (d f l r p : Int) (PP R : List UInt8) (w : World) (hr : r = 3) (hp : p ≠ 1) (hPP : PP.length ≤ 200) (hR : R = [72, 97, 103, 101, 108] ++ [32, 97, 110, 32] ++ PP ++ [32] ++ [79, 114, 116, 101, 110])
    (FD : Hid (∀ X, Calls Tryd.prog 33 #[.int .i64 p] X fun e w' => e = .returned (.string ⟨PP.toArray⟩) ∧ Below X.heap.size X w')) :
    Calls Tryd.prog 26 #[.agg #[.int .i64 d, .int .i64 f, .int .i64 l, .int .i64 r, .int .i64 p], .int .i64 2] w fun e w' => e = .returned (.string ⟨R.toArray⟩) ∧ Below w.heap.size w w' := by
  obtain ⟨A0, hA0⟩ : ∃ A, A = ([72, 97, 103, 101, 108] : List UInt8) ++ [32, 97, 110, 32] := ⟨_, rfl⟩
  have lA0 : A0.length = 5 + 4 := by rw [hA0]; simp <;> omega
  have eA0 : (⟨#[72, 97, 103, 101, 108]⟩ : ByteArray) ++ ⟨#[32, 97, 110, 32]⟩ = ⟨A0.toArray⟩ := by rw [hA0]; exact cat [72, 97, 103, 101, 108] [32, 97, 110, 32]
  have uA0 : ¬ 9223372036854775807 < 5 + 4 := by omega
  obtain ⟨A1, hA1⟩ : ∃ A, A = A0 ++ PP := ⟨_, rfl⟩
  have lA1 : A1.length = A0.length + PP.length := by rw [hA1]; simp <;> omega
  have eA1 : (⟨A0.toArray⟩ : ByteArray) ++ ⟨PP.toArray⟩ = ⟨A1.toArray⟩ := by rw [hA1]; exact cat A0 PP
  have uA1 : ¬ 9223372036854775807 < A0.length + PP.length := by omega
  obtain ⟨A2, hA2⟩ : ∃ A, A = A1 ++ [32] := ⟨_, rfl⟩
  have lA2 : A2.length = A1.length + 1 := by rw [hA2]; simp <;> omega
  have eA2 : (⟨A1.toArray⟩ : ByteArray) ++ ⟨#[32]⟩ = ⟨A2.toArray⟩ := by rw [hA2]; exact cat A1 [32]
  have uA2 : ¬ 9223372036854775807 < A1.length + 1 := by omega
  obtain ⟨A3, hA3⟩ : ∃ A, A = A2 ++ [79, 114, 116, 101, 110] := ⟨_, rfl⟩
  have lA3 : A3.length = A2.length + 5 := by rw [hA3]; simp <;> omega
  have eA3 : (⟨A2.toArray⟩ : ByteArray) ++ ⟨#[79, 114, 116, 101, 110]⟩ = ⟨A3.toArray⟩ := by rw [hA3]; exact cat A2 [79, 114, 116, 101, 110]
  have uA3 : ¬ 9223372036854775807 < A2.length + 5 := by omega
  have hRR : R = A3 := by rw [hR, hA3, hA2, hA1, hA0]
  subst hRR
  clear hR hA0 hA1 hA2 hA3 lA0 lA1 lA2 lA3
  subst r
  have pb : (p == 1) = false := by simpa using hp
  obtain ⟨w0, hw0⟩ : ∃ w0, w0 = w.alloc (.cells #[.int .i64 d, .int .i64 f, .int .i64 l, .int .i64 3, .int .i64 p] 23) := ⟨_, rfl⟩
  have HW : Hid (w0 = w.alloc (.cells #[.int .i64 d, .int .i64 f, .int .i64 l, .int .i64 3, .int .i64 p] 23)) := hw0
  have B0 : Hid (Below w.heap.size w w0) := (by show Below _ _ _; rw [hw0]; exact (Below.refl _ _).alloc (Nat.le_refl _) _)
  have z0 : w.heap.size < w0.heap.size := by rw [hw0]; simp
  have y3 : w0.cell? ⟨w.heap.size, 3, none⟩ = some (.int .i64 3) := by rw [hw0]; simp [go_sem]
  have y4 : w0.cell? ⟨w.heap.size, 4, none⟩ = some (.int .i64 p) := by rw [hw0]; simp [go_sem]
  clear hw0
  go_enter Tryd.func26, Tryd.ntmps26
  go_upto_region 1 with fail
  rw [← HW.out]
  clear HW
  go_upto_region 4 with fail
  obtain ⟨v0, hv0⟩ : ∃ x, x = w0.alloc (Obj.cells #[.string ⟨#[]⟩, .string ⟨#[114, 97, 105, 110]⟩, .string ⟨#[115, 110, 111, 119]⟩, .string ⟨#[104, 97, 105, 108]⟩, .string ⟨#[82, 101, 103, 101, 110]⟩, .string ⟨#[83, 99, 104, 110, 101, 101]⟩, .string ⟨#[72, 97, 103, 101, 108]⟩, .string ⟨#[100, 101, 115, 122, 99, 122]⟩, .string ⟨#[197, 155, 110, 105, 101, 103]⟩, .string ⟨#[103, 114, 97, 100]⟩] 9) := ⟨_, rfl⟩
  rw [← hv0]
  have a3_0 := cell_al2 (ob := (Obj.cells #[.string ⟨#[]⟩, .string ⟨#[114, 97, 105, 110]⟩, .string ⟨#[115, 110, 111, 119]⟩, .string ⟨#[104, 97, 105, 108]⟩, .string ⟨#[82, 101, 103, 101, 110]⟩, .string ⟨#[83, 99, 104, 110, 101, 101]⟩, .string ⟨#[72, 97, 103, 101, 108]⟩, .string ⟨#[100, 101, 115, 122, 99, 122]⟩, .string ⟨#[197, 155, 110, 105, 101, 103]⟩, .string ⟨#[103, 114, 97, 100]⟩] 9)) y3
  have a4_0 := cell_al2 (ob := (Obj.cells #[.string ⟨#[]⟩, .string ⟨#[114, 97, 105, 110]⟩, .string ⟨#[115, 110, 111, 119]⟩, .string ⟨#[104, 97, 105, 108]⟩, .string ⟨#[82, 101, 103, 101, 110]⟩, .string ⟨#[83, 99, 104, 110, 101, 101]⟩, .string ⟨#[72, 97, 103, 101, 108]⟩, .string ⟨#[100, 101, 115, 122, 99, 122]⟩, .string ⟨#[197, 155, 110, 105, 101, 103]⟩, .string ⟨#[103, 114, 97, 100]⟩] 9)) y4
  have C0 : Hid (Below w.heap.size w (w0.alloc (Obj.cells #[.string ⟨#[]⟩, .string ⟨#[114, 97, 105, 110]⟩, .string ⟨#[115, 110, 111, 119]⟩, .string ⟨#[104, 97, 105, 108]⟩, .string ⟨#[82, 101, 103, 101, 110]⟩, .string ⟨#[83, 99, 104, 110, 101, 101]⟩, .string ⟨#[72, 97, 103, 101, 108]⟩, .string ⟨#[100, 101, 115, 122, 99, 122]⟩, .string ⟨#[197, 155, 110, 105, 101, 103]⟩, .string ⟨#[103, 114, 97, 100]⟩] 9))) := B0.out.alloc B0.out.size _
  rw [← hv0] at a3_0 a4_0 C0
  clear hv0 y3 y4 B0
  go_upto_region 5 with fail
  obtain ⟨v1, hv1⟩ : ∃ x, x = v0.alloc (Obj.cells #[.string ⟨#[]⟩, .string ⟨#[32, 105, 110, 32]⟩, .string ⟨#[32, 97, 110, 32]⟩, .string ⟨#[32, 119, 32]⟩] 9) := ⟨_, rfl⟩
  rw [← hv1]
  have a3_1 := cell_al2 (ob := (Obj.cells #[.string ⟨#[]⟩, .string ⟨#[32, 105, 110, 32]⟩, .string ⟨#[32, 97, 110, 32]⟩, .string ⟨#[32, 119, 32]⟩] 9)) a3_0
  have a4_1 := cell_al2 (ob := (Obj.cells #[.string ⟨#[]⟩, .string ⟨#[32, 105, 110, 32]⟩, .string ⟨#[32, 97, 110, 32]⟩, .string ⟨#[32, 119, 32]⟩] 9)) a4_0
  have C1 : Hid (Below w.heap.size w (v0.alloc (Obj.cells #[.string ⟨#[]⟩, .string ⟨#[32, 105, 110, 32]⟩, .string ⟨#[32, 97, 110, 32]⟩, .string ⟨#[32, 119, 32]⟩] 9))) := C0.out.alloc C0.out.size _
  rw [← hv1] at a3_1 a4_1 C1
  clear hv1 a3_0 a4_0 C0
  go_upto_region 6 with fail
  obtain ⟨v2, hv2⟩ : ∃ x, x = v1.alloc (Obj.cells #[.string ⟨#[]⟩, .string ⟨#[112, 108, 97, 99, 101, 115]⟩, .string ⟨#[79, 114, 116, 101, 110]⟩, .string ⟨#[109, 105, 101, 106, 115, 99, 97, 99, 104]⟩] 9) := ⟨_, rfl⟩
  rw [← hv2]
  have a3_2 := cell_al2 (ob := (Obj.cells #[.string ⟨#[]⟩, .string ⟨#[112, 108, 97, 99, 101, 115]⟩, .string ⟨#[79, 114, 116, 101, 110]⟩, .string ⟨#[109, 105, 101, 106, 115, 99, 97, 99, 104]⟩] 9)) a3_1
  have a4_2 := cell_al2 (ob := (Obj.cells #[.string ⟨#[]⟩, .string ⟨#[112, 108, 97, 99, 101, 115]⟩, .string ⟨#[79, 114, 116, 101, 110]⟩, .string ⟨#[109, 105, 101, 106, 115, 99, 97, 99, 104]⟩] 9)) a4_1
  have C2 : Hid (Below w.heap.size w (v1.alloc (Obj.cells #[.string ⟨#[]⟩, .string ⟨#[112, 108, 97, 99, 101, 115]⟩, .string ⟨#[79, 114, 116, 101, 110]⟩, .string ⟨#[109, 105, 101, 106, 115, 99, 97, 99, 104]⟩] 9))) := C1.out.alloc C1.out.size _
  rw [← hv2] at a3_2 a4_2 C2
  clear hv2 a3_1 a4_1 C1
  go_wp2_with fail
  refine (FD.out _).mono ?_
  rintro e w2 ⟨rfl, hb2⟩
  have BF : Hid (Below w.heap.size w w2) := C2.out.trans (hb2.mono C2.out.size)
  clear hb2
  go_wp2_with fail
  go_ret
  exact ⟨rfl, BF.out⟩
set_option maxHeartbeats 1000000 in
theorem srain_dry3 (d f l r p : Int) (w : World) (hr : r = 0) : Calls Tryd.prog 26 #[.agg #[.int .i64 d, .int .i64 f, .int .i64 l, .int .i64 r, .int .i64 p], .int .i64 3] w fun e w' => e = .returned (.string ⟨#[115, 117, 99, 104, 111]⟩) ∧ Below w.heap.size w w' := by
  subst r
  obtain ⟨w0, hw0⟩ : ∃ w0, w0 = w.alloc (.cells #[.int .i64 d, .int .i64 f, .int .i64 l, .int .i64 0, .int .i64 p] 23) := ⟨_, rfl⟩
  have HW : Hid (w0 = w.alloc (.cells #[.int .i64 d, .int .i64 f, .int .i64 l, .int .i64 0, .int .i64 p] 23)) := hw0
  have B0 : Hid (Below w.heap.size w w0) := (by show Below _ _ _; rw [hw0]; exact (Below.refl _ _).alloc (Nat.le_refl _) _)
  have z0 : w.heap.size < w0.heap.size := by rw [hw0]; simp
  have y3 : w0.cell? ⟨w.heap.size, 3, none⟩ = some (.int .i64 0) := by rw [hw0]; simp [go_sem]
  clear hw0
  go_enter Tryd.func26, Tryd.ntmps26
  go_upto_region 1 with fail
  rw [← HW.out]
  go_wp2_with fail
  go_ret
  exact ⟨rfl, B0.out.alloc B0.out.size _⟩
set_option maxHeartbeats 1000000 in
set_option maxRecDepth 20000 in
theorem srain_one31 (d f l r p : Int) (PP R : List UInt8) (w : World) (hr : r = 1) (hp : p = 1) (hPP : PP.length ≤ 200) (hR : R = [100, 101, 115, 122, 99, 122] ++ [32, 119, 32] ++ PP ++ [32] ++ [109, 105, 101, 106, 115, 99, 117])
    (FD : Hid (∀ X, Calls Tryd.prog 33 #[.int .i64 p] X fun e w' => e = .returned (.string ⟨PP.toArray⟩) ∧ Below X.heap.size X w')) :
    Calls Tryd.prog 26 #[.agg #[.int .i64 d, .int .i64 f, .int .i64 l, .int .i64 r, .int .i64 p], .int .i64 3] w fun e w' => e = .returned (.string ⟨R.toArray⟩) ∧ Below w.heap.size w w' := by
  obtain ⟨A0, hA0⟩ : ∃ A, A = ([100, 101, 115, 122, 99, 122] : List UInt8) ++ [32, 119, 32] := ⟨_, rfl⟩
  have lA0 : A0.length = 6 + 3 := by rw [hA0]; simp <;> omega
  have eA0 : (⟨#[100, 101, 115, 122, 99, 122]⟩ : ByteArray) ++ ⟨#[32, 119, 32]⟩ = ⟨A0.toArray⟩ := by rw [hA0]; exact cat [100, 101, 115, 122, 99, 122] [32, 119, 32]
  have uA0 : ¬ 9223372036854775807 < 6 + 3 := by omega
  obtain ⟨A1, hA1⟩ : ∃ A, A = A0 ++ PP := ⟨_, rfl⟩
  have lA1 : A1.length = A0.length + PP.length := by rw [hA1]; simp <;> omega
  have eA1 : (⟨A0.toArray⟩ : ByteArray) ++ ⟨PP.toArray⟩ = ⟨A1.toArray⟩ := by rw [hA1]; exact cat A0 PP
  have uA1 : ¬ 9223372036854775807 < A0.length + PP.length := by omega
  obtain ⟨A2, hA2⟩ : ∃ A, A = A1 ++ [32] := ⟨_, rfl⟩
  have lA2 : A2.length = A1.length + 1 := by rw [hA2]; simp <;> omega
  have eA2 : (⟨A1.toArray⟩ : ByteArray) ++ ⟨#[32]⟩ = ⟨A2.toArray⟩ := by rw [hA2]; exact cat A1 [32]
  have uA2 : ¬ 9223372036854775807 < A1.length + 1 := by omega
  obtain ⟨A3, hA3⟩ : ∃ A, A = A2 ++ [109, 105, 101, 106, 115, 99, 117] := ⟨_, rfl⟩
  have lA3 : A3.length = A2.length + 7 := by rw [hA3]; simp <;> omega
  have eA3 : (⟨A2.toArray⟩ : ByteArray) ++ ⟨#[109, 105, 101, 106, 115, 99, 117]⟩ = ⟨A3.toArray⟩ := by rw [hA3]; exact cat A2 [109, 105, 101, 106, 115, 99, 117]
  have uA3 : ¬ 9223372036854775807 < A2.length + 7 := by omega
  have hRR : R = A3 := by rw [hR, hA3, hA2, hA1, hA0]
  subst hRR
  clear hR hA0 hA1 hA2 hA3 lA0 lA1 lA2 lA3
  subst r
  subst p
  obtain ⟨w0, hw0⟩ : ∃ w0, w0 = w.alloc (.cells #[.int .i64 d, .int .i64 f, .int .i64 l, .int .i64 1, .int .i64 1] 23) := ⟨_, rfl⟩
  have HW : Hid (w0 = w.alloc (.cells #[.int .i64 d, .int .i64 f, .int .i64 l, .int .i64 1, .int .i64 1] 23)) := hw0
  have B0 : Hid (Below w.heap.size w w0) := (by show Below _ _ _; rw [hw0]; exact (Below.refl _ _).alloc (Nat.le_refl _) _)
  have z0 : w.heap.size < w0.heap.size := by rw [hw0]; simp
  have y3 : w0.cell? ⟨w.heap.size, 3, none⟩ = some (.int .i64 1) := by rw [hw0]; simp [go_sem]
  have y4 : w0.cell? ⟨w.heap.size, 4, none⟩ = some (.int .i64 1) := by rw [hw0]; simp [go_sem]
  clear hw0
  go_enter Tryd.func26, Tryd.ntmps26
  go_upto_region 1 with fail
  rw [← HW.out]
  clear HW
  go_upto_region 4 with fail
  obtain ⟨v0, hv0⟩ : ∃ x, x = w0.alloc (Obj.cells #[.string ⟨#[]⟩, .string ⟨#[114, 97, 105, 110]⟩, .string ⟨#[115, 110, 111, 119]⟩, .string ⟨#[104, 97, 105, 108]⟩, .string ⟨#[82, 101, 103, 101, 110]⟩, .string ⟨#[83, 99, 104, 110, 101, 101]⟩, .string ⟨#[72, 97, 103, 101, 108]⟩, .string ⟨#[100, 101, 115, 122, 99, 122]⟩, .string ⟨#[197, 155, 110, 105, 101, 103]⟩, .string ⟨#[103, 114, 97, 100]⟩] 9) := ⟨_, rfl⟩
  rw [← hv0]
  have a3_0 := cell_al2 (ob := (Obj.cells #[.string ⟨#[]⟩, .string ⟨#[114, 97, 105, 110]⟩, .string ⟨#[115, 110, 111, 119]⟩, .string ⟨#[104, 97, 105, 108]⟩, .string ⟨#[82, 101, 103, 101, 110]⟩, .string ⟨#[83, 99, 104, 110, 101, 101]⟩, .string ⟨#[72, 97, 103, 101, 108]⟩, .string ⟨#[100, 101, 115, 122, 99, 122]⟩, .string ⟨#[197, 155, 110, 105, 101, 103]⟩, .string ⟨#[103, 114, 97, 100]⟩] 9)) y3
  have a4_0 := cell_al2 (ob := (Obj.cells #[.string ⟨#[]⟩, .string ⟨#[114, 97, 105, 110]⟩, .string ⟨#[115, 110, 111, 119]⟩, .string ⟨#[104, 97, 105, 108]⟩, .string ⟨#[82, 101, 103, 101, 110]⟩, .string ⟨#[83, 99, 104, 110, 101, 101]⟩, .string ⟨#[72, 97, 103, 101, 108]⟩, .string ⟨#[100, 101, 115, 122, 99, 122]⟩, .string ⟨#[197, 155, 110, 105, 101, 103]⟩, .string ⟨#[103, 114, 97, 100]⟩] 9)) y4
  have C0 : Hid (Below w.heap.size w (w0.alloc (Obj.cells #[.string ⟨#[]⟩, .string ⟨#[114, 97, 105, 110]⟩, .string ⟨#[115, 110, 111, 119]⟩, .string ⟨#[104, 97, 105, 108]⟩, .string ⟨#[82, 101, 103, 101, 110]⟩, .string ⟨#[83, 99, 104, 110, 101, 101]⟩, .string ⟨#[72, 97, 103, 101, 108]⟩, .string ⟨#[100, 101, 115, 122, 99, 122]⟩, .string ⟨#[197, 155, 110, 105, 101, 103]⟩, .string ⟨#[103, 114, 97, 100]⟩] 9))) := B0.out.alloc B0.out.size _
  rw [← hv0] at a3_0 a4_0 C0
  clear hv0 y3 y4 B0
  go_upto_region 5 with fail
  obtain ⟨v1, hv1⟩ : ∃ x, x = v0.alloc (Obj.cells #[.string ⟨#[]⟩, .string ⟨#[32, 105, 110, 32]⟩, .string ⟨#[32, 97, 110, 32]⟩, .string ⟨#[32, 119, 32]⟩] 9) := ⟨_, rfl⟩
  rw [← hv1]
  have a3_1 := cell_al2 (ob := (Obj.cells #[.string ⟨#[]⟩, .string ⟨#[32, 105, 110, 32]⟩, .string ⟨#[32, 97, 110, 32]⟩, .string ⟨#[32, 119, 32]⟩] 9)) a3_0
  have a4_1 := cell_al2 (ob := (Obj.cells #[.string ⟨#[]⟩, .string ⟨#[32, 105, 110, 32]⟩, .string ⟨#[32, 97, 110, 32]⟩, .string ⟨#[32, 119, 32]⟩] 9)) a4_0
  have C1 : Hid (Below w.heap.size w (v0.alloc (Obj.cells #[.string ⟨#[]⟩, .string ⟨#[32, 105, 110, 32]⟩, .string ⟨#[32, 97, 110, 32]⟩, .string ⟨#[32, 119, 32]⟩] 9))) := C0.out.alloc C0.out.size _
  rw [← hv1] at a3_1 a4_1 C1
  clear hv1 a3_0 a4_0 C0
  go_upto_region 6 with fail
  obtain ⟨v2, hv2⟩ : ∃ x, x = v1.alloc (Obj.cells #[.string ⟨#[]⟩, .string ⟨#[112, 108, 97, 99, 101, 115]⟩, .string ⟨#[79, 114, 116, 101, 110]⟩, .string ⟨#[109, 105, 101, 106, 115, 99, 97, 99, 104]⟩] 9) := ⟨_, rfl⟩
  rw [← hv2]
  have a3_2 := cell_al2 (ob := (Obj.cells #[.string ⟨#[]⟩, .string ⟨#[112, 108, 97, 99, 101, 115]⟩, .string ⟨#[79, 114, 116, 101, 110]⟩, .string ⟨#[109, 105, 101, 106, 115, 99, 97, 99, 104]⟩] 9)) a3_1
  have a4_2 := cell_al2 (ob := (Obj.cells #[.string ⟨#[]⟩, .string ⟨#[112, 108, 97, 99, 101, 115]⟩, .string ⟨#[79, 114, 116, 101, 110]⟩, .string ⟨#[109, 105, 101, 106, 115, 99, 97, 99, 104]⟩] 9)) a4_1
  have C2 : Hid (Below w.heap.size w (v1.alloc (Obj.cells #[.string ⟨#[]⟩, .string ⟨#[112, 108, 97, 99, 101, 115]⟩, .string ⟨#[79, 114, 116, 101, 110]⟩, .string ⟨#[109, 105, 101, 106, 115, 99, 97, 99, 104]⟩] 9))) := C1.out.alloc C1.out.size _
  rw [← hv2] at a3_2 a4_2 C2
  clear hv2 a3_1 a4_1 C1
  go_upto_region 8 with fail
  obtain ⟨v3, hv3⟩ : ∃ x, x = v2.alloc (Obj.cells #[.string ⟨#[]⟩, .string ⟨#[112, 108, 97, 99, 101]⟩, .string ⟨#[79, 114, 116]⟩, .string ⟨#[109, 105, 101, 106, 115, 99, 117]⟩] 9) := ⟨_, rfl⟩
  rw [← hv3]
  have a3_3 := cell_al2 (ob := (Obj.cells #[.string ⟨#[]⟩, .string ⟨#[112, 108, 97, 99, 101]⟩, .string ⟨#[79, 114, 116]⟩, .string ⟨#[109, 105, 101, 106, 115, 99, 117]⟩] 9)) a3_2
  have a4_3 := cell_al2 (ob := (Obj.cells #[.string ⟨#[]⟩, .string ⟨#[112, 108, 97, 99, 101]⟩, .string ⟨#[79, 114, 116]⟩, .string ⟨#[109, 105, 101, 106, 115, 99, 117]⟩] 9)) a4_2
  have C3 : Hid (Below w.heap.size w (v2.alloc (Obj.cells #[.string ⟨#[]⟩, .string ⟨#[112, 108, 97, 99, 101]⟩, .string ⟨#[79, 114, 116]⟩, .string ⟨#[109, 105, 101, 106, 115, 99, 117]⟩] 9))) := C2.out.alloc C2.out.size _
  rw [← hv3] at a3_3 a4_3 C3
  clear hv3 a3_2 a4_2 C2
  go_wp2_with fail
  refine (FD.out _).mono ?_
  rintro e w2 ⟨rfl, hb2⟩
  have BF : Hid (Below w.heap.size w w2) := C3.out.trans (hb2.mono C3.out.size)
  clear hb2
  go_wp2_with fail
  go_ret
  exact ⟨rfl, BF.out⟩
set_option maxHeartbeats 1000000 in
set_option maxRecDepth 20000 in
theorem srain_one32 (d f l r p : Int) (PP R : List UInt8) (w : World) (hr : r = 2) (hp : p = 1) (hPP : PP.length ≤ 200) (hR : R = [197, 155, 110, 105, 101, 103] ++ [32, 119, 32] ++ PP ++ [32] ++ [109, 105, 101, 106, 115, 99, 117])
    (FD : Hid (∀ X, Calls Tryd.prog 33 #[.int .i64 p] X fun e w' => e = .returned (.string ⟨PP.toArray⟩) ∧ Below X.heap.size X w')) :
    Calls Tryd.prog 26 #[.agg #[.int .i64 d, .int .i64 f, .int .i64 l, .int .i64 r, .int .i64 p], .int .i64 3] w fun e w' => e = .returned (.string ⟨R.toArray⟩) ∧ Below w.heap.size w w' := by
  obtain ⟨A0, hA0⟩ : ∃ A, A = ([197, 155, 110, 105, 101, 103] : List UInt8) ++ [32, 119, 32] := ⟨_, rfl⟩
  have lA0 : A0.length = 6 + 3 := by rw [hA0]; simp <;> omega
  have eA0 : (⟨#[197, 155, 110, 105, 101, 103]⟩ : ByteArray) ++ ⟨#[32, 119, 32]⟩ = ⟨A0.toArray⟩ := by rw [hA0]; exact cat [197, 155, 110, 105, 101, 103] [32, 119, 32]
  have uA0 : ¬ 9223372036854775807 < 6 + 3 := by omega
  obtain ⟨A1, hA1⟩ : ∃ A, A = A0 ++ PP := ⟨_, rfl⟩
  have lA1 : A1.length = A0.length + PP.length := by rw [hA1]; simp <;> omega
  have eA1 : (⟨A0.toArray⟩ : ByteArray) ++ ⟨PP.toArray⟩ = ⟨A1.toArray⟩ := by rw [hA1]; exact cat A0 PP
  have uA1 : ¬ 9223372036854775807 < A0.length + PP.length := by omega
  obtain ⟨A2, hA2⟩ : ∃ A, A = A1 ++ [32] := ⟨_, rfl⟩
  have lA2 : A2.length = A1.length + 1 := by rw [hA2]; simp <;> omega
  have eA2 : (⟨A1.toArray⟩ : ByteArray) ++ ⟨#[32]⟩ = ⟨A2.toArray⟩ := by rw [hA2]; exact cat A1 [32]
  have uA2 : ¬ 9223372036854775807 < A1.length + 1 := by omega
  obtain ⟨A3, hA3⟩ : ∃ A, A = A2 ++ [109, 105, 101, 106, 115, 99, 117] := ⟨_, rfl⟩
  have lA3 : A3.length = A2.length + 7 := by rw [hA3]; simp <;> omega
  have eA3 : (⟨A2.toArray⟩ : ByteArray) ++ ⟨#[109, 105, 101, 106, 115, 99, 117]⟩ = ⟨A3.toArray⟩ := by rw [hA3]; exact cat A2 [109, 105, 101, 106, 115, 99, 117]
  have uA3 : ¬ 9223372036854775807 < A2.length + 7 := by omega
  have hRR : R = A3 := by rw [hR, hA3, hA2, hA1, hA0]
  subst hRR
  clear hR hA0 hA1 hA2 hA3 lA0 lA1 lA2 lA3
  subst r
  subst p
  obtain ⟨w0, hw0⟩ : ∃ w0, w0 = w.alloc (.cells #[.int .i64 d, .int .i64 f, .int .i64 l, .int .i64 2, .int .i64 1] 23) := ⟨_, rfl⟩
  have HW : Hid (w0 = w.alloc (.cells #[.int .i64 d, .int .i64 f, .int .i64 l, .int .i64 2, .int .i64 1] 23)) := hw0
  have B0 : Hid (Below w.heap.size w w0) := (by show Below _ _ _; rw [hw0]; exact (Below.refl _ _).alloc (Nat.le_refl _) _)
  have z0 : w.heap.size < w0.heap.size := by rw [hw0]; simp
  have y3 : w0.cell? ⟨w.heap.size, 3, none⟩ = some (.int .i64 2) := by rw [hw0]; simp [go_sem]
  have y4 : w0.cell? ⟨w.heap.size, 4, none⟩ = some (.int .i64 1) := by rw [hw0]; simp [go_sem]
  clear hw0
  go_enter Tryd.func26, Tryd.ntmps26
  go_upto_region 1 with fail
  rw [← HW.out]
  clear HW
  go_upto_region 4 with fail
  obtain ⟨v0, hv0⟩ : ∃ x, x = w0.alloc (Obj.cells #[.string ⟨#[]⟩, .string ⟨#[114, 97, 105, 110]⟩, .string ⟨#[115, 110, 111, 119]⟩, .string ⟨#[104, 97, 105, 108]⟩, .string ⟨#[82, 101, 103, 101, 110]⟩, .string ⟨#[83, 99, 104, 110, 101, 101]⟩, .string ⟨#[72, 97, 103, 101, 108]⟩, .string ⟨#[100, 101, 115, 122, 99, 122]⟩, .string ⟨#[197, 155, 110, 105, 101, 103]⟩, .string ⟨#[103, 114, 97, 100]⟩] 9) := ⟨_, rfl⟩
  rw [← hv0]
  have a3_0 := cell_al2 (ob := (Obj.cells #[.string ⟨#[]⟩, .string ⟨#[114, 97, 105, 110]⟩, .string ⟨#[115, 110, 111, 119]⟩, .string ⟨#[104, 97, 105, 108]⟩, .string ⟨#[82, 101, 103, 101, 110]⟩, .string ⟨#[83, 99, 104, 110, 101, 101]⟩, .string ⟨#[72, 97, 103, 101, 108]⟩, .string ⟨#[100, 101, 115, 122, 99, 122]⟩, .string ⟨#[197, 155, 110, 105, 101, 103]⟩, .string ⟨#[103, 114, 97, 100]⟩] 9)) y3
  have a4_0 := cell_al2 (ob := (Obj.cells #[.string ⟨#[]⟩, .string ⟨#[114, 97, 105, 110]⟩, .string ⟨#[115, 110, 111, 119]⟩, .string ⟨#[104, 97, 105, 108]⟩, .string ⟨#[82, 101, 103, 101, 110]⟩, .string ⟨#[83, 99, 104, 110, 101, 101]⟩, .string ⟨#[72, 97, 103, 101, 108]⟩, .string ⟨#[100, 101, 115, 122, 99, 122]⟩, .string ⟨#[197, 155, 110, 105, 101, 103]⟩, .string ⟨#[103, 114, 97, 100]⟩] 9)) y4
  have C0 : Hid (Below w.heap.size w (w0.alloc (Obj.cells #[.string ⟨#[]⟩, .string ⟨#[114, 97, 105, 110]⟩, .string ⟨#[115, 110, 111, 119]⟩, .string ⟨#[104, 97, 105, 108]⟩, .string ⟨#[82, 101, 103, 101, 110]⟩, .string ⟨#[83, 99, 104, 110, 101, 101]⟩, .string ⟨#[72, 97, 103, 101, 108]⟩, .string ⟨#[100, 101, 115, 122, 99, 122]⟩, .string ⟨#[197, 155, 110, 105, 101, 103]⟩, .string ⟨#[103, 114, 97, 100]⟩] 9))) := B0.out.alloc B0.out.size _
  rw [← hv0] at a3_0 a4_0 C0
  clear hv0 y3 y4 B0
  go_upto_region 5 with fail
  obtain ⟨v1, hv1⟩ : ∃ x, x = v0.alloc (Obj.cells #[.string ⟨#[]⟩, .string ⟨#[32, 105, 110, 32]⟩, .string ⟨#[32, 97, 110, 32]⟩, .string ⟨#[32, 119, 32]⟩] 9) := ⟨_, rfl⟩
  rw [← hv1]
  have a3_1 := cell_al2 (ob := (Obj.cells #[.string ⟨#[]⟩, .string ⟨#[32, 105, 110, 32]⟩, .string ⟨#[32, 97, 110, 32]⟩, .string ⟨#[32, 119, 32]⟩] 9)) a3_0
  have a4_1 := cell_al2 (ob := (Obj.cells #[.string ⟨#[]⟩, .string ⟨#[32, 105, 110, 32]⟩, .string ⟨#[32, 97, 110, 32]⟩, .string ⟨#[32, 119, 32]⟩] 9)) a4_0
  have C1 : Hid (Below w.heap.size w (v0.alloc (Obj.cells #[.string ⟨#[]⟩, .string ⟨#[32, 105, 110, 32]⟩, .string ⟨#[32, 97, 110, 32]⟩, .string ⟨#[32, 119, 32]⟩] 9))) := C0.out.alloc C0.out.size _
  rw [← hv1] at a3_1 a4_1 C1
  clear hv1 a3_0 a4_0 C0
  go_upto_region 6 with fail
  obtain ⟨v2, hv2⟩ : ∃ x, x = v1.alloc (Obj.cells #[.string ⟨#[]⟩, .string ⟨#[112, 108, 97, 99, 101, 115]⟩, .string ⟨#[79, 114, 116, 101, 110]⟩, .string ⟨#[109, 105, 101, 106, 115, 99, 97, 99, 104]⟩] 9) := ⟨_, rfl⟩
  rw [← hv2]
  have a3_2 := cell_al2 (ob := (Obj.cells #[.string ⟨#[]⟩, .string ⟨#[112, 108, 97, 99, 101, 115]⟩, .string ⟨#[79, 114, 116, 101, 110]⟩, .string ⟨#[109, 105, 101, 106, 115, 99, 97, 99, 104]⟩] 9)) a3_1
  have a4_2 := cell_al2 (ob := (Obj.cells #[.string ⟨#[]⟩, .string ⟨#[112, 108, 97, 99, 101, 115]⟩, .string ⟨#[79, 114, 116, 101, 110]⟩, .string ⟨#[109, 105, 101, 106, 115, 99, 97, 99, 104]⟩] 9)) a4_1
  have C2 : Hid (Below w.heap.size w (v1.alloc (Obj.cells #[.string ⟨#[]⟩, .string ⟨#[112, 108, 97, 99, 101, 115]⟩, .string ⟨#[79, 114, 116, 101, 110]⟩, .string ⟨#[109, 105, 101, 106, 115, 99, 97, 99, 104]⟩] 9))) := C1.out.alloc C1.out.size _
  rw [← hv2] at a3_2 a4_2 C2
  clear hv2 a3_1 a4_1 C1
  go_upto_region 8 with fail
  obtain ⟨v3, hv3⟩ : ∃ x, x = v2.alloc (Obj.cells #[.string ⟨#[]⟩, .string ⟨#[112, 108, 97, 99, 101]⟩, .string ⟨#[79, 114, 116]⟩, .string ⟨#[109, 105, 101, 106, 115, 99, 117]⟩] 9) := ⟨_, rfl⟩
  rw [← hv3]
  have a3_3 := cell_al2 (ob := (Obj.cells #[.string ⟨#[]⟩, .string ⟨#[112, 108, 97, 99, 101]⟩, .string ⟨#[79, 114, 116]⟩, .string ⟨#[109, 105, 101, 106, 115, 99, 117]⟩] 9)) a3_2
  have a4_3 := cell_al2 (ob := (Obj.cells #[.string ⟨#[]⟩, .string ⟨#[112, 108, 97, 99, 101]⟩, .string ⟨#[79, 114, 116]⟩, .string ⟨#[109, 105, 101, 106, 115, 99, 117]⟩] 9)) a4_2
  have C3 : Hid (Below w.heap.size w (v2.alloc (Obj.cells #[.string ⟨#[]⟩, .string ⟨#[112, 108, 97, 99, 101]⟩, .string ⟨#[79, 114, 116]⟩, .string ⟨#[109, 105, 101, 106, 115, 99, 117]⟩] 9))) := C2.out.alloc C2.out.size _
  rw [← hv3] at a3_3 a4_3 C3
  clear hv3 a3_2 a4_2 C2
  go_wp2_with fail
  refine (FD.out _).mono ?_
  rintro e w2 ⟨rfl, hb2⟩
  have BF : Hid (Below w.heap.size w w2) := C3.out.trans (hb2.mono C3.out.size)
  clear hb2
  go_wp2_with fail
  go_ret
  exact ⟨rfl, BF.out⟩
set_option maxHeartbeats 1000000 in
set_option maxRecDepth 20000 in
theorem srain_one33 (d f l r p : Int) (PP R : List UInt8) (w : World) (hr : r = 3) (hp : p = 1) (hPP : PP.length ≤ 200) (hR : R = [103, 114, 97, 100] ++ [32, 119, 32] ++ PP ++ [32] ++ [109, 105, 101, 106, 115, 99, 117])
    (FD : Hid (∀ X, Calls Tryd.prog 33 #[.int .i64 p] X fun e w' => e = .returned (.string ⟨PP.toArray⟩) ∧ Below X.heap.size X w')) :
    Calls Tryd.prog 26 #[.agg #[.int .i64 d, .int .i64 f, .int .i64 l, .int .i64 r, .int .i64 p], .int .i64 3] w fun e w' => e = .returned (.string ⟨R.toArray⟩) ∧ Below w.heap.size w w' := by
  obtain ⟨A0, hA0⟩ : ∃ A, A = ([103, 114, 97, 100] : List UInt8) ++ [32, 119, 32] := ⟨_, rfl⟩
  have lA0 : A0.length = 4 + 3 := by rw [hA0]; simp <;> omega
  have eA0 : (⟨#[103, 114, 97, 100]⟩ : ByteArray) ++ ⟨#[32, 119, 32]⟩ = ⟨A0.toArray⟩ := by rw [hA0]; exact cat [103, 114, 97, 100] [32, 119, 32]
  have uA0 : ¬ 9223372036854775807 < 4 + 3 := by omega
  obtain ⟨A1, hA1⟩ : ∃ A, A = A0 ++ PP := ⟨_, rfl⟩
  have lA1 : A1.length = A0.length + PP.length := by rw [hA1]; simp <;> omega
  have eA1 : (⟨A0.toArray⟩ : ByteArray) ++ ⟨PP.toArray⟩ = ⟨A1.toArray⟩ := by rw [hA1]; exact cat A0 PP
  have uA1 : ¬ 9223372036854775807 < A0.length + PP.length := by omega
  obtain ⟨A2, hA2⟩ : ∃ A, A = A1 ++ [32] := ⟨_, rfl⟩
  have lA2 : A2.length = A1.length + 1 := by rw [hA2]; simp <;> omega
  have eA2 : (⟨A1.toArray⟩ : ByteArray) ++ ⟨#[32]⟩ = ⟨A2.toArray⟩ := by rw [hA2]; exact cat A1 [32]
  have uA2 : ¬ 9223372036854775807 < A1.length + 1 := by omega
  obtain ⟨A3, hA3⟩ : ∃ A, A = A2 ++ [109, 105, 101, 106, 115, 99, 117] := ⟨_, rfl⟩
  have lA3 : A3.length = A2.length + 7 := by rw [hA3]; simp <;> omega
  have eA3 : (⟨A2.toArray⟩ : ByteArray) ++ ⟨#[109, 105, 101, 106, 115, 99, 117]⟩ = ⟨A3.toArray⟩ := by rw [hA3]; exact cat A2 [109, 105, 101, 106, 115, 99, 117]
  have uA3 : ¬ 9223372036854775807 < A2.length + 7 := by omega
  have hRR : R = A3 := by rw [hR, hA3, hA2, hA1, hA0]
  subst hRR
  clear hR hA0 hA1 hA2 hA3 lA0 lA1 lA2 lA3
  subst r
  subst p
  obtain ⟨w0, hw0⟩ : ∃ w0, w0 = w.alloc (.cells #[.int .i64 d, .int .i64 f, .int .i64 l, .int .i64 3, .int .i64 1] 23) := ⟨_, rfl⟩
  have HW : Hid (w0 = w.alloc (.cells #[.int .i64 d, .int .i64 f, .int .i64 l, .int .i64 3, .int .i64 1] 23)) := hw0
  have B0 : Hid (Below w.heap.size w w0) := (by show Below _ _ _; rw [hw0]; exact (Below.refl _ _).alloc (Nat.le_refl _) _)
  have z0 : w.heap.size < w0.heap.size := by rw [hw0]; simp
  have y3 : w0.cell? ⟨w.heap.size, 3, none⟩ = some (.int .i64 3) := by rw [hw0]; simp [go_sem]
  have y4 : w0.cell? ⟨w.heap.size, 4, none⟩ = some (.int .i64 1) := by rw [hw0]; simp [go_sem]
  clear hw0
  go_enter Tryd.func26, Tryd.ntmps26
  go_upto_region 1 with fail
  rw [← HW.out]
  clear HW
  go_upto_region 4 with fail
  obtain ⟨v0, hv0⟩ : ∃ x, x = w0.alloc (Obj.cells #[.string ⟨#[]⟩, .string ⟨#[114, 97, 105, 110]⟩, .string ⟨#[115, 110, 111, 119]⟩, .string ⟨#[104, 97, 105, 108]⟩, .string ⟨#[82, 101, 103, 101, 110]⟩, .string ⟨#[83, 99, 104, 110, 101, 101]⟩, .string ⟨#[72, 97, 103, 101, 108]⟩, .string ⟨#[100, 101, 115, 122, 99, 122]⟩, .string ⟨#[197, 155, 110, 105, 101, 103]⟩, .string ⟨#[103, 114, 97, 100]⟩] 9) := ⟨_, rfl⟩
  rw [← hv0]
  have a3_0 := cell_al2 (ob := (Obj.cells #[.string ⟨#[]⟩, .string ⟨#[114, 97, 105, 110]⟩, .string ⟨#[115, 110, 111, 119]⟩, .string ⟨#[104, 97, 105, 108]⟩, .string ⟨#[82, 101, 103, 101, 110]⟩, .string ⟨#[83, 99, 104, 110, 101, 101]⟩, .string ⟨#[72, 97, 103, 101, 108]⟩, .string ⟨#[100, 101, 115, 122, 99, 122]⟩, .string ⟨#[197, 155, 110, 105, 101, 103]⟩, .string ⟨#[103, 114, 97, 100]⟩] 9)) y3
  have a4_0 := cell_al2 (ob := (Obj.cells #[.string ⟨#[]⟩, .string ⟨#[114, 97, 105, 110]⟩, .string ⟨#[115, 110, 111, 119]⟩, .string ⟨#[104, 97, 105, 108]⟩, .string ⟨#[82, 101, 103, 101, 110]⟩, .string ⟨#[83, 99, 104, 110, 101, 101]⟩, .string ⟨#[72, 97, 103, 101, 108]⟩, .string ⟨#[100, 101, 115, 122, 99, 122]⟩, .string ⟨#[197, 155, 110, 105, 101, 103]⟩, .string ⟨#[103, 114, 97, 100]⟩] 9)) y4
  have C0 : Hid (Below w.heap.size w (w0.alloc (Obj.cells #[.string ⟨#[]⟩, .string ⟨#[114, 97, 105, 110]⟩, .string ⟨#[115, 110, 111, 119]⟩, .string ⟨#[104, 97, 105, 108]⟩, .string ⟨#[82, 101, 103, 101, 110]⟩, .string ⟨#[83, 99, 104, 110, 101, 101]⟩, .string ⟨#[72, 97, 103, 101, 108]⟩, .string ⟨#[100, 101, 115, 122, 99, 122]⟩, .string ⟨#[197, 155, 110, 105, 101, 103]⟩, .string ⟨#[103, 114, 97, 100]⟩] 9))) := B0.out.alloc B0.out.size _
  rw [← hv0] at a3_0 a4_0 C0
  clear hv0 y3 y4 B0
  go_upto_region 5 with fail
  obtain ⟨v1, hv1⟩ : ∃ x, x = v0.alloc (Obj.cells #[.string ⟨#[]⟩, .string ⟨#[32, 105, 110, 32]⟩, .string ⟨#[32, 97, 110, 32]⟩, .string ⟨#[32, 119, 32]⟩] 9) := ⟨_, rfl⟩
  rw [← hv1]
  have a3_1 := cell_al2 (ob := (Obj.cells #[.string ⟨#[]⟩, .string ⟨#[32, 105, 110, 32]⟩, .string ⟨#[32, 97, 110, 32]⟩, .string ⟨#[32, 119, 32]⟩] 9)) a3_0
  have a4_1 := cell_al2 (ob := (Obj.cells #[.string ⟨#[]⟩, .string ⟨#[32, 105, 110, 32]⟩, .string ⟨#[32, 97, 110, 32]⟩, .string ⟨#[32, 119, 32]⟩] 9)) a4_0
  have C1 : Hid (Below w.heap.size w (v0.alloc (Obj.cells #[.string ⟨#[]⟩, .string ⟨#[32, 105, 110, 32]⟩, .string ⟨#[32, 97, 110, 32]⟩, .string ⟨#[32, 119, 32]⟩] 9))) := C0.out.alloc C0.out.size _
  rw [← hv1] at a3_1 a4_1 C1
  clear hv1 a3_0 a4_0 C0
  go_upto_region 6 with fail
  obtain ⟨v2, hv2⟩ : ∃ x, x = v1.alloc (Obj.cells #[.string ⟨#[]⟩, .string ⟨#[112, 108, 97, 99, 101, 115]⟩, .string ⟨#[79, 114, 116, 101, 110]⟩, .string ⟨#[109, 105, 101, 106, 115, 99, 97, 99, 104]⟩] 9) := ⟨_, rfl⟩
  rw [← hv2]
  have a3_2 := cell_al2 (ob := (Obj.cells #[.string ⟨#[]⟩, .string ⟨#[112, 108, 97, 99, 101, 115]⟩, .string ⟨#[79, 114, 116, 101, 110]⟩, .string ⟨#[109, 105, 101, 106, 115, 99, 97, 99, 104]⟩] 9)) a3_1
  have a4_2 := cell_al2 (ob := (Obj.cells #[.string ⟨#[]⟩, .string ⟨#[112, 108, 97, 99, 101, 115]⟩, .string ⟨#[79, 114, 116, 101, 110]⟩, .string ⟨#[109, 105, 101, 106, 115, 99, 97, 99, 104]⟩] 9)) a4_1
  have C2 : Hid (Below w.heap.size w (v1.alloc (Obj.cells #[.string ⟨#[]⟩, .string ⟨#[112, 108, 97, 99, 101, 115]⟩, .string ⟨#[79, 114, 116, 101, 110]⟩, .string ⟨#[109, 105, 101, 106, 115, 99, 97, 99, 104]⟩] 9))) := C1.out.alloc C1.out.size _
  rw [← hv2] at a3_2 a4_2 C2
  clear hv2 a3_1 a4_1 C1
  go_upto_region 8 with fail
  obtain ⟨v3, hv3⟩ : ∃ x, x = v2.alloc (Obj.cells #[.string ⟨#[]⟩, .string ⟨#[112, 108, 97, 99, 101]⟩, .string ⟨#[79, 114, 116]⟩, .string ⟨#[109, 105, 101, 106, 115, 99, 117]⟩] 9) := ⟨_, rfl⟩
  rw [← hv3]
  have a3_3 := cell_al2 (ob := (Obj.cells #[.string ⟨#[]⟩, .string ⟨#[112, 108, 97, 99, 101]⟩, .string ⟨#[79, 114, 116]⟩, .string ⟨#[109, 105, 101, 106, 115, 99, 117]⟩] 9)) a3_2
  have a4_3 := cell_al2 (ob := (Obj.cells #[.string ⟨#[]⟩, .string ⟨#[112, 108, 97, 99, 101]⟩, .string ⟨#[79, 114, 116]⟩, .string ⟨#[109, 105, 101, 106, 115, 99, 117]⟩] 9)) a4_2
  have C3 : Hid (Below w.heap.size w (v2.alloc (Obj.cells #[.string ⟨#[]⟩, .string ⟨#[112, 108, 97, 99, 101]⟩, .string ⟨#[79, 114, 116]⟩, .string ⟨#[109, 105, 101, 106, 115, 99, 117]⟩] 9))) := C2.out.alloc C2.out.size _
  rw [← hv3] at a3_3 a4_3 C3
  clear hv3 a3_2 a4_2 C2
  go_wp2_with fail
  refine (FD.out _).mono ?_
  rintro e w2 ⟨rfl, hb2⟩
  have BF : Hid (Below w.heap.size w w2) := C3.out.trans (hb2.mono C3.out.size)
  clear hb2
  go_wp2_with fail
  go_ret
  exact ⟨rfl, BF.out⟩
set_option maxHeartbeats 1000000 in
set_option maxRecDepth 20000 in
theorem srain_more31 (d f l r p : Int) (PP R : List UInt8) (w : World) (hr : r = 1) (hp : p ≠ 1) (hPP : PP.length ≤ 200) (hR : R = [100, 101, 115, 122, 99, 122] ++ [32, 119, 32] ++ PP ++ [32] ++ [109, 105, 101, 106, 115, 99, 97, 99, 104])
    (FD : Hid (∀ X, Calls Tryd.prog 33 #[.int .i64 p] X fun e w' => e = .returned (.string ⟨PP.toArray⟩) ∧ Below X.heap.size X w')) :
    Calls Tryd.prog 26 #[.agg #[.int .i64 d, .int .i64 f, .int .i64 l, .int .i64 r, .int .i64 p], .int .i64 3] w fun e w' => e = .returned (.string ⟨R.toArray⟩) ∧ Below w.heap.size w w' := by
  obtain ⟨A0, hA0⟩ : ∃ A, A = ([100, 101, 115, 122, 99, 122] : List UInt8) ++ [32, 119, 32] := ⟨_, rfl⟩
  have lA0 : A0.length = 6 + 3 := by rw [hA0]; simp <;> omega
  have eA0 : (⟨#[100, 101, 115, 122, 99, 122]⟩ : ByteArray) ++ ⟨#[32, 119, 32]⟩ = ⟨A0.toArray⟩ := by rw [hA0]; exact cat [100, 101, 115, 122, 99, 122] [32, 119, 32]
  have uA0 : ¬ 9223372036854775807 < 6 + 3 := by omega
  obtain ⟨A1, hA1⟩ : ∃ A, A = A0 ++ PP := ⟨_, rfl⟩
  have lA1 : A1.length = A0.length + PP.length := by rw [hA1]; simp <;> omega
  have eA1 : (⟨A0.toArray⟩ : ByteArray) ++ ⟨PP.toArray⟩ = ⟨A1.toArray⟩ := by rw [hA1]; exact cat A0 PP
  have uA1 : ¬ 9223372036854775807 < A0.length + PP.length := by omega
  obtain ⟨A2, hA2⟩ : ∃ A, A = A1 ++ [32] := ⟨_, rfl⟩
  have lA2 : A2.length = A1.length + 1 := by rw [hA2]; simp <;> omega
  have eA2 : (⟨A1.toArray⟩ : ByteArray) ++ ⟨#[32]⟩ = ⟨A2.toArray⟩ := by rw [hA2]; exact cat A1 [32]
  have uA2 : ¬ 9223372036854775807 < A1.length + 1 := by omega
  obtain ⟨A3, hA3⟩ : ∃ A, A = A2 ++ [109, 105, 101, 106, 115, 99, 97, 99, 104] := ⟨_, rfl⟩
  have lA3 : A3.length = A2.length + 9 := by rw [hA3]; simp <;> omega
  have eA3 : (⟨A2.toArray⟩ : ByteArray) ++ ⟨#[109, 105, 101, 106, 115, 99, 97, 99, 104]⟩ = ⟨A3.toArray⟩ := by rw [hA3]; exact cat A2 [109, 105, 101, 106, 115, 99, 97, 99, 104]
  have uA3 : ¬ 9223372036854775807 < A2.length + 9 := by omega
  have hRR : R = A3 := by rw [hR, hA3, hA2, hA1, hA0]
  subst hRR
  clear hR hA0 hA1 hA2 hA3 lA0 lA1 lA2 lA3
  subst r
  have pb : (p == 1) = false := by simpa using hp
  obtain ⟨w0, hw0⟩ : ∃ w0, w0 = w.alloc (.cells #[.int .i64 d, .int .i64 f, .int .i64 l, .int .i64 1, .int .i64 p] 23) := ⟨_, rfl⟩
  have HW : Hid (w0 = w.alloc (.cells #[.int .i64 d, .int .i64 f, .int .i64 l, .int .i64 1, .int .i64 p] 23)) := hw0
  have B0 : Hid (Below w.heap.size w w0) := (by show Below _ _ _; rw [hw0]; exact (Below.refl _ _).alloc (Nat.le_refl _) _)
  have z0 : w.heap.size < w0.heap.size := by rw [hw0]; simp
  have y3 : w0.cell? ⟨w.heap.size, 3, none⟩ = some (.int .i64 1) := by rw [hw0]; simp [go_sem]
  have y4 : w0.cell? ⟨w.heap.size, 4, none⟩ = some (.int .i64 p) := by rw [hw0]; simp [go_sem]
  clear hw0
  go_enter Tryd.func26, Tryd.ntmps26
  go_upto_region 1 with fail
  rw [← HW.out]
  clear HW
  go_upto_region 4 with fail
  obtain ⟨v0, hv0⟩ : ∃ x, x = w0.alloc (Obj.cells #[.string ⟨#[]⟩, .string ⟨#[114, 97, 105, 110]⟩, .string ⟨#[115, 110, 111, 119]⟩, .string ⟨#[104, 97, 105, 108]⟩, .string ⟨#[82, 101, 103, 101, 110]⟩, .string ⟨#[83, 99, 104, 110, 101, 101]⟩, .string ⟨#[72, 97, 103, 101, 108]⟩, .string ⟨#[100, 101, 115, 122, 99, 122]⟩, .string ⟨#[197, 155, 110, 105, 101, 103]⟩, .string ⟨#[103, 114, 97, 100]⟩] 9) := ⟨_, rfl⟩
  rw [← hv0]
  have a3_0 := cell_al2 (ob := (Obj.cells #[.string ⟨#[]⟩, .string ⟨#[114, 97, 105, 110]⟩, .string ⟨#[115, 110, 111, 119]⟩, .string ⟨#[104, 97, 105, 108]⟩, .string ⟨#[82, 101, 103, 101, 110]⟩, .string ⟨#[83, 99, 104, 110, 101, 101]⟩, .string ⟨#[72, 97, 103, 101, 108]⟩, .string ⟨#[100, 101, 115, 122, 99, 122]⟩, .string ⟨#[197, 155, 110, 105, 101, 103]⟩, .string ⟨#[103, 114, 97, 100]⟩] 9)) y3
  have a4_0 := cell_al2 (ob := (Obj.cells #[.string ⟨#[]⟩, .string ⟨#[114, 97, 105, 110]⟩, .string ⟨#[115, 110, 111, 119]⟩, .string ⟨#[104, 97, 105, 108]⟩, .string ⟨#[82, 101, 103, 101, 110]⟩, .string ⟨#[83, 99, 104, 110, 101, 101]⟩, .string ⟨#[72, 97, 103, 101, 108]⟩, .string ⟨#[100, 101, 115, 122, 99, 122]⟩, .string ⟨#[197, 155, 110, 105, 101, 103]⟩, .string ⟨#[103, 114, 97, 100]⟩] 9)) y4
  have C0 : Hid (Below w.heap.size w (w0.alloc (Obj.cells #[.string ⟨#[]⟩, .string ⟨#[114, 97, 105, 110]⟩, .string ⟨#[115, 110, 111, 119]⟩, .string ⟨#[104, 97, 105, 108]⟩, .string ⟨#[82, 101, 103, 101, 110]⟩, .string ⟨#[83, 99, 104, 110, 101, 101]⟩, .string ⟨#[72, 97, 103, 101, 108]⟩, .string ⟨#[100, 101, 115, 122, 99, 122]⟩, .string ⟨#[197, 155, 110, 105, 101, 103]⟩, .string ⟨#[103, 114, 97, 100]⟩] 9))) := B0.out.alloc B0.out.size _
  rw [← hv0] at a3_0 a4_0 C0
  clear hv0 y3 y4 B0
  go_upto_region 5 with fail
  obtain ⟨v1, hv1⟩ : ∃ x, x = v0.alloc (Obj.cells #[.string ⟨#[]⟩, .string ⟨#[32, 105, 110, 32]⟩, .string ⟨#[32, 97, 110, 32]⟩, .string ⟨#[32, 119, 32]⟩] 9) := ⟨_, rfl⟩
  rw [← hv1]
  have a3_1 := cell_al2 (ob := (Obj.cells #[.string ⟨#[]⟩, .string ⟨#[32, 105, 110, 32]⟩, .string ⟨#[32, 97, 110, 32]⟩, .string ⟨#[32, 119, 32]⟩] 9)) a3_0
  have a4_1 := cell_al2 (ob := (Obj.cells #[.string ⟨#[]⟩, .string ⟨#[32, 105, 110, 32]⟩, .string ⟨#[32, 97, 110, 32]⟩, .string ⟨#[32, 119, 32]⟩] 9)) a4_0
  have C1 : Hid (Below w.heap.size w (v0.alloc (Obj.cells #[.string ⟨#[]⟩, .string ⟨#[32, 105, 110, 32]⟩, .string ⟨#[32, 97, 110, 32]⟩, .string ⟨#[32, 119, 32]⟩] 9))) := C0.out.alloc C0.out.size _
  rw [← hv1] at a3_1 a4_1 C1
  clear hv1 a3_0 a4_0 C0
  go_upto_region 6 with fail
  obtain ⟨v2, hv2⟩ : ∃ x, x = v1.alloc (Obj.cells #[.string ⟨#[]⟩, .string ⟨#[112, 108, 97, 99, 101, 115]⟩, .string ⟨#[79, 114, 116, 101, 110]⟩, .string ⟨#[109, 105, 101, 106, 115, 99, 97, 99, 104]⟩] 9) := ⟨_, rfl⟩
  rw [← hv2]
  have a3_2 := cell_al2 (ob := (Obj.cells #[.string ⟨#[]⟩, .string ⟨#[112, 108, 97, 99, 101, 115]⟩, .string ⟨#[79, 114, 116, 101, 110]⟩, .string ⟨#[109, 105, 101, 106, 115, 99, 97, 99, 104]⟩] 9)) a3_1
  have a4_2 := cell_al2 (ob := (Obj.cells #[.string ⟨#[]⟩, .string ⟨#[112, 108, 97, 99, 101, 115]⟩, .string ⟨#[79, 114, 116, 101, 110]⟩, .string ⟨#[109, 105, 101, 106, 115, 99, 97, 99, 104]⟩] 9)) a4_1
  have C2 : Hid (Below w.heap.size w (v1.alloc (Obj.cells #[.string ⟨#[]⟩, .string ⟨#[112, 108, 97, 99, 101, 115]⟩, .string ⟨#[79, 114, 116, 101, 110]⟩, .string ⟨#[109, 105, 101, 106, 115, 99, 97, 99, 104]⟩] 9))) := C1.out.alloc C1.out.size _
  rw [← hv2] at a3_2 a4_2 C2
  clear hv2 a3_1 a4_1 C1
  go_wp2_with fail
  refine (FD.out _).mono ?_
  rintro e w2 ⟨rfl, hb2⟩
  have BF : Hid (Below w.heap.size w w2) := C2.out.trans (hb2.mono C2.out.size)
  clear hb2
  go_wp2_with fail
  go_ret
  exact ⟨rfl, BF.out⟩
set_option maxHeartbeats 1000000 in
set_option maxRecDepth 20000 in
theorem srain_more32 (d f l r p : Int) (PP R : List UInt8) (w : World) (hr : r = 2) (hp : p ≠ 1) (hPP : PP.length ≤ 200) (hR : R = [197, 155, 110, 105, 101, 103] ++ [32, 119, 32] ++ PP ++ [32] ++ [109, 105, 101, 106, 115, 99, 97, 99, 104])
    (FD : Hid (∀ X, Calls Tryd.prog 33 #[.int .i64 p] X fun e w' => e = .returned (.string ⟨PP.toArray⟩) ∧ Below X.heap.size X w')) :
    Calls Tryd.prog 26 #[.agg #[.int .i64 d, .int .i64 f, .int .i64 l, .int .i64 r, .int .i64 p], .int .i64 3] w fun e w' => e = .returned (.string ⟨R.toArray⟩) ∧ Below w.heap.size w w' := by
  obtain ⟨A0, hA0⟩ : ∃ A, A = ([197, 155, 110, 105, 101, 103] : List UInt8) ++ [32, 119, 32] := ⟨_, rfl⟩
  have lA0 : A0.length = 6 + 3 := by rw [hA0]; simp <;> omega
  have eA0 : (⟨#[197, 155, 110, 105, 101, 103]⟩ : ByteArray) ++ ⟨#[32, 119, 32]⟩ = ⟨A0.toArray⟩ := by rw [hA0]; exact cat [197, 155, 110, 105, 101, 103] [32, 119, 32]
  have uA0 : ¬ 9223372036854775807 < 6 + 3 := by omega
  obtain ⟨A1, hA1⟩ : ∃ A, A = A0 ++ PP := ⟨_, rfl⟩
  have lA1 : A1.length = A0.length + PP.length := by rw [hA1]; simp <;> omega
  have eA1 : (⟨A0.toArray⟩ : ByteArray) ++ ⟨PP.toArray⟩ = ⟨A1.toArray⟩ := by rw [hA1]; exact cat A0 PP
  have uA1 : ¬ 9223372036854775807 < A0.length + PP.length := by omega
  obtain ⟨A2, hA2⟩ : ∃ A, A = A1 ++ [32] := ⟨_, rfl⟩
  have lA2 : A2.length = A1.length + 1 := by rw [hA2]; simp <;> omega
  have eA2 : (⟨A1.toArray⟩ : ByteArray) ++ ⟨#[32]⟩ = ⟨A2.toArray⟩ := by rw [hA2]; exact cat A1 [32]
  have uA2 : ¬ 9223372036854775807 < A1.length + 1 := by omega
  obtain ⟨A3, hA3⟩ : ∃ A, A = A2 ++ [109, 105, 101, 106, 115, 99, 97, 99, 104] := ⟨_, rfl⟩
  have lA3 : A3.length = A2.length + 9 := by rw [hA3]; simp <;> omega
  have eA3 : (⟨A2.toArray⟩ : ByteArray) ++ ⟨#[109, 105, 101, 106, 115, 99, 97, 99, 104]⟩ = ⟨A3.toArray⟩ := by rw [hA3]; exact cat A2 [109, 105, 101, 106, 115, 99, 97, 99, 104]
  have uA3 : ¬ 9223372036854775807 < A2.length + 9 := by omega
  have hRR : R = A3 := by rw [hR, hA3, hA2, hA1, hA0]
  subst hRR
  clear hR hA0 hA1 hA2 hA3 lA0 lA1 lA2 lA3
  subst r
  have pb : (p == 1) = false := by simpa using hp
  obtain ⟨w0, hw0⟩ : ∃ w0, w0 = w.alloc (.cells #[.int .i64 d, .int .i64 f, .int .i64 l, .int .i64 2, .int .i64 p] 23) := ⟨_, rfl⟩
  have HW : Hid (w0 = w.alloc (.cells #[.int .i64 d, .int .i64 f, .int .i64 l, .int .i64 2, .int .i64 p] 23)) := hw0
  have B0 : Hid (Below w.heap.size w w0) := (by show Below _ _ _; rw [hw0]; exact (Below.refl _ _).alloc (Nat.le_refl _) _)
  have z0 : w.heap.size < w0.heap.size := by rw [hw0]; simp
  have y3 : w0.cell? ⟨w.heap.size, 3, none⟩ = some (.int .i64 2) := by rw [hw0]; simp [go_sem]
  have y4 : w0.cell? ⟨w.heap.size, 4, none⟩ = some (.int .i64 p) := by rw [hw0]; simp [go_sem]
  clear hw0
  go_enter Tryd.func26, Tryd.ntmps26
  go_upto_region 1 with fail
  rw [← HW.out]
  clear HW
  go_upto_region 4 with fail
  obtain ⟨v0, hv0⟩ : ∃ x, x = w0.alloc (Obj.cells #[.string ⟨#[]⟩, .string ⟨#[114, 97, 105, 110]⟩, .string ⟨#[115, 110, 111, 119]⟩, .string ⟨#[104, 97, 105, 108]⟩, .string ⟨#[82, 101, 103, 101, 110]⟩, .string ⟨#[83, 99, 104, 110, 101, 101]⟩, .string ⟨#[72, 97, 103, 101, 108]⟩, .string ⟨#[100, 101, 115, 122, 99, 122]⟩, .string ⟨#[197, 155, 110, 105, 101, 103]⟩, .string ⟨#[103, 114, 97, 100]⟩] 9) := ⟨_, rfl⟩
  rw [← hv0]
  have a3_0 := cell_al2 (ob := (Obj.cells #[.string ⟨#[]⟩, .string ⟨#[114, 97, 105, 110]⟩, .string ⟨#[115, 110, 111, 119]⟩, .string ⟨#[104, 97, 105, 108]⟩, .string ⟨#[82, 101, 103, 101, 110]⟩, .string ⟨#[83, 99, 104, 110, 101, 101]⟩, .string ⟨#[72, 97, 103, 101, 108]⟩, .string ⟨#[100, 101, 115, 122, 99, 122]⟩, .string ⟨#[197, 155, 110, 105, 101, 103]⟩, .string ⟨#[103, 114, 97, 100]⟩] 9)) y3
  have a4_0 := cell_al2 (ob := (Obj.cells #[.string ⟨#[]⟩, .string ⟨#[114, 97, 105, 110]⟩, .string ⟨#[115, 110, 111, 119]⟩, .string ⟨#[104, 97, 105, 108]⟩, .string ⟨#[82, 101, 103, 101, 110]⟩, .string ⟨#[83, 99, 104, 110, 101, 101]⟩, .string ⟨#[72, 97, 103, 101, 108]⟩, .string ⟨#[100, 101, 115, 122, 99, 122]⟩, .string ⟨#[197, 155, 110, 105, 101, 103]⟩, .string ⟨#[103, 114, 97, 100]⟩] 9)) y4
  have C0 : Hid (Below w.heap.size w (w0.alloc (Obj.cells #[.string ⟨#[]⟩, .string ⟨#[114, 97, 105, 110]⟩, .string ⟨#[115, 110, 111, 119]⟩, .string ⟨#[104, 97, 105, 108]⟩, .string ⟨#[82, 101, 103, 101, 110]⟩, .string ⟨#[83, 99, 104, 110, 101, 101]⟩, .string ⟨#[72, 97, 103, 101, 108]⟩, .string ⟨#[100, 101, 115, 122, 99, 122]⟩, .string ⟨#[197, 155, 110, 105, 101, 103]⟩, .string ⟨#[103, 114, 97, 100]⟩] 9))) := B0.out.alloc B0.out.size _
  rw [← hv0] at a3_0 a4_0 C0
  clear hv0 y3 y4 B0
  go_upto_region 5 with fail
  obtain ⟨v1, hv1⟩ : ∃ x, x = v0.alloc (Obj.cells #[.string ⟨#[]⟩, .string ⟨#[32, 105, 110, 32]⟩, .string ⟨#[32, 97, 110, 32]⟩, .string ⟨#[32, 119, 32]⟩] 9) := ⟨_, rfl⟩
  rw [← hv1]
  have a3_1 := cell_al2 (ob := (Obj.cells #[.string ⟨#[]⟩, .string ⟨#[32, 105, 110, 32]⟩, .string ⟨#[32, 97, 110, 32]⟩, .string ⟨#[32, 119, 32]⟩] 9)) a3_0
  have a4_1 := cell_al2 (ob := (Obj.cells #[.string ⟨#[]⟩, .string ⟨#[32, 105, 110, 32]⟩, .string ⟨#[32, 97, 110, 32]⟩, .string ⟨#[32, 119, 32]⟩] 9)) a4_0
  have C1 : Hid (Below w.heap.size w (v0.alloc (Obj.cells #[.string ⟨#[]⟩, .string ⟨#[32, 105, 110, 32]⟩, .string ⟨#[32, 97, 110, 32]⟩, .string ⟨#[32, 119, 32]⟩] 9))) := C0.out.alloc C0.out.size _
  rw [← hv1] at a3_1 a4_1 C1
  clear hv1 a3_0 a4_0 C0
  go_upto_region 6 with fail
  obtain ⟨v2, hv2⟩ : ∃ x, x = v1.alloc (Obj.cells #[.string ⟨#[]⟩, .string ⟨#[112, 108, 97, 99, 101, 115]⟩, .string ⟨#[79, 114, 116, 101, 110]⟩, .string ⟨#[109, 105, 101, 106, 115, 99, 97, 99, 104]⟩] 9) := ⟨_, rfl⟩
  rw [← hv2]
  have a3_2 := cell_al2 (ob := (Obj.cells #[.string ⟨#[]⟩, .string ⟨#[112, 108, 97, 99, 101, 115]⟩, .string ⟨#[79, 114, 116, 101, 110]⟩, .string ⟨#[109, 105, 101, 106, 115, 99, 97, 99, 104]⟩] 9)) a3_1
  have a4_2 := cell_al2 (ob := (Obj.cells #[.string ⟨#[]⟩, .string ⟨#[112, 108, 97, 99, 101, 115]⟩, .string ⟨#[79, 114, 116, 101, 110]⟩, .string ⟨#[109, 105, 101, 106, 115, 99, 97, 99, 104]⟩] 9)) a4_1
  have C2 : Hid (Below w.heap.size w (v1.alloc (Obj.cells #[.string ⟨#[]⟩, .string ⟨#[112, 108, 97, 99, 101, 115]⟩, .string ⟨#[79, 114, 116, 101, 110]⟩, .string ⟨#[109, 105, 101, 106, 115, 99, 97, 99, 104]⟩] 9))) := C1.out.alloc C1.out.size _
  rw [← hv2] at a3_2 a4_2 C2
  clear hv2 a3_1 a4_1 C1
  go_wp2_with fail
  refine (FD.out _).mono ?_
  rintro e w2 ⟨rfl, hb2⟩
  have BF : Hid (Below w.heap.size w w2) := C2.out.trans (hb2.mono C2.out.size)
  clear hb2
  go_wp2_with fail
  go_ret
  exact ⟨rfl, BF.out⟩
set_option maxHeartbeats 1000000 in
set_option maxRecDepth 20000 in
theorem srain_more33 (d f l r p : Int) (PP R : List UInt8) (w : World) (hr : r = 3) (hp : p ≠ 1) (hPP : PP.length ≤ 200) (hR : R = [103, 114, 97, 100] ++ [32, 119, 32] ++ PP ++ [32] ++ [109, 105, 101, 106, 115, 99, 97, 99, 104])
    (FD : Hid (∀ X, Calls Tryd.prog 33 #[.int .i64 p] X fun e w' => e = .returned (.string ⟨PP.toArray⟩) ∧ Below X.heap.size X w')) :
    Calls Tryd.prog 26 #[.agg #[.int .i64 d, .int .i64 f, .int .i64 l, .int .i64 r, .int .i64 p], .int .i64 3] w fun e w' => e = .returned (.string ⟨R.toArray⟩) ∧ Below w.heap.size w w' := by
  obtain ⟨A0, hA0⟩ : ∃ A, A = ([103, 114, 97, 100] : List UInt8) ++ [32, 119, 32] := ⟨_, rfl⟩
  have lA0 : A0.length = 4 + 3 := by rw [hA0]; simp <;> omega
  have eA0 : (⟨#[103, 114, 97, 100]⟩ : ByteArray) ++ ⟨#[32, 119, 32]⟩ = ⟨A0.toArray⟩ := by rw [hA0]; exact cat [103, 114, 97, 100] [32, 119, 32]
  have uA0 : ¬ 9223372036854775807 < 4 + 3 := by omega
  obtain ⟨A1, hA1⟩ : ∃ A, A = A0 ++ PP := ⟨_, rfl⟩
  have lA1 : A1.length = A0.length + PP.length := by rw [hA1]; simp <;> omega
  have eA1 : (⟨A0.toArray⟩ : ByteArray) ++ ⟨PP.toArray⟩ = ⟨A1.toArray⟩ := by rw [hA1]; exact cat A0 PP
  have uA1 : ¬ 9223372036854775807 < A0.length + PP.length := by omega
  obtain ⟨A2, hA2⟩ : ∃ A, A = A1 ++ [32] := ⟨_, rfl⟩
  have lA2 : A2.length = A1.length + 1 := by rw [hA2]; simp <;> omega
  have eA2 : (⟨A1.toArray⟩ : ByteArray) ++ ⟨#[32]⟩ = ⟨A2.toArray⟩ := by rw [hA2]; exact cat A1 [32]
  have uA2 : ¬ 9223372036854775807 < A1.length + 1 := by omega
  obtain ⟨A3, hA3⟩ : ∃ A, A = A2 ++ [109, 105, 101, 106, 115, 99, 97, 99, 104] := ⟨_, rfl⟩
  have lA3 : A3.length = A2.length + 9 := by rw [hA3]; simp <;> omega
  have eA3 : (⟨A2.toArray⟩ : ByteArray) ++ ⟨#[109, 105, 101, 106, 115, 99, 97, 99, 104]⟩ = ⟨A3.toArray⟩ := by rw [hA3]; exact cat A2 [109, 105, 101, 106, 115, 99, 97, 99, 104]
  have uA3 : ¬ 9223372036854775807 < A2.length + 9 := by omega
  have hRR : R = A3 := by rw [hR, hA3, hA2, hA1, hA0]
  subst hRR
  clear hR hA0 hA1 hA2 hA3 lA0 lA1 lA2 lA3
  subst r
  have pb : (p == 1) = false := by simpa using hp
  obtain ⟨w0, hw0⟩ : ∃ w0, w0 = w.alloc (.cells #[.int .i64 d, .int .i64 f, .int .i64 l, .int .i64 3, .int .i64 p] 23) := ⟨_, rfl⟩
  have HW : Hid (w0 = w.alloc (.cells #[.int .i64 d, .int .i64 f, .int .i64 l, .int .i64 3, .int .i64 p] 23)) := hw0
  have B0 : Hid (Below w.heap.size w w0) := (by show Below _ _ _; rw [hw0]; exact (Below.refl _ _).alloc (Nat.le_refl _) _)
  have z0 : w.heap.size < w0.heap.size := by rw [hw0]; simp
  have y3 : w0.cell? ⟨w.heap.size, 3, none⟩ = some (.int .i64 3) := by rw [hw0]; simp [go_sem]
  have y4 : w0.cell? ⟨w.heap.size, 4, none⟩ = some (.int .i64 p) := by rw [hw0]; simp [go_sem]
  clear hw0
  go_enter Tryd.func26, Tryd.ntmps26
  go_upto_region 1 with fail
  rw [← HW.out]
  clear HW
  go_upto_region 4 with fail
  obtain ⟨v0, hv0⟩ : ∃ x, x = w0.alloc (Obj.cells #[.string ⟨#[]⟩, .string ⟨#[114, 97, 105, 110]⟩, .string ⟨#[115, 110, 111, 119]⟩, .string ⟨#[104, 97, 105, 108]⟩, .string ⟨#[82, 101, 103, 101, 110]⟩, .string ⟨#[83, 99, 104, 110, 101, 101]⟩, .string ⟨#[72, 97, 103, 101, 108]⟩, .string ⟨#[100, 101, 115, 122, 99, 122]⟩, .string ⟨#[197, 155, 110, 105, 101, 103]⟩, .string ⟨#[103, 114, 97, 100]⟩] 9) := ⟨_, rfl⟩
  rw [← hv0]
  have a3_0 := cell_al2 (ob := (Obj.cells #[.string ⟨#[]⟩, .string ⟨#[114, 97, 105, 110]⟩, .string ⟨#[115, 110, 111, 119]⟩, .string ⟨#[104, 97, 105, 108]⟩, .string ⟨#[82, 101, 103, 101, 110]⟩, .string ⟨#[83, 99, 104, 110, 101, 101]⟩, .string ⟨#[72, 97, 103, 101, 108]⟩, .string ⟨#[100, 101, 115, 122, 99, 122]⟩, .string ⟨#[197, 155, 110, 105, 101, 103]⟩, .string ⟨#[103, 114, 97, 100]⟩] 9)) y3
  have a4_0 := cell_al2 (ob := (Obj.cells #[.string ⟨#[]⟩, .string ⟨#[114, 97, 105, 110]⟩, .string ⟨#[115, 110, 111, 119]⟩, .string ⟨#[104, 97, 105, 108]⟩, .string ⟨#[82, 101, 103, 101, 110]⟩, .string ⟨#[83, 99, 104, 110, 101, 101]⟩, .string ⟨#[72, 97, 103, 101, 108]⟩, .string ⟨#[100, 101, 115, 122, 99, 122]⟩, .string ⟨#[197, 155, 110, 105, 101, 103]⟩, .string ⟨#[103, 114, 97, 100]⟩] 9)) y4
  have C0 : Hid (Below w.heap.size w (w0.alloc (Obj.cells #[.string ⟨#[]⟩, .string ⟨#[114, 97, 105, 110]⟩, .string ⟨#[115, 110, 111, 119]⟩, .string ⟨#[104, 97, 105, 108]⟩, .string ⟨#[82, 101, 103, 101, 110]⟩, .string ⟨#[83, 99, 104, 110, 101, 101]⟩, .string ⟨#[72, 97, 103, 101, 108]⟩, .string ⟨#[100, 101, 115, 122, 99, 122]⟩, .string ⟨#[197, 155, 110, 105, 101, 103]⟩, .string ⟨#[103, 114, 97, 100]⟩] 9))) := B0.out.alloc B0.out.size _
  rw [← hv0] at a3_0 a4_0 C0
  clear hv0 y3 y4 B0
  go_upto_region 5 with fail
  obtain ⟨v1, hv1⟩ : ∃ x, x = v0.alloc (Obj.cells #[.string ⟨#[]⟩, .string ⟨#[32, 105, 110, 32]⟩, .string ⟨#[32, 97, 110, 32]⟩, .string ⟨#[32, 119, 32]⟩] 9) := ⟨_, rfl⟩
  rw [← hv1]
  have a3_1 := cell_al2 (ob := (Obj.cells #[.string ⟨#[]⟩, .string ⟨#[32, 105, 110, 32]⟩, .string ⟨#[32, 97, 110, 32]⟩, .string ⟨#[32, 119, 32]⟩] 9)) a3_0
  have a4_1 := cell_al2 (ob := (Obj.cells #[.string ⟨#[]⟩, .string ⟨#[32, 105, 110, 32]⟩, .string ⟨#[32, 97, 110, 32]⟩, .string ⟨#[32, 119, 32]⟩] 9)) a4_0
  have C1 : Hid (Below w.heap.size w (v0.alloc (Obj.cells #[.string ⟨#[]⟩, .string ⟨#[32, 105, 110, 32]⟩, .string ⟨#[32, 97, 110, 32]⟩, .string ⟨#[32, 119, 32]⟩] 9))) := C0.out.alloc C0.out.size _
  rw [← hv1] at a3_1 a4_1 C1
  clear hv1 a3_0 a4_0 C0
  go_upto_region 6 with fail
  obtain ⟨v2, hv2⟩ : ∃ x, x = v1.alloc (Obj.cells #[.string ⟨#[]⟩, .string ⟨#[112, 108, 97, 99, 101, 115]⟩, .string ⟨#[79, 114, 116, 101, 110]⟩, .string ⟨#[109, 105, 101, 106, 115, 99, 97, 99, 104]⟩] 9) := ⟨_, rfl⟩
  rw [← hv2]
  have a3_2 := cell_al2 (ob := (Obj.cells #[.string ⟨#[]⟩, .string ⟨#[112, 108, 97, 99, 101, 115]⟩, .string ⟨#[79, 114, 116, 101, 110]⟩, .string ⟨#[109, 105, 101, 106, 115, 99, 97, 99, 104]⟩] 9)) a3_1
  have a4_2 := cell_al2 (ob := (Obj.cells #[.string ⟨#[]⟩, .string ⟨#[112, 108, 97, 99, 101, 115]⟩, .string ⟨#[79, 114, 116, 101, 110]⟩, .string ⟨#[109, 105, 101, 106, 115, 99, 97, 99, 104]⟩] 9)) a4_1
  have C2 : Hid (Below w.heap.size w (v1.alloc (Obj.cells #[.string ⟨#[]⟩, .string ⟨#[112, 108, 97, 99, 101, 115]⟩, .string ⟨#[79, 114, 116, 101, 110]⟩, .string ⟨#[109, 105, 101, 106, 115, 99, 97, 99, 104]⟩] 9))) := C1.out.alloc C1.out.size _
  rw [← hv2] at a3_2 a4_2 C2
  clear hv2 a3_1 a4_1 C1
  go_wp2_with fail
  refine (FD.out _).mono ?_
  rintro e w2 ⟨rfl, hb2⟩
  have BF : Hid (Below w.heap.size w w2) := C2.out.trans (hb2.mono C2.out.size)
  clear hb2
  go_wp2_with fail
  go_ret
  exact ⟨rfl, BF.out⟩
end Go.Proofs.YtnbhfjcpimdnlaaDoor.Ph
