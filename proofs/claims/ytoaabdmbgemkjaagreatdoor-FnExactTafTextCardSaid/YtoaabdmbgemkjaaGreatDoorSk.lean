/- Skies: which are right, in the model and in the program. -/
import Derived.Test.YtoaabdmbgemkjaaGreatDoorXb
namespace Go.Proofs.YtoaabdmbgemkjaaGreatDoor.Sk
open Go.ChangeShapes Go.WideShapes Go.ChangeAt Go.RowKit
open Go.Proofs.YtoaabdmbgemkjaaGreatDoor.Al

abbrev sk (d p v : Int) (W C : ByteArray) (b : Int) : Value := .agg #[.int .i64 d, .int .i64 p, .int .i64 v, .string W, .string C, .int .i64 b]
def wnd (d p : Int) : Bool := if ((d == -1) || (d == 0)) = true then (p == 0) else ((inn d 1 36 || (d == 99)) && inn p 1 99)
def isW (s : ByteArray) : Bool := (s.toList == [78, 83, 87]) || ((s.toList == [82, 65]) || ((s.toList == [45, 82, 65]) || ((s.toList == [43, 82, 65]) || ((s.toList == [83, 78]) || ((s.toList == [45, 83, 78]) || ((s.toList == [43, 83, 78]) || ((s.toList == [84, 83, 82, 65]) || ((s.toList == [70, 71]) || ((s.toList == [66, 82]))))))))))
def isC (s : ByteArray) : Bool := (s.toList == [70, 69, 87]) || ((s.toList == [83, 67, 84]) || ((s.toList == [66, 75, 78]) || ((s.toList == [79, 86, 67]))))
def cld (c : ByteArray) (b : Int) : Bool := if ((c.toList == []) || (c.toList == [83, 75, 67])) = true then (b == 0) else (isC c && inn b 1 200)
def wth (s : ByteArray) : Bool := (s.toList == []) || isW s
def ok (d p v : Int) (W C : ByteArray) (b : Int) : Bool := wnd d p && (inn v (-1) 9999 && (wth W && cld C b))

set_option maxHeartbeats 1000000 in
theorem iweather_any (s : ByteArray) (w : World) : Calls Tryz.prog 77 #[.string s] w fun e w' => e = .returned (.bool (isW s)) ∧ w' = w := by
  unfold isW
  cases h0 : (s.toList == [78, 83, 87])
  rotate_left 1
  · go_enter Tryz.func77, Tryz.ntmps77
    go_wp2_with fail
    go_ret
    exact ⟨by simp, rfl⟩
  cases h1 : (s.toList == [82, 65])
  rotate_left 1
  · go_enter Tryz.func77, Tryz.ntmps77
    go_wp2_with fail
    go_ret
    exact ⟨by simp, rfl⟩
  cases h2 : (s.toList == [45, 82, 65])
  rotate_left 1
  · go_enter Tryz.func77, Tryz.ntmps77
    go_wp2_with fail
    go_ret
    exact ⟨by simp, rfl⟩
  cases h3 : (s.toList == [43, 82, 65])
  rotate_left 1
  · go_enter Tryz.func77, Tryz.ntmps77
    go_wp2_with fail
    go_ret
    exact ⟨by simp, rfl⟩
  cases h4 : (s.toList == [83, 78])
  rotate_left 1
  · go_enter Tryz.func77, Tryz.ntmps77
    go_wp2_with fail
    go_ret
    exact ⟨by simp, rfl⟩
  cases h5 : (s.toList == [45, 83, 78])
  rotate_left 1
  · go_enter Tryz.func77, Tryz.ntmps77
    go_wp2_with fail
    go_ret
    exact ⟨by simp, rfl⟩
  cases h6 : (s.toList == [43, 83, 78])
  rotate_left 1
  · go_enter Tryz.func77, Tryz.ntmps77
    go_wp2_with fail
    go_ret
    exact ⟨by simp, rfl⟩
  cases h7 : (s.toList == [84, 83, 82, 65])
  rotate_left 1
  · go_enter Tryz.func77, Tryz.ntmps77
    go_wp2_with fail
    go_ret
    exact ⟨by simp, rfl⟩
  cases h8 : (s.toList == [70, 71])
  rotate_left 1
  · go_enter Tryz.func77, Tryz.ntmps77
    go_wp2_with fail
    go_ret
    exact ⟨by simp, rfl⟩
  cases h9 : (s.toList == [66, 82])
  rotate_left 1
  · go_enter Tryz.func77, Tryz.ntmps77
    go_wp2_with fail
    go_ret
    exact ⟨by simp, rfl⟩
  go_enter Tryz.func77, Tryz.ntmps77
  go_wp2_with fail
  go_ret
  exact ⟨by simp, rfl⟩

set_option maxHeartbeats 1000000 in
theorem sweather_any (s : ByteArray) (w : World) : Calls Tryz.prog 61 #[.string s] w fun e w' => e = .returned (.bool (wth s)) ∧ w' = w := by
  unfold wth isW
  cases h0 : (s.toList == [])
  rotate_left 1
  · go_enter Tryz.func61, Tryz.ntmps61
    go_wp2_with fail
    go_ret
    exact ⟨by simp, rfl⟩
  cases h1 : (s.toList == [78, 83, 87])
  rotate_left 1
  · go_enter Tryz.func61, Tryz.ntmps61
    go_wp2_with fail
    go_ret
    exact ⟨by simp, rfl⟩
  cases h2 : (s.toList == [82, 65])
  rotate_left 1
  · go_enter Tryz.func61, Tryz.ntmps61
    go_wp2_with fail
    go_ret
    exact ⟨by simp, rfl⟩
  cases h3 : (s.toList == [45, 82, 65])
  rotate_left 1
  · go_enter Tryz.func61, Tryz.ntmps61
    go_wp2_with fail
    go_ret
    exact ⟨by simp, rfl⟩
  cases h4 : (s.toList == [43, 82, 65])
  rotate_left 1
  · go_enter Tryz.func61, Tryz.ntmps61
    go_wp2_with fail
    go_ret
    exact ⟨by simp, rfl⟩
  cases h5 : (s.toList == [83, 78])
  rotate_left 1
  · go_enter Tryz.func61, Tryz.ntmps61
    go_wp2_with fail
    go_ret
    exact ⟨by simp, rfl⟩
  cases h6 : (s.toList == [45, 83, 78])
  rotate_left 1
  · go_enter Tryz.func61, Tryz.ntmps61
    go_wp2_with fail
    go_ret
    exact ⟨by simp, rfl⟩
  cases h7 : (s.toList == [43, 83, 78])
  rotate_left 1
  · go_enter Tryz.func61, Tryz.ntmps61
    go_wp2_with fail
    go_ret
    exact ⟨by simp, rfl⟩
  cases h8 : (s.toList == [84, 83, 82, 65])
  rotate_left 1
  · go_enter Tryz.func61, Tryz.ntmps61
    go_wp2_with fail
    go_ret
    exact ⟨by simp, rfl⟩
  cases h9 : (s.toList == [70, 71])
  rotate_left 1
  · go_enter Tryz.func61, Tryz.ntmps61
    go_wp2_with fail
    go_ret
    exact ⟨by simp, rfl⟩
  cases h10 : (s.toList == [66, 82])
  rotate_left 1
  · go_enter Tryz.func61, Tryz.ntmps61
    go_wp2_with fail
    go_ret
    exact ⟨by simp, rfl⟩
  go_enter Tryz.func61, Tryz.ntmps61
  go_wp2_with fail
  go_ret
  exact ⟨by simp, rfl⟩

set_option maxHeartbeats 1000000 in
theorem icover_any (s : ByteArray) (w : World) : Calls Tryz.prog 88 #[.string s] w fun e w' => e = .returned (.bool (isC s)) ∧ w' = w := by
  unfold isC
  cases h0 : (s.toList == [70, 69, 87])
  rotate_left 1
  · go_enter Tryz.func88, Tryz.ntmps88
    go_wp2_with fail
    go_ret
    exact ⟨by simp, rfl⟩
  cases h1 : (s.toList == [83, 67, 84])
  rotate_left 1
  · go_enter Tryz.func88, Tryz.ntmps88
    go_wp2_with fail
    go_ret
    exact ⟨by simp, rfl⟩
  cases h2 : (s.toList == [66, 75, 78])
  rotate_left 1
  · go_enter Tryz.func88, Tryz.ntmps88
    go_wp2_with fail
    go_ret
    exact ⟨by simp, rfl⟩
  cases h3 : (s.toList == [79, 86, 67])
  rotate_left 1
  · go_enter Tryz.func88, Tryz.ntmps88
    go_wp2_with fail
    go_ret
    exact ⟨by simp, rfl⟩
  go_enter Tryz.func88, Tryz.ntmps88
  go_wp2_with fail
  go_ret
  exact ⟨by simp, rfl⟩

set_option maxHeartbeats 1000000 in
theorem iwind_any (d p : Int) (w : World) : Calls Tryz.prog 76 #[.int .i64 d, .int .i64 p] w fun e w' => e = .returned (.bool (wnd d p)) ∧ w' = w := by
  unfold wnd
  have C1 : Hid (∀ w, Calls Tryz.prog 65 #[.int .i64 d, .int .i64 1, .int .i64 36] w fun e w' => e = .returned (.bool (inn d 1 36)) ∧ w' = w) := fun w => i_in _ _ _ w
  have C2 : Hid (∀ w, Calls Tryz.prog 65 #[.int .i64 p, .int .i64 1, .int .i64 99] w fun e w' => e = .returned (.bool (inn p 1 99)) ∧ w' = w) := fun w => i_in _ _ _ w
  cases h1 : (d == -1)
  rotate_left 1
  · have e1 : d = -1 := eq_of_beq h1
    subst e1
    go_enter Tryz.func76, Tryz.ntmps76
    go_wp2_with fail
    go_ret
    exact ⟨by simp, rfl⟩
  cases h2 : (d == 0)
  rotate_left 1
  · have e1 : d = 0 := eq_of_beq h2
    subst e1
    go_enter Tryz.func76, Tryz.ntmps76
    go_wp2_with fail
    go_ret
    exact ⟨by simp, rfl⟩
  cases h3 : inn d 1 36
  · rw [h3] at C1
    cases h4 : (d == 99)
    · clear h3
      go_enter Tryz.func76, Tryz.ntmps76
      go_wp2_with fail
      refine (C1.out _).mono ?_
      rintro e w1 ⟨rfl, hw⟩
      subst hw
      go_wp2_with fail
      go_ret
      exact ⟨by simp, rfl⟩
    · clear h3
      go_enter Tryz.func76, Tryz.ntmps76
      go_wp2_with fail
      refine (C1.out _).mono ?_
      rintro e w1 ⟨rfl, hw⟩
      subst hw
      go_wp2_with fail
      refine (C2.out _).mono ?_
      rintro e w1 ⟨rfl, hw⟩
      subst hw
      go_wp2_with fail
      go_ret
      exact ⟨by simp, rfl⟩
  · rw [h3] at C1
    clear h3
    go_enter Tryz.func76, Tryz.ntmps76
    go_wp2_with fail
    refine (C1.out _).mono ?_
    rintro e w1 ⟨rfl, hw⟩
    subst hw
    go_wp2_with fail
    refine (C2.out _).mono ?_
    rintro e w1 ⟨rfl, hw⟩
    subst hw
    go_wp2_with fail
    go_ret
    exact ⟨by simp, rfl⟩

set_option maxHeartbeats 1000000 in
theorem swind_any (d p v : Int) (W C : ByteArray) (b : Int) (w : World) : Calls Tryz.prog 60 #[sk d p v W C b] w fun e w' => e = .returned (.bool (wnd d p)) ∧ Below w.heap.size w w' := by
  unfold wnd
  have C1 : Hid (∀ w, Calls Tryz.prog 33 #[.int .i64 d, .int .i64 1, .int .i64 36] w fun e w' => e = .returned (.bool (inn d 1 36)) ∧ w' = w) := fun w => s_in _ _ _ w
  have C2 : Hid (∀ w, Calls Tryz.prog 33 #[.int .i64 p, .int .i64 1, .int .i64 99] w fun e w' => e = .returned (.bool (inn p 1 99)) ∧ w' = w) := fun w => s_in _ _ _ w
  have BB : Hid (Below w.heap.size w (w.alloc (.cells #[.int .i64 d, .int .i64 p, .int .i64 v, .string W, .string C, .int .i64 b] 32))) := (Below.refl _ _).alloc (Nat.le_refl _) _
  cases h1 : (d == -1)
  rotate_left 1
  · have e1 : d = -1 := eq_of_beq h1
    subst e1
    go_enter Tryz.func60, Tryz.ntmps60
    go_wp2_with fail
    go_ret
    exact ⟨by simp, BB.out⟩
  cases h2 : (d == 0)
  rotate_left 1
  · have e1 : d = 0 := eq_of_beq h2
    subst e1
    go_enter Tryz.func60, Tryz.ntmps60
    go_wp2_with fail
    go_ret
    exact ⟨by simp, BB.out⟩
  cases h3 : inn d 1 36
  · rw [h3] at C1
    cases h4 : (d == 99)
    · clear h3
      go_enter Tryz.func60, Tryz.ntmps60
      go_wp2_with fail
      refine (C1.out _).mono ?_
      rintro e w1 ⟨rfl, hw⟩
      subst hw
      go_wp2_with fail
      go_ret
      exact ⟨by simp, BB.out⟩
    · clear h3
      go_enter Tryz.func60, Tryz.ntmps60
      go_wp2_with fail
      refine (C1.out _).mono ?_
      rintro e w1 ⟨rfl, hw⟩
      subst hw
      go_wp2_with fail
      refine (C2.out _).mono ?_
      rintro e w1 ⟨rfl, hw⟩
      subst hw
      go_wp2_with fail
      go_ret
      exact ⟨by simp, BB.out⟩
  · rw [h3] at C1
    clear h3
    go_enter Tryz.func60, Tryz.ntmps60
    go_wp2_with fail
    refine (C1.out _).mono ?_
    rintro e w1 ⟨rfl, hw⟩
    subst hw
    go_wp2_with fail
    refine (C2.out _).mono ?_
    rintro e w1 ⟨rfl, hw⟩
    subst hw
    go_wp2_with fail
    go_ret
    exact ⟨by simp, BB.out⟩

set_option maxHeartbeats 1000000 in
theorem icloud_any (C : ByteArray) (b : Int) (w : World) : Calls Tryz.prog 78 #[.string C, .int .i64 b] w fun e w' => e = .returned (.bool (cld C b)) ∧ w' = w := by
  unfold cld
  have C2 : Hid (∀ w, Calls Tryz.prog 65 #[.int .i64 b, .int .i64 1, .int .i64 200] w fun e w' => e = .returned (.bool (inn b 1 200)) ∧ w' = w) := fun w => i_in _ _ _ w
  have C1 : Hid (∀ w, Calls Tryz.prog 88 #[.string C] w fun e w' => e = .returned (.bool (isC C)) ∧ w' = w) := fun w => icover_any C w
  cases h1 : (C.toList == [])
  rotate_left 1
  · go_enter Tryz.func78, Tryz.ntmps78
    go_wp2_with fail
    go_ret
    exact ⟨by simp, rfl⟩
  cases h2 : (C.toList == [83, 75, 67])
  rotate_left 1
  · go_enter Tryz.func78, Tryz.ntmps78
    go_wp2_with fail
    go_ret
    exact ⟨by simp, rfl⟩
  cases h3 : isC C
  · rw [h3] at C1
    clear h3
    go_enter Tryz.func78, Tryz.ntmps78
    go_wp2_with fail
    refine (C1.out _).mono ?_
    rintro e w1 ⟨rfl, hw⟩
    subst hw
    go_wp2_with fail
    go_ret
    exact ⟨by simp, rfl⟩
  · rw [h3] at C1
    clear h3
    go_enter Tryz.func78, Tryz.ntmps78
    go_wp2_with fail
    refine (C1.out _).mono ?_
    rintro e w1 ⟨rfl, hw⟩
    subst hw
    go_wp2_with fail
    refine (C2.out _).mono ?_
    rintro e w1 ⟨rfl, hw⟩
    subst hw
    go_wp2_with fail
    go_ret
    exact ⟨by simp, rfl⟩

set_option maxHeartbeats 1000000 in
theorem scloud_any (d p v : Int) (W C : ByteArray) (b : Int) (w : World) : Calls Tryz.prog 62 #[sk d p v W C b] w fun e w' => e = .returned (.bool (cld C b)) ∧ Below w.heap.size w w' := by
  unfold cld
  have C2 : Hid (∀ w, Calls Tryz.prog 33 #[.int .i64 b, .int .i64 1, .int .i64 200] w fun e w' => e = .returned (.bool (inn b 1 200)) ∧ w' = w) := fun w => s_in _ _ _ w
  have BB : Hid (Below w.heap.size w (w.alloc (.cells #[.int .i64 d, .int .i64 p, .int .i64 v, .string W, .string C, .int .i64 b] 32))) := (Below.refl _ _).alloc (Nat.le_refl _) _
  cases h1 : (C.toList == [])
  rotate_left 1
  · go_enter Tryz.func62, Tryz.ntmps62
    go_wp2_with fail
    go_ret
    exact ⟨by simp, BB.out⟩
  cases h2 : (C.toList == [83, 75, 67])
  rotate_left 1
  · go_enter Tryz.func62, Tryz.ntmps62
    go_wp2_with fail
    go_ret
    exact ⟨by simp, BB.out⟩
  unfold isC
  cases k0 : (C.toList == [70, 69, 87])
  rotate_left 1
  · go_enter Tryz.func62, Tryz.ntmps62
    go_wp2_with fail
    refine (C2.out _).mono ?_
    rintro e w1 ⟨rfl, hw⟩
    subst hw
    go_wp2_with fail
    go_ret
    exact ⟨by simp, BB.out⟩
  cases k1 : (C.toList == [83, 67, 84])
  rotate_left 1
  · go_enter Tryz.func62, Tryz.ntmps62
    go_wp2_with fail
    refine (C2.out _).mono ?_
    rintro e w1 ⟨rfl, hw⟩
    subst hw
    go_wp2_with fail
    go_ret
    exact ⟨by simp, BB.out⟩
  cases k2 : (C.toList == [66, 75, 78])
  rotate_left 1
  · go_enter Tryz.func62, Tryz.ntmps62
    go_wp2_with fail
    refine (C2.out _).mono ?_
    rintro e w1 ⟨rfl, hw⟩
    subst hw
    go_wp2_with fail
    go_ret
    exact ⟨by simp, BB.out⟩
  cases k3 : (C.toList == [79, 86, 67])
  rotate_left 1
  · go_enter Tryz.func62, Tryz.ntmps62
    go_wp2_with fail
    refine (C2.out _).mono ?_
    rintro e w1 ⟨rfl, hw⟩
    subst hw
    go_wp2_with fail
    go_ret
    exact ⟨by simp, BB.out⟩
  go_enter Tryz.func62, Tryz.ntmps62
  go_wp2_with fail
  go_ret
  exact ⟨by simp, BB.out⟩

set_option maxHeartbeats 1000000 in
theorem sok_any (d p v : Int) (W C : ByteArray) (b : Int) (w : World) : Calls Tryz.prog 38 #[sk d p v W C b] w fun e w' => e = .returned (.bool (ok d p v W C b)) ∧ Below w.heap.size w w' := by
  unfold ok
  have C1 : Hid (∀ w, Calls Tryz.prog 60 #[sk d p v W C b] w fun e w' => e = .returned (.bool (wnd d p)) ∧ Below w.heap.size w w') := fun w => swind_any d p v W C b w
  have C2 : Hid (∀ w, Calls Tryz.prog 33 #[.int .i64 v, .int .i64 (-1), .int .i64 9999] w fun e w' => e = .returned (.bool (inn v (-1) 9999)) ∧ w' = w) := fun w => s_in _ _ _ w
  have C3 : Hid (∀ w, Calls Tryz.prog 61 #[.string W] w fun e w' => e = .returned (.bool (wth W)) ∧ w' = w) := fun w => sweather_any W w
  have C4 : Hid (∀ w, Calls Tryz.prog 62 #[sk d p v W C b] w fun e w' => e = .returned (.bool (cld C b)) ∧ Below w.heap.size w w') := fun w => scloud_any d p v W C b w
  obtain ⟨wb, hwb⟩ : ∃ wb, wb = w.alloc (.cells #[.int .i64 d, .int .i64 p, .int .i64 v, .string W, .string C, .int .i64 b] 32) := ⟨_, rfl⟩
  have HW : Hid (wb = w.alloc (.cells #[.int .i64 d, .int .i64 p, .int .i64 v, .string W, .string C, .int .i64 b] 32)) := hwb
  have BW : Hid (Below w.heap.size w wb) := (by show Below _ _ _; rw [hwb]; exact (Below.refl _ _).alloc (Nat.le_refl _) _)
  have ZW : Hid (wb.heap.size = w.heap.size + 1) := (by show _ = _; rw [hwb]; simp)
  have KW : Hid (∀ w', Below wb.heap.size wb w' → w'.cell? ⟨w.heap.size, 0, none⟩ = some (.int .i64 d) ∧ w'.cell? ⟨w.heap.size, 1, none⟩ = some (.int .i64 p) ∧ w'.cell? ⟨w.heap.size, 2, none⟩ = some (.int .i64 v) ∧ w'.cell? ⟨w.heap.size, 3, none⟩ = some (.string W) ∧ w'.cell? ⟨w.heap.size, 4, none⟩ = some (.string C) ∧ w'.cell? ⟨w.heap.size, 5, none⟩ = some (.int .i64 b)) := fun w' hb => (by
    have hlt : w.heap.size < wb.heap.size := by rw [ZW.out]; omega
    have K : ∀ j, w'.cell? ⟨w.heap.size, j, none⟩ = wb.cell? ⟨w.heap.size, j, none⟩ := fun j => hb.cell (p := ⟨w.heap.size, j, none⟩) hlt
    rw [K, K, K, K, K, K, hwb]
    simp [go_sem])
  clear hwb
  generalize wnd d p = b1 at *
  generalize inn v (-1) 9999 = b2 at *
  generalize wth W = b3 at *
  generalize cld C b = b4 at *
  go_enter Tryz.func38, Tryz.ntmps38
  go_wp2_with fail
  rw [← HW.out]
  refine (C1.out _).mono ?_
  rintro e w1 ⟨rfl, hb⟩
  have Q1 : Hid (Below wb.heap.size wb w1) := hb
  have B1 : Hid (Below w.heap.size w w1) := BW.out.trans (hb.mono BW.out.size)
  obtain ⟨k0, k1, k2, k3, k4, k5⟩ := KW.out w1 hb
  clear hb HW
  cases b1
  · go_wp2_with fail
    go_ret
    exact ⟨rfl, B1.out⟩
  go_wp2_with fail
  refine (C2.out _).mono ?_
  rintro e w2 ⟨rfl, hw⟩
  subst hw
  cases b2
  · go_wp2_with fail
    go_ret
    exact ⟨rfl, B1.out⟩
  go_wp2_with fail
  refine (C3.out _).mono ?_
  rintro e w3 ⟨rfl, hw⟩
  subst hw
  cases b3
  · go_wp2_with fail
    go_ret
    exact ⟨rfl, B1.out⟩
  go_wp2_with fail
  refine (C4.out _).mono ?_
  rintro e w4 ⟨rfl, hb⟩
  have B4 : Hid (Below w.heap.size w w4) := B1.out.trans (hb.mono B1.out.size)
  clear hb
  go_wp2_with fail
  go_ret
  exact ⟨by simp, B4.out⟩

set_option maxHeartbeats 1000000 in
theorem iok_any (d p v : Int) (W C : ByteArray) (b : Int) (w : World) : Calls Tryz.prog 47 #[sk d p v W C b] w fun e w' => e = .returned (.bool (ok d p v W C b)) ∧ Below w.heap.size w w' := by
  unfold ok wth
  have C1 : Hid (∀ w, Calls Tryz.prog 76 #[.int .i64 d, .int .i64 p] w fun e w' => e = .returned (.bool (wnd d p)) ∧ w' = w) := fun w => iwind_any d p w
  have C2 : Hid (∀ w, Calls Tryz.prog 65 #[.int .i64 v, .int .i64 (-1), .int .i64 9999] w fun e w' => e = .returned (.bool (inn v (-1) 9999)) ∧ w' = w) := fun w => i_in _ _ _ w
  have C3 : Hid (∀ w, Calls Tryz.prog 77 #[.string W] w fun e w' => e = .returned (.bool (isW W)) ∧ w' = w) := fun w => iweather_any W w
  have C4 : Hid (∀ w, Calls Tryz.prog 78 #[.string C, .int .i64 b] w fun e w' => e = .returned (.bool (cld C b)) ∧ w' = w) := fun w => icloud_any C b w
  have BB : Hid (Below w.heap.size w (w.alloc (.cells #[.int .i64 d, .int .i64 p, .int .i64 v, .string W, .string C, .int .i64 b] 32))) := (Below.refl _ _).alloc (Nat.le_refl _) _
  generalize wnd d p = b1 at *
  generalize inn v (-1) 9999 = b2 at *
  generalize isW W = b3 at *
  generalize cld C b = b4 at *
  cases b1
  · go_enter Tryz.func47, Tryz.ntmps47
    go_wp2_with fail
    refine (C1.out _).mono ?_
    rintro e w1 ⟨rfl, hw⟩
    subst hw
    go_wp2_with fail
    go_ret
    exact ⟨by simp, BB.out⟩
  cases b2
  · go_enter Tryz.func47, Tryz.ntmps47
    go_wp2_with fail
    refine (C1.out _).mono ?_
    rintro e w1 ⟨rfl, hw⟩
    subst hw
    go_wp2_with fail
    refine (C2.out _).mono ?_
    rintro e w1 ⟨rfl, hw⟩
    subst hw
    go_wp2_with fail
    go_ret
    exact ⟨by simp, BB.out⟩
  cases h3 : (W.toList == [])
  rotate_left 1
  · go_enter Tryz.func47, Tryz.ntmps47
    go_wp2_with fail
    refine (C1.out _).mono ?_
    rintro e w1 ⟨rfl, hw⟩
    subst hw
    go_wp2_with fail
    refine (C2.out _).mono ?_
    rintro e w1 ⟨rfl, hw⟩
    subst hw
    go_wp2_with fail
    refine (C4.out _).mono ?_
    rintro e w1 ⟨rfl, hw⟩
    subst hw
    go_wp2_with fail
    go_ret
    exact ⟨by simp, BB.out⟩
  cases b3
  · go_enter Tryz.func47, Tryz.ntmps47
    go_wp2_with fail
    refine (C1.out _).mono ?_
    rintro e w1 ⟨rfl, hw⟩
    subst hw
    go_wp2_with fail
    refine (C2.out _).mono ?_
    rintro e w1 ⟨rfl, hw⟩
    subst hw
    go_wp2_with fail
    refine (C3.out _).mono ?_
    rintro e w1 ⟨rfl, hw⟩
    subst hw
    go_wp2_with fail
    go_ret
    exact ⟨by simp, BB.out⟩
  go_enter Tryz.func47, Tryz.ntmps47
  go_wp2_with fail
  refine (C1.out _).mono ?_
  rintro e w1 ⟨rfl, hw⟩
  subst hw
  go_wp2_with fail
  refine (C2.out _).mono ?_
  rintro e w1 ⟨rfl, hw⟩
  subst hw
  go_wp2_with fail
  refine (C3.out _).mono ?_
  rintro e w1 ⟨rfl, hw⟩
  subst hw
  go_wp2_with fail
  refine (C4.out _).mono ?_
  rintro e w1 ⟨rfl, hw⟩
  subst hw
  go_wp2_with fail
  go_ret
  exact ⟨by simp, BB.out⟩
end Go.Proofs.YtoaabdmbgemkjaaGreatDoor.Sk
