/- Forecasts: times, spans, full skies, in the model and in the program. -/
import Derived.Test.YtoaabdmbgemkjaaGreatDoorTg
import Derived.Test.YtoaabdmbgemkjaaGreatDoorHead
import Derived.Laws.StructEq
namespace Go.Proofs.YtoaabdmbgemkjaaGreatDoor.To
open Go.ChangeShapes Go.WideShapes Go.ChangeAt Go.RowKit
open Go.Proofs.YtoaabdmbgemkjaaGreatDoor.Al

abbrev sp := Tf.sp
def tm (x : Int) : Bool := inn x 0 52596000
def hr (x : Int) : Bool := (x.tmod 60 == 0)
def span (f t : Int) : Bool := tm f && (tm t && decide (f ≤ t))
def nE (s : ByteArray) : Bool := !s.toList.isEmpty
def ful (d p v : Int) (W C : ByteArray) (b : Int) : Bool := Sk.ok d p v W C b && ((d != -1) && ((v != -1) && (nE W && nE C)))
def uns (d p v : Int) (W C : ByteArray) (b : Int) : Bool := (d == -1) && ((p == 0) && ((v == -1) && (W.toList.isEmpty && (C.toList.isEmpty && (b == 0)))))
def vok (I f t : Int) : Bool := span f t && (hr f && (hr t && (inn (t - f) 60 2160 && inn (f - I) (-1440) 1440)))
set_option maxHeartbeats 400000 in
theorem stime_any (x : Int) (w : World) : Calls Tryz.prog 31 #[.int .i64 x] w fun e w' => e = .returned (.bool (tm x)) ∧ w' = w := by
  unfold tm inn
  cases h1 : decide (0 ≤ x)
  · have h : ¬ 0 ≤ x := by simpa using h1
    go_enter Tryz.func31, Tryz.ntmps31
    go_wp2_with fail
    go_ret
    exact ⟨rfl, rfl⟩
  · have h : 0 ≤ x := by simpa using h1
    go_enter Tryz.func31, Tryz.ntmps31
    go_wp2_with fail
    go_ret
    exact ⟨rfl, rfl⟩
theorem itime_any (x : Int) (w : World) : Calls Tryz.prog 41 #[.int .i64 x] w fun e w' => e = .returned (.bool (tm x)) ∧ w' = w := by
  have C1 : Hid (∀ w, Calls Tryz.prog 65 #[.int .i64 x, .int .i64 0, .int .i64 52596000] w fun e w' => e = .returned (.bool (inn x 0 52596000)) ∧ w' = w) := fun w => i_in _ _ _ w
  unfold tm
  go_enter Tryz.func41, Tryz.ntmps41
  go_wp2_with fail
  refine (C1.out _).mono ?_
  rintro e w1 ⟨rfl, hw⟩
  subst hw
  go_wp2_with fail
  go_ret
  exact ⟨rfl, rfl⟩
set_option maxHeartbeats 1000000 in
theorem sspan_any (f t : Int) (w : World) : Calls Tryz.prog 32 #[sp f t] w fun e w' => e = .returned (.bool (span f t)) ∧ Below w.heap.size w w' := by
  unfold span
  have C1 : Hid (∀ w, Calls Tryz.prog 31 #[.int .i64 f] w fun e w' => e = .returned (.bool (tm f)) ∧ w' = w) := fun w => stime_any _ w
  have C2 : Hid (∀ w, Calls Tryz.prog 31 #[.int .i64 t] w fun e w' => e = .returned (.bool (tm t)) ∧ w' = w) := fun w => stime_any _ w
  have BB : Hid (Below w.heap.size w (w.alloc (.cells #[.int .i64 f, .int .i64 t] 31))) := (Below.refl _ _).alloc (Nat.le_refl _) _
  generalize tm f = b1 at *
  generalize tm t = b2 at *
  go_enter Tryz.func32, Tryz.ntmps32
  go_wp2_with fail
  refine (C1.out _).mono ?_
  rintro e w1 ⟨rfl, hw⟩
  subst hw
  cases b1
  · go_wp2_with fail
    go_ret
    exact ⟨rfl, BB.out⟩
  go_wp2_with fail
  refine (C2.out _).mono ?_
  rintro e w1 ⟨rfl, hw⟩
  subst hw
  cases b2
  · go_wp2_with fail
    go_ret
    exact ⟨rfl, BB.out⟩
  go_wp2_with fail
  go_ret
  exact ⟨by simp, BB.out⟩
set_option maxHeartbeats 1000000 in
theorem ispan_any (f t : Int) (w : World) : Calls Tryz.prog 66 #[sp f t] w fun e w' => e = .returned (.bool (span f t)) ∧ Below w.heap.size w w' := by
  unfold span
  have C1 : Hid (∀ w, Calls Tryz.prog 41 #[.int .i64 f] w fun e w' => e = .returned (.bool (tm f)) ∧ w' = w) := fun w => itime_any _ w
  have C2 : Hid (∀ w, Calls Tryz.prog 41 #[.int .i64 t] w fun e w' => e = .returned (.bool (tm t)) ∧ w' = w) := fun w => itime_any _ w
  have BB : Hid (Below w.heap.size w (w.alloc (.cells #[.int .i64 f, .int .i64 t] 31))) := (Below.refl _ _).alloc (Nat.le_refl _) _
  generalize tm f = b1 at *
  generalize tm t = b2 at *
  go_enter Tryz.func66, Tryz.ntmps66
  go_wp2_with fail
  refine (C1.out _).mono ?_
  rintro e w1 ⟨rfl, hw⟩
  subst hw
  cases b1
  · go_wp2_with fail
    go_ret
    exact ⟨rfl, BB.out⟩
  go_wp2_with fail
  refine (C2.out _).mono ?_
  rintro e w1 ⟨rfl, hw⟩
  subst hw
  cases b2
  · go_wp2_with fail
    go_ret
    exact ⟨rfl, BB.out⟩
  go_wp2_with fail
  go_ret
  exact ⟨by simp, BB.out⟩
set_option maxHeartbeats 1000000 in
theorem hours_any (f t : Int) (w : World) : Calls Tryz.prog 67 #[sp f t] w fun e w' => e = .returned (.bool (hr f && hr t)) ∧ Below w.heap.size w w' := by
  have BB : Hid (Below w.heap.size w (w.alloc (.cells #[.int .i64 f, .int .i64 t] 31))) := (Below.refl _ _).alloc (Nat.le_refl _) _
  unfold hr
  cases h1 : (f.tmod 60 == 0)
  · go_enter Tryz.func67, Tryz.ntmps67
    go_wp2_with fail
    go_ret
    exact ⟨rfl, BB.out⟩
  · go_enter Tryz.func67, Tryz.ntmps67
    go_wp2_with fail
    go_ret
    exact ⟨by simp, BB.out⟩
set_option maxHeartbeats 1000000 in
theorem holds_any (f t x : Int) (w : World) : Calls Tryz.prog 81 #[sp f t, .int .i64 x] w fun e w' => e = .returned (.bool (decide (f ≤ x) && decide (x < t))) ∧ Below w.heap.size w w' := by
  have BB : Hid (Below w.heap.size w (w.alloc (.cells #[.int .i64 f, .int .i64 t] 31))) := (Below.refl _ _).alloc (Nat.le_refl _) _
  cases h1 : decide (f ≤ x)
  · have h : ¬ f ≤ x := by simpa using h1
    go_enter Tryz.func81, Tryz.ntmps81
    go_wp2_with fail
    go_ret
    exact ⟨rfl, BB.out⟩
  · have h : f ≤ x := by simpa using h1
    go_enter Tryz.func81, Tryz.ntmps81
    go_wp2_with fail
    go_ret
    exact ⟨rfl, BB.out⟩
set_option maxHeartbeats 1000000 in
theorem apart_any (x y : Int) (w : World) (hx : 0 ≤ x ∧ x ≤ 52596000) (hy : 0 ≤ y ∧ y ≤ 52596000) : Calls Tryz.prog 68 #[.int .i64 x, .int .i64 y] w fun e w' => (∃ z : Int, e = .returned (.int .i64 z) ∧ (z ≤ 1440 ↔ -1440 ≤ x - y ∧ x - y ≤ 1440)) ∧ w' = w := by
  by_cases h1 : y ≤ x
  · by_cases h2 : x ≤ y
    · go_enter Tryz.func68, Tryz.ntmps68
      go_wp2_with fail
      go_ret
      exact ⟨⟨_, rfl, by omega⟩, rfl⟩
    · go_enter Tryz.func68, Tryz.ntmps68
      go_wp2_with fail
      go_ret
      exact ⟨⟨_, rfl, by omega⟩, rfl⟩
  · have h2 : x ≤ y := by omega
    go_enter Tryz.func68, Tryz.ntmps68
    go_wp2_with fail
    go_ret
    exact ⟨⟨_, rfl, by omega⟩, rfl⟩
set_option maxHeartbeats 1000000 in
theorem sunsaid_any (w : World) : Calls Tryz.prog 57 #[] w fun e w' => e = .returned (Sk.sk (-1) 0 (-1) Sk.E Sk.E 0) ∧ Below w.heap.size w w' := by
  go_enter Tryz.func57, Tryz.ntmps57
  go_wp2_with fail
  refine bodyPost_ret (v := Sk.sk (-1) 0 (-1) Sk.E Sk.E 0) (by simp [results, Tryz.results57, go_sem]) rfl ⟨rfl, ?_⟩
  repeat' first | exact Below.refl _ _ | refine Below.setCell ?_ (by simp <;> omega) _ | refine Below.alloc ?_ (by simp <;> omega) _
set_option maxHeartbeats 1000000 in
theorem iunsaid_any (w : World) : Calls Tryz.prog 82 #[] w fun e w' => e = .returned (Sk.sk (-1) 0 (-1) Sk.E Sk.E 0) ∧ Below w.heap.size w w' := by
  go_enter Tryz.func82, Tryz.ntmps82
  go_wp2_with fail
  refine bodyPost_ret (v := Sk.sk (-1) 0 (-1) Sk.E Sk.E 0) (by simp [results, Tryz.results82, go_sem]) rfl ⟨rfl, ?_⟩
  repeat' first | exact Below.refl _ _ | refine Below.setCell ?_ (by simp <;> omega) _ | refine Below.alloc ?_ (by simp <;> omega) _
set_option maxHeartbeats 2000000 in
theorem sfull_any (d p v : Int) (W C : ByteArray) (b : Int) (w : World) : Calls Tryz.prog 34 #[Sk.sk d p v W C b] w fun e w' => e = .returned (.bool (ful d p v W C b)) ∧ Below w.heap.size w w' := by
  unfold ful nE
  have C1 : Hid (∀ w, Calls Tryz.prog 38 #[Sk.sk d p v W C b] w fun e w' => e = .returned (.bool (Sk.ok d p v W C b)) ∧ Below w.heap.size w w') := fun w => Sk.sok_any d p v W C b w
  obtain ⟨wb, hwb⟩ : ∃ wb, wb = w.alloc (.cells #[.int .i64 d, .int .i64 p, .int .i64 v, .string W, .string C, .int .i64 b] 32) := ⟨_, rfl⟩
  have HW : Hid (wb = w.alloc (.cells #[.int .i64 d, .int .i64 p, .int .i64 v, .string W, .string C, .int .i64 b] 32)) := hwb
  have BW : Hid (Below w.heap.size w wb) := (by show Below _ _ _; rw [hwb]; exact (Below.refl _ _).alloc (Nat.le_refl _) _)
  have ZW : Hid (wb.heap.size = w.heap.size + 1) := (by show _ = _; rw [hwb]; simp)
  have KW : Hid (Sk.SB wb w.heap.size d p v W C b) := (by show Sk.SB _ _ _ _ _ _ _ _; rw [hwb]; exact Sk.SB.new w d p v W C b)
  clear hwb
  obtain ⟨k0, k1, k2, k3, k4, k5, _⟩ := KW.out.cells
  generalize Sk.ok d p v W C b = b1 at *
  obtain ⟨q, hq⟩ : ∃ q, q = (b1 && ((d != -1) && ((v != -1) && (!W.toList.isEmpty && !C.toList.isEmpty)))) := ⟨_, rfl⟩
  rw [← hq]
  have HQ : Hid (q = (b1 && ((d != -1) && ((v != -1) && (!W.toList.isEmpty && !C.toList.isEmpty))))) := hq
  clear hq
  go_enter Tryz.func34, Tryz.ntmps34
  go_wp2_with fail
  rw [← HW.out]
  refine (C1.out _).mono ?_
  rintro e w1 ⟨rfl, hb⟩
  have B1 : Hid (Below w.heap.size w w1) := BW.out.trans (hb.mono BW.out.size)
  clear k0 k1 k2 k3 k4 k5 HW
  obtain ⟨k0, k1, k2, k3, k4, k5, _⟩ := (KW.out.on hb (by rw [ZW.out]; omega)).cells
  clear hb
  cases b1
  · go_wp2_with fail
    go_ret
    exact ⟨by rw [HQ.out]; rfl, B1.out⟩
  cases h1 : (d != -1)
  · go_wp2_with fail
    go_ret
    exact ⟨by rw [HQ.out, h1]; rfl, B1.out⟩
  cases h2 : (v != -1)
  · go_wp2_with fail
    go_ret
    exact ⟨by rw [HQ.out, h1, h2]; rfl, B1.out⟩
  cases h3 : W.toList.isEmpty
  · cases h4 : C.toList.isEmpty
    · go_wp2_with fail
      go_ret
      exact ⟨by rw [HQ.out, h1, h2, h3, h4]; rfl, B1.out⟩
    · go_wp2_with fail
      go_ret
      exact ⟨by rw [HQ.out, h1, h2, h3, h4]; rfl, B1.out⟩
  · go_wp2_with fail
    go_ret
    exact ⟨by rw [HQ.out, h1, h2, h3]; rfl, B1.out⟩
set_option maxHeartbeats 2000000 in
theorem ifull_any (d p v : Int) (W C : ByteArray) (b : Int) (w : World) : Calls Tryz.prog 43 #[Sk.sk d p v W C b] w fun e w' => e = .returned (.bool (ful d p v W C b)) ∧ Below w.heap.size w w' := by
  unfold ful nE
  have C1 : Hid (∀ w, Calls Tryz.prog 47 #[Sk.sk d p v W C b] w fun e w' => e = .returned (.bool (Sk.ok d p v W C b)) ∧ Below w.heap.size w w') := fun w => Sk.iok_any d p v W C b w
  obtain ⟨wb, hwb⟩ : ∃ wb, wb = w.alloc (.cells #[.int .i64 d, .int .i64 p, .int .i64 v, .string W, .string C, .int .i64 b] 32) := ⟨_, rfl⟩
  have HW : Hid (wb = w.alloc (.cells #[.int .i64 d, .int .i64 p, .int .i64 v, .string W, .string C, .int .i64 b] 32)) := hwb
  have BW : Hid (Below w.heap.size w wb) := (by show Below _ _ _; rw [hwb]; exact (Below.refl _ _).alloc (Nat.le_refl _) _)
  have ZW : Hid (wb.heap.size = w.heap.size + 1) := (by show _ = _; rw [hwb]; simp)
  have KW : Hid (Sk.SB wb w.heap.size d p v W C b) := (by show Sk.SB _ _ _ _ _ _ _ _; rw [hwb]; exact Sk.SB.new w d p v W C b)
  clear hwb
  obtain ⟨k0, k1, k2, k3, k4, k5, _⟩ := KW.out.cells
  generalize Sk.ok d p v W C b = b1 at *
  obtain ⟨q, hq⟩ : ∃ q, q = (b1 && ((d != -1) && ((v != -1) && (!W.toList.isEmpty && !C.toList.isEmpty)))) := ⟨_, rfl⟩
  rw [← hq]
  have HQ : Hid (q = (b1 && ((d != -1) && ((v != -1) && (!W.toList.isEmpty && !C.toList.isEmpty))))) := hq
  clear hq
  go_enter Tryz.func43, Tryz.ntmps43
  go_wp2_with fail
  rw [← HW.out]
  refine (C1.out _).mono ?_
  rintro e w1 ⟨rfl, hb⟩
  have B1 : Hid (Below w.heap.size w w1) := BW.out.trans (hb.mono BW.out.size)
  clear k0 k1 k2 k3 k4 k5 HW
  obtain ⟨k0, k1, k2, k3, k4, k5, _⟩ := (KW.out.on hb (by rw [ZW.out]; omega)).cells
  clear hb
  cases b1
  · go_wp2_with fail
    go_ret
    exact ⟨by rw [HQ.out]; rfl, B1.out⟩
  cases h1 : (d != -1)
  · go_wp2_with fail
    go_ret
    exact ⟨by rw [HQ.out, h1]; rfl, B1.out⟩
  cases h2 : (v != -1)
  · go_wp2_with fail
    go_ret
    exact ⟨by rw [HQ.out, h1, h2]; rfl, B1.out⟩
  cases h3 : W.toList.isEmpty
  · cases h4 : C.toList.isEmpty
    · go_wp2_with fail
      go_ret
      exact ⟨by rw [HQ.out, h1, h2, h3, h4]; rfl, B1.out⟩
    · go_wp2_with fail
      go_ret
      exact ⟨by rw [HQ.out, h1, h2, h3, h4]; rfl, B1.out⟩
  · go_wp2_with fail
    go_ret
    exact ⟨by rw [HQ.out, h1, h2, h3]; rfl, B1.out⟩
set_option maxHeartbeats 2000000 in
theorem ivalid_any (I f t : Int) (w : World) (hI : tm I = true) : Calls Tryz.prog 42 #[sp f t, .int .i64 I] w fun e w' => e = .returned (.bool (vok I f t)) ∧ Below w.heap.size w w' := by
  unfold vok
  have C1 : Hid (∀ w, Calls Tryz.prog 66 #[sp f t] w fun e w' => e = .returned (.bool (span f t)) ∧ Below w.heap.size w w') := fun w => ispan_any f t w
  have C2 : Hid (∀ w, Calls Tryz.prog 67 #[sp f t] w fun e w' => e = .returned (.bool (hr f && hr t)) ∧ Below w.heap.size w w') := fun w => hours_any f t w
  have C3 : Hid (∀ w, Calls Tryz.prog 65 #[.int .i64 (t - f), .int .i64 60, .int .i64 2160] w fun e w' => e = .returned (.bool (inn (t - f) 60 2160)) ∧ w' = w) := fun w => i_in _ _ _ w
  have hI' : 0 ≤ I ∧ I ≤ 52596000 := by unfold tm at hI; rw [inn_iff] at hI; exact hI
  have HS : Hid (span f t = true → (0 ≤ f ∧ f ≤ 52596000) ∧ (0 ≤ t ∧ t ≤ 52596000)) := fun h => (by
    unfold span tm at h
    simp only [Bool.and_eq_true, inn_iff] at h
    exact ⟨h.1, h.2.1⟩)
  have C4 : Hid ((0 ≤ f ∧ f ≤ 52596000) → ∀ w, Calls Tryz.prog 68 #[.int .i64 f, .int .i64 I] w fun e w' => (∃ z : Int, e = .returned (.int .i64 z) ∧ (z ≤ 1440 ↔ -1440 ≤ f - I ∧ f - I ≤ 1440)) ∧ w' = w) := fun hf w => apart_any f I w hf hI'
  have B0 : Hid (Below w.heap.size w (w.alloc (.cells #[.int .i64 f, .int .i64 t] 31))) := (Below.refl _ _).alloc (Nat.le_refl _) _
  have KW : Hid (∀ w', Below (w.alloc (.cells #[.int .i64 f, .int .i64 t] 31)).heap.size (w.alloc (.cells #[.int .i64 f, .int .i64 t] 31)) w' → w'.cell? ⟨w.heap.size, 0, none⟩ = some (.int .i64 f) ∧ w'.cell? ⟨w.heap.size, 1, none⟩ = some (.int .i64 t)) := fun w' hb => (by
    refine ⟨(hb.cell (p := ⟨w.heap.size, 0, none⟩) (by simp)).trans (by simp [go_sem]), (hb.cell (p := ⟨w.heap.size, 1, none⟩) (by simp)).trans (by simp [go_sem])⟩)
  obtain ⟨wb, hwb⟩ : ∃ wb, wb = w.alloc (.cells #[.int .i64 f, .int .i64 t] 31) := ⟨_, rfl⟩
  have HW : Hid (wb = w.alloc (.cells #[.int .i64 f, .int .i64 t] 31)) := hwb
  rw [← hwb] at B0 KW
  clear hwb hI hI'
  obtain ⟨k0, k1⟩ := KW.out wb (Below.refl _ _)
  generalize span f t = b1 at *
  generalize (hr f) = b2 at *
  generalize (hr t) = b3 at *
  generalize inn (t - f) 60 2160 = b4 at *
  obtain ⟨b5, hb5⟩ : ∃ b5, b5 = inn (f - I) (-1440) 1440 := ⟨_, rfl⟩
  rw [← hb5]
  have H5 : Hid (b5 = inn (f - I) (-1440) 1440) := hb5
  clear hb5
  go_enter Tryz.func42, Tryz.ntmps42
  go_wp2_with fail
  rw [← HW.out]
  refine (C1.out _).mono ?_
  rintro e w1 ⟨rfl, hb⟩
  have Q1 : Hid (Below wb.heap.size wb w1) := hb
  have B1 : Hid (Below w.heap.size w w1) := B0.out.trans (hb.mono B0.out.size)
  clear k0 k1 HW
  obtain ⟨k0, k1⟩ := KW.out w1 hb
  clear hb
  cases b1
  · go_wp2_with fail
    go_ret
    exact ⟨rfl, B1.out⟩
  obtain ⟨hf, ht⟩ := HS.out rfl
  go_wp2_with fail
  refine (C2.out _).mono ?_
  rintro e w2 ⟨rfl, hb⟩
  have Q2 : Hid (Below wb.heap.size wb w2) := Q1.out.trans (hb.mono Q1.out.size)
  have B2 : Hid (Below w.heap.size w w2) := B1.out.trans (hb.mono B1.out.size)
  clear k0 k1 hb
  obtain ⟨k0, k1⟩ := KW.out w2 Q2.out
  cases b2
  · go_wp2_with fail
    go_ret
    exact ⟨rfl, B2.out⟩
  cases b3
  · go_wp2_with fail
    go_ret
    exact ⟨rfl, B2.out⟩
  go_wp2_with fail
  refine (C3.out _).mono ?_
  rintro e w3 ⟨rfl, hw⟩
  subst hw
  cases b4
  · go_wp2_with fail
    go_ret
    exact ⟨rfl, B2.out⟩
  go_wp2_with fail
  refine (C4.out hf _).mono ?_
  rintro e w4 ⟨⟨z, rfl, hz⟩, hw⟩
  subst hw
  by_cases g : z ≤ 1440
  · have E : Hid (b5 = true) := (by show _ = _; rw [H5.out, inn_iff]; exact hz.1 g)
    clear hz
    go_wp2_with fail
    go_ret
    exact ⟨by rw [E.out]; rfl, B2.out⟩
  · have E : Hid (b5 = false) := (by
      show _ = _
      rw [H5.out]
      cases e : inn (f - I) (-1440) 1440
      · rfl
      · rw [inn_iff] at e; exact absurd (hz.2 e) g)
    have g' : decide (z ≤ 1440) = false := decide_eq_false g
    clear hz
    go_wp2_with fail
    go_ret
    exact ⟨by rw [E.out]; rfl, B2.out⟩
end Go.Proofs.YtoaabdmbgemkjaaGreatDoor.To
