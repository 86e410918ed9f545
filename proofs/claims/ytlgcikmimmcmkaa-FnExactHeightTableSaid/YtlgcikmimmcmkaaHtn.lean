/- HeightTable: what is refused; both sides. -/
import Derived.Test.YtlgcikmimmcmkaaHts
namespace Go.Proofs.Ytlgcikmimmcmkaa.Ht
open Go.ChangeShapes Go.WideShapes Go.ChangeAt Go.RowKit
open Go.Proofs.Ytlgcikmimmcmkaa.Flt Go.Proofs.Ytlgcikmimmcmkaa.Wa Go.Proofs.Ytlgcikmimmcmkaa.An Go.Proofs.Ytlgcikmimmcmkaa.Co Go.Proofs.Ytlgcikmimmcmkaa.Ho Go.Proofs.Ytlgcikmimmcmkaa.Km Go.Proofs.Ytlgcikmimmcmkaa.Ca

attribute [local go_sem] Flt.run_store_float
set_option maxHeartbeats 1000000 in
theorem sht0 (L : Co.Ls) (f n : Int) (v : Value) (w : World) (F : Nat → Nat) (hL : Co.Reads w v L) (o1 : okP L = false) :
    Calls Try.prog 5 #[v, .int .i64 f, .int .i64 n] w fun e w' => ∃ v', e = .returned v' ∧ Up w' w.heap.size v' 0 F 0 ∧ Below w.heap.size w w' := by
    obtain ⟨W, hW⟩ : ∃ W, W = w.alloc (Obj.cells #[] 36) := ⟨_, rfl⟩
    have HW : Hid (W = w.alloc (Obj.cells #[] 36)) := hW
    have BW : Below w.heap.size w W := (by rw [hW]; exact (Below.refl _ _).alloc (Nat.le_refl _) _)
    have HB : Hid (Below w.heap.size w W) := BW
    have UW : Hid (Up W w.heap.size (.slice (some ⟨w.heap.size, 0, none⟩) 0 0) 0 F 0) := (by rw [hW]; exact row_lit w _)
    have C1 : Hid (Calls Try.prog 13 #[v] W fun e w' => e = .returned (.bool false) ∧ Below W.heap.size W w') := (by have := sok_any L v W (hL.on BW); rw [o1] at this; exact this)
    obtain ⟨a, cap, rfl⟩ := hL.form
    clear hL hW BW
    generalize L.length = ll at *
    go_enter Try.func5, Try.ntmps5
    go_wp2_with fail
    rw [← HW.out]
    refine C1.out.mono ?_
    rintro e w1 ⟨rfl, b1⟩
    have B1 : Hid (Below w.heap.size w w1) := HB.out.trans (b1.mono HB.out.size)
    have U1 : Hid (Up w1 w.heap.size (.slice (some ⟨w.heap.size, 0, none⟩) 0 0) 0 F 0) := UW.out.on b1
    clear b1
    go_wp2_with fail
    go_ret
    exact ⟨_, rfl, U1.out, B1.out⟩
set_option maxHeartbeats 1000000 in
theorem sht1 (L : Co.Ls) (f n : Int) (v : Value) (w : World) (F : Nat → Nat) (hL : Co.Reads w v L) (o1 : okP L = true) (o3 : inn n 0 4000 = false) :
    Calls Try.prog 5 #[v, .int .i64 f, .int .i64 n] w fun e w' => ∃ v', e = .returned v' ∧ Up w' w.heap.size v' 0 F 0 ∧ Below w.heap.size w w' := by
    obtain ⟨W, hW⟩ : ∃ W, W = w.alloc (Obj.cells #[] 36) := ⟨_, rfl⟩
    have HW : Hid (W = w.alloc (Obj.cells #[] 36)) := hW
    have BW : Below w.heap.size w W := (by rw [hW]; exact (Below.refl _ _).alloc (Nat.le_refl _) _)
    have HB : Hid (Below w.heap.size w W) := BW
    have UW : Hid (Up W w.heap.size (.slice (some ⟨w.heap.size, 0, none⟩) 0 0) 0 F 0) := (by rw [hW]; exact row_lit w _)
    have C1 : Hid (Calls Try.prog 13 #[v] W fun e w' => e = .returned (.bool true) ∧ Below W.heap.size W w') := (by have := sok_any L v W (hL.on BW); rw [o1] at this; exact this)
    have C3 : Hid (∀ w, Calls Try.prog 14 #[.int .i64 n, .int .i64 0, .int .i64 4000] w fun e w' => e = .returned (.bool false) ∧ w' = w) := fun w => (by have := sin_any n 0 4000 w; rw [o3] at this; exact this)
    obtain ⟨a, cap, rfl⟩ := hL.form
    clear hL hW BW
    generalize L.length = ll at *
    go_enter Try.func5, Try.ntmps5
    go_wp2_with fail
    rw [← HW.out]
    refine C1.out.mono ?_
    rintro e w1 ⟨rfl, b1⟩
    have B1 : Hid (Below w.heap.size w w1) := HB.out.trans (b1.mono HB.out.size)
    have U1 : Hid (Up w1 w.heap.size (.slice (some ⟨w.heap.size, 0, none⟩) 0 0) 0 F 0) := UW.out.on b1
    clear b1
    go_wp2_with fail
    refine (C3.out _).mono ?_
    rintro e w2 ⟨rfl, hw⟩
    have hw' := hw.symm
    subst hw'
    go_wp2_with fail
    go_ret
    exact ⟨_, rfl, U1.out, B1.out⟩
set_option maxHeartbeats 1000000 in
theorem sht2 (L : Co.Ls) (f n : Int) (v : Value) (w : World) (F : Nat → Nat) (hL : Co.Reads w v L) (o1 : okP L = true) (o3 : inn n 0 4000 = true) (o2 : inn f (-1000000) 1000000 = false) :
    Calls Try.prog 5 #[v, .int .i64 f, .int .i64 n] w fun e w' => ∃ v', e = .returned v' ∧ Up w' w.heap.size v' 0 F 0 ∧ Below w.heap.size w w' := by
    obtain ⟨W, hW⟩ : ∃ W, W = w.alloc (Obj.cells #[] 36) := ⟨_, rfl⟩
    have HW : Hid (W = w.alloc (Obj.cells #[] 36)) := hW
    have BW : Below w.heap.size w W := (by rw [hW]; exact (Below.refl _ _).alloc (Nat.le_refl _) _)
    have HB : Hid (Below w.heap.size w W) := BW
    have UW : Hid (Up W w.heap.size (.slice (some ⟨w.heap.size, 0, none⟩) 0 0) 0 F 0) := (by rw [hW]; exact row_lit w _)
    have C1 : Hid (Calls Try.prog 13 #[v] W fun e w' => e = .returned (.bool true) ∧ Below W.heap.size W w') := (by have := sok_any L v W (hL.on BW); rw [o1] at this; exact this)
    have C3 : Hid (∀ w, Calls Try.prog 14 #[.int .i64 n, .int .i64 0, .int .i64 4000] w fun e w' => e = .returned (.bool true) ∧ w' = w) := fun w => (by have := sin_any n 0 4000 w; rw [o3] at this; exact this)
    have C2 : Hid (∀ w, Calls Try.prog 15 #[.int .i64 f] w fun e w' => e = .returned (.bool false) ∧ w' = w) := fun w => (by have := shour f w; rw [o2] at this; exact this)
    obtain ⟨a, cap, rfl⟩ := hL.form
    clear hL hW BW
    generalize L.length = ll at *
    go_enter Try.func5, Try.ntmps5
    go_wp2_with fail
    rw [← HW.out]
    refine C1.out.mono ?_
    rintro e w1 ⟨rfl, b1⟩
    have B1 : Hid (Below w.heap.size w w1) := HB.out.trans (b1.mono HB.out.size)
    have U1 : Hid (Up w1 w.heap.size (.slice (some ⟨w.heap.size, 0, none⟩) 0 0) 0 F 0) := UW.out.on b1
    clear b1
    go_wp2_with fail
    refine (C3.out _).mono ?_
    rintro e w2 ⟨rfl, hw⟩
    have hw' := hw.symm
    subst hw'
    go_wp2_with fail
    refine (C2.out _).mono ?_
    rintro e w2 ⟨rfl, hw⟩
    have hw' := hw.symm
    subst hw'
    go_wp2_with fail
    go_ret
    exact ⟨_, rfl, U1.out, B1.out⟩
set_option maxHeartbeats 1000000 in
theorem sht3 (L : Co.Ls) (f n : Int) (v : Value) (w : World) (F : Nat → Nat) (hL : Co.Reads w v L) (o1 : okP L = true) (o3 : inn n 0 4000 = true) (o2 : inn f (-1000000) 1000000 = true) (o4 : ¬ f + n - 1 ≤ 1000000) :
    Calls Try.prog 5 #[v, .int .i64 f, .int .i64 n] w fun e w' => ∃ v', e = .returned v' ∧ Up w' w.heap.size v' 0 F 0 ∧ Below w.heap.size w w' := by
    obtain ⟨W, hW⟩ : ∃ W, W = w.alloc (Obj.cells #[] 36) := ⟨_, rfl⟩
    have HW : Hid (W = w.alloc (Obj.cells #[] 36)) := hW
    have BW : Below w.heap.size w W := (by rw [hW]; exact (Below.refl _ _).alloc (Nat.le_refl _) _)
    have HB : Hid (Below w.heap.size w W) := BW
    have UW : Hid (Up W w.heap.size (.slice (some ⟨w.heap.size, 0, none⟩) 0 0) 0 F 0) := (by rw [hW]; exact row_lit w _)
    have C1 : Hid (Calls Try.prog 13 #[v] W fun e w' => e = .returned (.bool true) ∧ Below W.heap.size W w') := (by have := sok_any L v W (hL.on BW); rw [o1] at this; exact this)
    have C3 : Hid (∀ w, Calls Try.prog 14 #[.int .i64 n, .int .i64 0, .int .i64 4000] w fun e w' => e = .returned (.bool true) ∧ w' = w) := fun w => (by have := sin_any n 0 4000 w; rw [o3] at this; exact this)
    have C2 : Hid (∀ w, Calls Try.prog 15 #[.int .i64 f] w fun e w' => e = .returned (.bool true) ∧ w' = w) := fun w => (by have := shour f w; rw [o2] at this; exact this)
    have p2 := (inn_iff _ _ _).1 o2
    have p3 := (inn_iff _ _ _).1 o3
    have g5 : IntKind.i64.wrap (f + n) = f + n := IntWalk.i64_in _ (by omega)
    have g6 : IntKind.i64.wrap (f + n - 1) = f + n - 1 := IntWalk.i64_in _ (by omega)
    have g7 : (0 : Int) < n := by omega
    have C4 : Hid (∀ w, Calls Try.prog 15 #[.int .i64 (f + n - 1)] w fun e w' => e = .returned (.bool false) ∧ w' = w) := fun w => (by have := shour (f + n - 1) w; have e : inn (f + n - 1) (-1000000) 1000000 = false := (by cases h : inn (f + n - 1) (-1000000) 1000000; rfl; exact absurd ((inn_iff _ _ _).1 h).2 o4); rw [e] at this; exact this)
    obtain ⟨a, cap, rfl⟩ := hL.form
    clear hL hW BW
    generalize L.length = ll at *
    go_enter Try.func5, Try.ntmps5
    go_wp2_with fail
    rw [← HW.out]
    refine C1.out.mono ?_
    rintro e w1 ⟨rfl, b1⟩
    have B1 : Hid (Below w.heap.size w w1) := HB.out.trans (b1.mono HB.out.size)
    have U1 : Hid (Up w1 w.heap.size (.slice (some ⟨w.heap.size, 0, none⟩) 0 0) 0 F 0) := UW.out.on b1
    clear b1
    go_wp2_with fail
    refine (C3.out _).mono ?_
    rintro e w2 ⟨rfl, hw⟩
    have hw' := hw.symm
    subst hw'
    go_wp2_with fail
    refine (C2.out _).mono ?_
    rintro e w2 ⟨rfl, hw⟩
    have hw' := hw.symm
    subst hw'
    go_wp2_with fail
    refine (C4.out _).mono ?_
    rintro e w2 ⟨rfl, hw⟩
    have hw' := hw.symm
    subst hw'
    go_wp2_with fail
    go_ret
    exact ⟨_, rfl, U1.out, B1.out⟩
set_option maxHeartbeats 1000000 in
theorem iht0 (L : Co.Ls) (f n : Int) (v : Value) (w : World) (F : Nat → Nat) (hL : Co.Reads w v L) (o1 : okP L = false) :
    Calls Try.prog 7 #[v, .int .i64 f, .int .i64 n] w fun e w' => ∃ v', e = .returned v' ∧ Up w' w.heap.size v' 0 F 0 ∧ Below w.heap.size w w' := by
    have C1 : Hid (Calls Try.prog 18 #[v] w fun e w' => e = .returned (.bool false) ∧ Below w.heap.size w w') := (by have := iok_any L v w hL; rw [o1] at this; exact this)
    obtain ⟨a, cap, rfl⟩ := hL.form
    clear hL
    generalize L.length = ll at *
    go_enter Try.func7, Try.ntmps7
    go_wp2_with fail
    refine C1.out.mono ?_
    rintro e w1 ⟨rfl, b1⟩
    have B1 : Hid (Below w.heap.size w w1) := b1
    clear b1
    go_wp2_with fail
    go_ret
    exact ⟨_, rfl, row_none _ _ _, B1.out⟩
set_option maxHeartbeats 1000000 in
theorem iht1 (L : Co.Ls) (f n : Int) (v : Value) (w : World) (F : Nat → Nat) (hL : Co.Reads w v L) (o1 : okP L = true) (o2 : inn f (-1000000) 1000000 = false) :
    Calls Try.prog 7 #[v, .int .i64 f, .int .i64 n] w fun e w' => ∃ v', e = .returned v' ∧ Up w' w.heap.size v' 0 F 0 ∧ Below w.heap.size w w' := by
    have C1 : Hid (Calls Try.prog 18 #[v] w fun e w' => e = .returned (.bool true) ∧ Below w.heap.size w w') := (by have := iok_any L v w hL; rw [o1] at this; exact this)
    have C2 : Hid (∀ w, Calls Try.prog 19 #[.int .i64 f] w fun e w' => e = .returned (.bool false) ∧ w' = w) := fun w => (by have := ihour f w; rw [o2] at this; exact this)
    obtain ⟨a, cap, rfl⟩ := hL.form
    clear hL
    generalize L.length = ll at *
    go_enter Try.func7, Try.ntmps7
    go_wp2_with fail
    refine C1.out.mono ?_
    rintro e w1 ⟨rfl, b1⟩
    have B1 : Hid (Below w.heap.size w w1) := b1
    clear b1
    go_wp2_with fail
    refine (C2.out _).mono ?_
    rintro e w2 ⟨rfl, hw⟩
    have hw' := hw.symm
    subst hw'
    go_wp2_with fail
    go_ret
    exact ⟨_, rfl, row_none _ _ _, B1.out⟩
set_option maxHeartbeats 1000000 in
theorem iht2 (L : Co.Ls) (f n : Int) (v : Value) (w : World) (F : Nat → Nat) (hL : Co.Reads w v L) (o1 : okP L = true) (o2 : inn f (-1000000) 1000000 = true) (o3 : inn n 0 4000 = false) :
    Calls Try.prog 7 #[v, .int .i64 f, .int .i64 n] w fun e w' => ∃ v', e = .returned v' ∧ Up w' w.heap.size v' 0 F 0 ∧ Below w.heap.size w w' := by
    have C1 : Hid (Calls Try.prog 18 #[v] w fun e w' => e = .returned (.bool true) ∧ Below w.heap.size w w') := (by have := iok_any L v w hL; rw [o1] at this; exact this)
    have C2 : Hid (∀ w, Calls Try.prog 19 #[.int .i64 f] w fun e w' => e = .returned (.bool true) ∧ w' = w) := fun w => (by have := ihour f w; rw [o2] at this; exact this)
    have C3 : Hid (∀ w, Calls Try.prog 20 #[.int .i64 n, .int .i64 0, .int .i64 4000] w fun e w' => e = .returned (.bool false) ∧ w' = w) := fun w => (by have := win_any n 0 4000 w; rw [o3] at this; exact this)
    obtain ⟨a, cap, rfl⟩ := hL.form
    clear hL
    generalize L.length = ll at *
    go_enter Try.func7, Try.ntmps7
    go_wp2_with fail
    refine C1.out.mono ?_
    rintro e w1 ⟨rfl, b1⟩
    have B1 : Hid (Below w.heap.size w w1) := b1
    clear b1
    go_wp2_with fail
    refine (C2.out _).mono ?_
    rintro e w2 ⟨rfl, hw⟩
    have hw' := hw.symm
    subst hw'
    go_wp2_with fail
    refine (C3.out _).mono ?_
    rintro e w2 ⟨rfl, hw⟩
    have hw' := hw.symm
    subst hw'
    go_wp2_with fail
    go_ret
    exact ⟨_, rfl, row_none _ _ _, B1.out⟩
set_option maxHeartbeats 1000000 in
theorem iht3 (L : Co.Ls) (f n : Int) (v : Value) (w : World) (F : Nat → Nat) (hL : Co.Reads w v L) (o1 : okP L = true) (o2 : inn f (-1000000) 1000000 = true) (o3 : inn n 0 4000 = true) (o4 : ¬ f + n - 1 ≤ 1000000) :
    Calls Try.prog 7 #[v, .int .i64 f, .int .i64 n] w fun e w' => ∃ v', e = .returned v' ∧ Up w' w.heap.size v' 0 F 0 ∧ Below w.heap.size w w' := by
    have C1 : Hid (Calls Try.prog 18 #[v] w fun e w' => e = .returned (.bool true) ∧ Below w.heap.size w w') := (by have := iok_any L v w hL; rw [o1] at this; exact this)
    have C2 : Hid (∀ w, Calls Try.prog 19 #[.int .i64 f] w fun e w' => e = .returned (.bool true) ∧ w' = w) := fun w => (by have := ihour f w; rw [o2] at this; exact this)
    have C3 : Hid (∀ w, Calls Try.prog 20 #[.int .i64 n, .int .i64 0, .int .i64 4000] w fun e w' => e = .returned (.bool true) ∧ w' = w) := fun w => (by have := win_any n 0 4000 w; rw [o3] at this; exact this)
    have p2 := (inn_iff _ _ _).1 o2
    have p3 := (inn_iff _ _ _).1 o3
    have g5 : IntKind.i64.wrap (f + n) = f + n := IntWalk.i64_in _ (by omega)
    have g6 : IntKind.i64.wrap (f + n - 1) = f + n - 1 := IntWalk.i64_in _ (by omega)
    have g7 : (1000000 : Int) < f + n - 1 := by omega
    obtain ⟨a, cap, rfl⟩ := hL.form
    clear hL
    generalize L.length = ll at *
    go_enter Try.func7, Try.ntmps7
    go_wp2_with fail
    refine C1.out.mono ?_
    rintro e w1 ⟨rfl, b1⟩
    have B1 : Hid (Below w.heap.size w w1) := b1
    clear b1
    go_wp2_with fail
    refine (C2.out _).mono ?_
    rintro e w2 ⟨rfl, hw⟩
    have hw' := hw.symm
    subst hw'
    go_wp2_with fail
    refine (C3.out _).mono ?_
    rintro e w2 ⟨rfl, hw⟩
    have hw' := hw.symm
    subst hw'
    go_wp2_with fail
    go_ret
    exact ⟨_, rfl, row_none _ _ _, B1.out⟩
def tn (L : Co.Ls) (f n : Int) : Nat := if okT L f n then n.toNat else 0
theorem tn_le (L : Co.Ls) (f n : Int) : tn L f n ≤ 4000 := by
  unfold tn
  cases h : okT L f n
  · exact Nat.zero_le _
  · unfold okT at h
    rw [Bool.and_eq_true, Bool.and_eq_true, Bool.and_eq_true] at h
    have := (inn_iff _ _ _).1 h.1.2
    show n.toNat ≤ 4000
    omega
theorem sht_any (L : Co.Ls) (f n : Int) (v : Value) (w : World) (hL : Co.Reads w v L) :
    Calls Try.prog 5 #[v, .int .i64 f, .int .i64 n] w fun e w' => ∃ v', e = .returned v' ∧ Up w' w.heap.size v' (tn L f n) (fun i => hs L (f + (i : Int)) L.length) (tn L f n) ∧ Below w.heap.size w w' := by
  unfold tn
  cases h : okT L f n
  · unfold okT at h
    show Calls Try.prog 5 #[v, .int .i64 f, .int .i64 n] w fun e w' => ∃ v', e = .returned v' ∧ Up w' w.heap.size v' 0 _ 0 ∧ Below w.heap.size w w'
    cases o1 : okP L
    · exact sht0 L f n v w _ hL o1
    · cases o3 : inn n 0 4000
      · exact sht1 L f n v w _ hL o1 o3
      · cases o2 : inn f (-1000000) 1000000
        · exact sht2 L f n v w _ hL o1 o3 o2
        · rw [o1, o2, o3] at h
          exact sht3 L f n v w _ hL o1 o3 o2 (by simpa using h)
  · have h' := h
    unfold okT at h'
    rw [Bool.and_eq_true, Bool.and_eq_true, Bool.and_eq_true] at h'
    have b := (inn_iff _ _ _).1 h'.1.2
    obtain ⟨m, hm⟩ : ∃ m : Nat, n = (m : Int) := ⟨n.toNat, by omega⟩
    subst hm
    exact sht_yes L f m v w hL h
theorem iht_any (L : Co.Ls) (f n : Int) (v : Value) (w : World) (hL : Co.Reads w v L) :
    Calls Try.prog 7 #[v, .int .i64 f, .int .i64 n] w fun e w' => ∃ v', e = .returned v' ∧ Up w' w.heap.size v' (tn L f n) (fun i => hs L (f + (i : Int)) L.length) (tn L f n) ∧ Below w.heap.size w w' := by
  unfold tn
  cases h : okT L f n
  · unfold okT at h
    show Calls Try.prog 7 #[v, .int .i64 f, .int .i64 n] w fun e w' => ∃ v', e = .returned v' ∧ Up w' w.heap.size v' 0 _ 0 ∧ Below w.heap.size w w'
    cases o1 : okP L
    · exact iht0 L f n v w _ hL o1
    · cases o2 : inn f (-1000000) 1000000
      · exact iht1 L f n v w _ hL o1 o2
      · cases o3 : inn n 0 4000
        · exact iht2 L f n v w _ hL o1 o2 o3
        · rw [o1, o2, o3] at h
          exact iht3 L f n v w _ hL o1 o2 o3 (by simpa using h)
  · have h' := h
    unfold okT at h'
    rw [Bool.and_eq_true, Bool.and_eq_true, Bool.and_eq_true] at h'
    have b := (inn_iff _ _ _).1 h'.1.2
    obtain ⟨m, hm⟩ : ∃ m : Nat, n = (m : Int) := ⟨n.toNat, by omega⟩
    subst hm
    exact iht_yes L f m v w hL h
end Go.Proofs.Ytlgcikmimmcmkaa.Ht
