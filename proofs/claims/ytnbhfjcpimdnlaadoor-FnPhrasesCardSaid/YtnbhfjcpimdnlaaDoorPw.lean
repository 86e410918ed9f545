/- What a lexicon says of wind and rain. -/
import Derived.Test.YtnbhfjcpimdnlaaDoorPh
import Derived.Deep.Cut
import Derived.Deep.DeepCutAuto
namespace Go.Proofs.YtnbhfjcpimdnlaaDoor.Ph
open Go.ChangeShapes Go.WideShapes Go.ChangeAt Go.RowKit
theorem at_eight (w : World) (k : Nat) (ek : List UInt8) (s0 s1 s2 s3 s4 s5 s6 s7 s8 s9 s10 s11 s12 s13 s14 s15 s16 s17 s18 s19 : List UInt8) (ob : Obj) (hk : [s2, s3, s4, s5, s6, s7, s8, s9][k]? = some ek) : ((w.alloc (.cells #[.string ⟨s0.toArray⟩, .string ⟨s1.toArray⟩, .string ⟨s2.toArray⟩, .string ⟨s3.toArray⟩, .string ⟨s4.toArray⟩, .string ⟨s5.toArray⟩, .string ⟨s6.toArray⟩, .string ⟨s7.toArray⟩, .string ⟨s8.toArray⟩, .string ⟨s9.toArray⟩, .string ⟨s10.toArray⟩, .string ⟨s11.toArray⟩, .string ⟨s12.toArray⟩, .string ⟨s13.toArray⟩, .string ⟨s14.toArray⟩, .string ⟨s15.toArray⟩, .string ⟨s16.toArray⟩, .string ⟨s17.toArray⟩, .string ⟨s18.toArray⟩, .string ⟨s19.toArray⟩] 42)).alloc ob).cell? ⟨w.heap.size, 2 + k, none⟩ = some (.string ⟨ek.toArray⟩) := by
  have hj' := (List.getElem?_eq_some_iff.1 hk).1
  simp at hj'
  rcases (by omega : k = 0 ∨ k = 1 ∨ k = 2 ∨ k = 3 ∨ k = 4 ∨ k = 5 ∨ k = 6 ∨ k = 7) with rfl | rfl | rfl | rfl | rfl | rfl | rfl | rfl
  all_goals
    simp at hk
    subst hk
    simp [go_sem]
theorem at_three (w : World) (k : Nat) (ek : List UInt8) (s0 s1 s2 s3 s4 s5 s6 s7 s8 s9 s10 s11 s12 s13 s14 s15 s16 s17 s18 s19 : List UInt8) (ob : Obj) (hk : [s14, s15, s16][k]? = some ek) : ((w.alloc (.cells #[.string ⟨s0.toArray⟩, .string ⟨s1.toArray⟩, .string ⟨s2.toArray⟩, .string ⟨s3.toArray⟩, .string ⟨s4.toArray⟩, .string ⟨s5.toArray⟩, .string ⟨s6.toArray⟩, .string ⟨s7.toArray⟩, .string ⟨s8.toArray⟩, .string ⟨s9.toArray⟩, .string ⟨s10.toArray⟩, .string ⟨s11.toArray⟩, .string ⟨s12.toArray⟩, .string ⟨s13.toArray⟩, .string ⟨s14.toArray⟩, .string ⟨s15.toArray⟩, .string ⟨s16.toArray⟩, .string ⟨s17.toArray⟩, .string ⟨s18.toArray⟩, .string ⟨s19.toArray⟩] 42)).alloc ob).cell? ⟨w.heap.size, 14 + k, none⟩ = some (.string ⟨ek.toArray⟩) := by
  have hj' := (List.getElem?_eq_some_iff.1 hk).1
  simp at hj'
  rcases (by omega : k = 0 ∨ k = 1 ∨ k = 2) with rfl | rfl | rfl
  all_goals
    simp at hk
    subst hk
    simp [go_sem]
set_option maxHeartbeats 2000000 in
set_option maxRecDepth 20000 in
theorem wind_calm_gt (s0 s1 s2 s3 s4 s5 s6 s7 s8 s9 s10 s11 s12 s13 s14 s15 s16 s17 s18 s19 now LL : List UInt8) (d f l r p : Int) (w : World) (hnow : now.length ≤ 400) (hLL : LL.length ≤ 10) (hl11 : s11.length ≤ 40) (hf : f < l)
    (FL : Hid (∀ X, Below w.heap.size w X → Calls Tryd.prog 41 #[.int .i64 l, .int .i64 10] X fun e w' => e = .returned (.string ⟨LL.toArray⟩) ∧ Below X.heap.size X w'))
    (hd : d = 0) (hn : now = s0) :
    Calls Tryd.prog 29 #[.agg #[.string ⟨s0.toArray⟩, .string ⟨s1.toArray⟩, .string ⟨s2.toArray⟩, .string ⟨s3.toArray⟩, .string ⟨s4.toArray⟩, .string ⟨s5.toArray⟩, .string ⟨s6.toArray⟩, .string ⟨s7.toArray⟩, .string ⟨s8.toArray⟩, .string ⟨s9.toArray⟩, .string ⟨s10.toArray⟩, .string ⟨s11.toArray⟩, .string ⟨s12.toArray⟩, .string ⟨s13.toArray⟩, .string ⟨s14.toArray⟩, .string ⟨s15.toArray⟩, .string ⟨s16.toArray⟩, .string ⟨s17.toArray⟩, .string ⟨s18.toArray⟩, .string ⟨s19.toArray⟩], .agg #[.int .i64 d, .int .i64 f, .int .i64 l, .int .i64 r, .int .i64 p]] w fun e w' => e = .returned (.string ⟨(now ++ s11 ++ LL).toArray⟩) ∧ Below w.heap.size w w' := by
  obtain ⟨R, hR⟩ : ∃ R, R = now ++ s11 ++ LL := ⟨_, rfl⟩
  rw [← hR]
  have J3 : Hid (∀ X : World, Calls Tryd.prog 28 #[.slice (some ⟨X.heap.size, 0, none⟩) 3 3] (X.alloc (.cells #[.string ⟨now.toArray⟩, .string ⟨s11.toArray⟩, .string ⟨LL.toArray⟩] 9)) fun e w' => e = .returned (.string ⟨R.toArray⟩) ∧ Below (X.alloc (.cells #[.string ⟨now.toArray⟩, .string ⟨s11.toArray⟩, .string ⟨LL.toArray⟩] 9)).heap.size (X.alloc (.cells #[.string ⟨now.toArray⟩, .string ⟨s11.toArray⟩, .string ⟨LL.toArray⟩] 9)) w') := fun X => (by rw [hR]; exact join3 now s11 LL X (by omega))
  clear hR
  obtain ⟨w0, hw0⟩ : ∃ w0, w0 = (w.alloc (.cells #[.string ⟨s0.toArray⟩, .string ⟨s1.toArray⟩, .string ⟨s2.toArray⟩, .string ⟨s3.toArray⟩, .string ⟨s4.toArray⟩, .string ⟨s5.toArray⟩, .string ⟨s6.toArray⟩, .string ⟨s7.toArray⟩, .string ⟨s8.toArray⟩, .string ⟨s9.toArray⟩, .string ⟨s10.toArray⟩, .string ⟨s11.toArray⟩, .string ⟨s12.toArray⟩, .string ⟨s13.toArray⟩, .string ⟨s14.toArray⟩, .string ⟨s15.toArray⟩, .string ⟨s16.toArray⟩, .string ⟨s17.toArray⟩, .string ⟨s18.toArray⟩, .string ⟨s19.toArray⟩] 42)).alloc (.cells #[.int .i64 d, .int .i64 f, .int .i64 l, .int .i64 r, .int .i64 p] 23) := ⟨_, rfl⟩
  have HW : Hid (w0 = (w.alloc (.cells #[.string ⟨s0.toArray⟩, .string ⟨s1.toArray⟩, .string ⟨s2.toArray⟩, .string ⟨s3.toArray⟩, .string ⟨s4.toArray⟩, .string ⟨s5.toArray⟩, .string ⟨s6.toArray⟩, .string ⟨s7.toArray⟩, .string ⟨s8.toArray⟩, .string ⟨s9.toArray⟩, .string ⟨s10.toArray⟩, .string ⟨s11.toArray⟩, .string ⟨s12.toArray⟩, .string ⟨s13.toArray⟩, .string ⟨s14.toArray⟩, .string ⟨s15.toArray⟩, .string ⟨s16.toArray⟩, .string ⟨s17.toArray⟩, .string ⟨s18.toArray⟩, .string ⟨s19.toArray⟩] 42)).alloc (.cells #[.int .i64 d, .int .i64 f, .int .i64 l, .int .i64 r, .int .i64 p] 23)) := hw0
  have B0 : Hid (Below w.heap.size w w0) := (by show Below _ _ _; rw [hw0]; exact ((Below.refl _ _).alloc (Nat.le_refl _) _).alloc (by simp) _)
  have z0 : w.heap.size + 1 < w0.heap.size := by rw [hw0]; simp
  have x0 : w0.cell? ⟨w.heap.size, 0, none⟩ = some (.string ⟨s0.toArray⟩) := by rw [hw0]; simp [go_sem]
  have x11 : w0.cell? ⟨w.heap.size, 11, none⟩ = some (.string ⟨s11.toArray⟩) := by rw [hw0]; simp [go_sem]
  have x12 : w0.cell? ⟨w.heap.size, 12, none⟩ = some (.string ⟨s12.toArray⟩) := by rw [hw0]; simp [go_sem]
  have y0 : w0.cell? ⟨w.heap.size + 1, 0, none⟩ = some (.int .i64 d) := by rw [hw0]; simp [go_sem]
  have y1 : w0.cell? ⟨w.heap.size + 1, 1, none⟩ = some (.int .i64 f) := by rw [hw0]; simp [go_sem]
  have y2 : w0.cell? ⟨w.heap.size + 1, 2, none⟩ = some (.int .i64 l) := by rw [hw0]; simp [go_sem]
  subst d
  subst now
  clear hw0
  have n1 := y1
  have n2 := y2
  have m11 := x11
  have m12 := x12
  have BN := B0
  have zN := z0
  have g1 : f < l := hf
  go_enter Tryd.func29, Tryd.ntmps29
  go_upto_region 1 with fail
  rw [← HW.out]
  go_wp2_with fail
  refine (FL.out _ BN.out).mono ?_
  rintro e w5 ⟨rfl, hb5⟩
  have B5 : Hid (Below w.heap.size w w5) := BN.out.trans (hb5.mono BN.out.size)
  have v1 := (hb5.cell (p := ⟨w.heap.size + 1, 1, none⟩) zN).trans n1
  have v2 := (hb5.cell (p := ⟨w.heap.size + 1, 2, none⟩) zN).trans n2
  have u11 := (hb5.cell (p := ⟨w.heap.size, 11, none⟩) (Nat.lt_of_succ_lt zN)).trans m11
  have u12 := (hb5.cell (p := ⟨w.heap.size, 12, none⟩) (Nat.lt_of_succ_lt zN)).trans m12
  clear hb5 n1 n2 m11 m12 BN zN
  go_wp2_with fail
  refine (J3.out w5).mono ?_
  rintro e w6 ⟨rfl, hb6⟩
  have B6 : Hid (Below w.heap.size w w6) := (B5.out.alloc B5.out.size _).trans (hb6.mono (by have := B5.out.size; simp; omega))
  clear hb6
  go_wp2_with fail
  go_ret
  exact ⟨rfl, B6.out⟩
set_option maxHeartbeats 2000000 in
set_option maxRecDepth 20000 in
theorem wind_calm_lt (s0 s1 s2 s3 s4 s5 s6 s7 s8 s9 s10 s11 s12 s13 s14 s15 s16 s17 s18 s19 now LL : List UInt8) (d f l r p : Int) (w : World) (hnow : now.length ≤ 400) (hLL : LL.length ≤ 10) (hl12 : s12.length ≤ 40) (hf : l < f)
    (FL : Hid (∀ X, Below w.heap.size w X → Calls Tryd.prog 41 #[.int .i64 l, .int .i64 10] X fun e w' => e = .returned (.string ⟨LL.toArray⟩) ∧ Below X.heap.size X w'))
    (hd : d = 0) (hn : now = s0) :
    Calls Tryd.prog 29 #[.agg #[.string ⟨s0.toArray⟩, .string ⟨s1.toArray⟩, .string ⟨s2.toArray⟩, .string ⟨s3.toArray⟩, .string ⟨s4.toArray⟩, .string ⟨s5.toArray⟩, .string ⟨s6.toArray⟩, .string ⟨s7.toArray⟩, .string ⟨s8.toArray⟩, .string ⟨s9.toArray⟩, .string ⟨s10.toArray⟩, .string ⟨s11.toArray⟩, .string ⟨s12.toArray⟩, .string ⟨s13.toArray⟩, .string ⟨s14.toArray⟩, .string ⟨s15.toArray⟩, .string ⟨s16.toArray⟩, .string ⟨s17.toArray⟩, .string ⟨s18.toArray⟩, .string ⟨s19.toArray⟩], .agg #[.int .i64 d, .int .i64 f, .int .i64 l, .int .i64 r, .int .i64 p]] w fun e w' => e = .returned (.string ⟨(now ++ s12 ++ LL).toArray⟩) ∧ Below w.heap.size w w' := by
  obtain ⟨R, hR⟩ : ∃ R, R = now ++ s12 ++ LL := ⟨_, rfl⟩
  rw [← hR]
  have J3 : Hid (∀ X : World, Calls Tryd.prog 28 #[.slice (some ⟨X.heap.size, 0, none⟩) 3 3] (X.alloc (.cells #[.string ⟨now.toArray⟩, .string ⟨s12.toArray⟩, .string ⟨LL.toArray⟩] 9)) fun e w' => e = .returned (.string ⟨R.toArray⟩) ∧ Below (X.alloc (.cells #[.string ⟨now.toArray⟩, .string ⟨s12.toArray⟩, .string ⟨LL.toArray⟩] 9)).heap.size (X.alloc (.cells #[.string ⟨now.toArray⟩, .string ⟨s12.toArray⟩, .string ⟨LL.toArray⟩] 9)) w') := fun X => (by rw [hR]; exact join3 now s12 LL X (by omega))
  clear hR
  obtain ⟨w0, hw0⟩ : ∃ w0, w0 = (w.alloc (.cells #[.string ⟨s0.toArray⟩, .string ⟨s1.toArray⟩, .string ⟨s2.toArray⟩, .string ⟨s3.toArray⟩, .string ⟨s4.toArray⟩, .string ⟨s5.toArray⟩, .string ⟨s6.toArray⟩, .string ⟨s7.toArray⟩, .string ⟨s8.toArray⟩, .string ⟨s9.toArray⟩, .string ⟨s10.toArray⟩, .string ⟨s11.toArray⟩, .string ⟨s12.toArray⟩, .string ⟨s13.toArray⟩, .string ⟨s14.toArray⟩, .string ⟨s15.toArray⟩, .string ⟨s16.toArray⟩, .string ⟨s17.toArray⟩, .string ⟨s18.toArray⟩, .string ⟨s19.toArray⟩] 42)).alloc (.cells #[.int .i64 d, .int .i64 f, .int .i64 l, .int .i64 r, .int .i64 p] 23) := ⟨_, rfl⟩
  have HW : Hid (w0 = (w.alloc (.cells #[.string ⟨s0.toArray⟩, .string ⟨s1.toArray⟩, .string ⟨s2.toArray⟩, .string ⟨s3.toArray⟩, .string ⟨s4.toArray⟩, .string ⟨s5.toArray⟩, .string ⟨s6.toArray⟩, .string ⟨s7.toArray⟩, .string ⟨s8.toArray⟩, .string ⟨s9.toArray⟩, .string ⟨s10.toArray⟩, .string ⟨s11.toArray⟩, .string ⟨s12.toArray⟩, .string ⟨s13.toArray⟩, .string ⟨s14.toArray⟩, .string ⟨s15.toArray⟩, .string ⟨s16.toArray⟩, .string ⟨s17.toArray⟩, .string ⟨s18.toArray⟩, .string ⟨s19.toArray⟩] 42)).alloc (.cells #[.int .i64 d, .int .i64 f, .int .i64 l, .int .i64 r, .int .i64 p] 23)) := hw0
  have B0 : Hid (Below w.heap.size w w0) := (by show Below _ _ _; rw [hw0]; exact ((Below.refl _ _).alloc (Nat.le_refl _) _).alloc (by simp) _)
  have z0 : w.heap.size + 1 < w0.heap.size := by rw [hw0]; simp
  have x0 : w0.cell? ⟨w.heap.size, 0, none⟩ = some (.string ⟨s0.toArray⟩) := by rw [hw0]; simp [go_sem]
  have x11 : w0.cell? ⟨w.heap.size, 11, none⟩ = some (.string ⟨s11.toArray⟩) := by rw [hw0]; simp [go_sem]
  have x12 : w0.cell? ⟨w.heap.size, 12, none⟩ = some (.string ⟨s12.toArray⟩) := by rw [hw0]; simp [go_sem]
  have y0 : w0.cell? ⟨w.heap.size + 1, 0, none⟩ = some (.int .i64 d) := by rw [hw0]; simp [go_sem]
  have y1 : w0.cell? ⟨w.heap.size + 1, 1, none⟩ = some (.int .i64 f) := by rw [hw0]; simp [go_sem]
  have y2 : w0.cell? ⟨w.heap.size + 1, 2, none⟩ = some (.int .i64 l) := by rw [hw0]; simp [go_sem]
  subst d
  subst now
  clear hw0
  have n1 := y1
  have n2 := y2
  have m11 := x11
  have m12 := x12
  have BN := B0
  have zN := z0
  have g1 : ¬ f < l := by omega
  go_enter Tryd.func29, Tryd.ntmps29
  go_upto_region 1 with fail
  rw [← HW.out]
  go_wp2_with fail
  refine (FL.out _ BN.out).mono ?_
  rintro e w5 ⟨rfl, hb5⟩
  have B5 : Hid (Below w.heap.size w w5) := BN.out.trans (hb5.mono BN.out.size)
  have v1 := (hb5.cell (p := ⟨w.heap.size + 1, 1, none⟩) zN).trans n1
  have v2 := (hb5.cell (p := ⟨w.heap.size + 1, 2, none⟩) zN).trans n2
  have u11 := (hb5.cell (p := ⟨w.heap.size, 11, none⟩) (Nat.lt_of_succ_lt zN)).trans m11
  have u12 := (hb5.cell (p := ⟨w.heap.size, 12, none⟩) (Nat.lt_of_succ_lt zN)).trans m12
  clear hb5 n1 n2 m11 m12 BN zN
  go_wp2_with fail
  refine (J3.out w5).mono ?_
  rintro e w6 ⟨rfl, hb6⟩
  have B6 : Hid (Below w.heap.size w w6) := (B5.out.alloc B5.out.size _).trans (hb6.mono (by have := B5.out.size; simp; omega))
  clear hb6
  go_wp2_with fail
  go_ret
  exact ⟨rfl, B6.out⟩
set_option maxHeartbeats 2000000 in
set_option maxRecDepth 20000 in
theorem wind_calm_eq (s0 s1 s2 s3 s4 s5 s6 s7 s8 s9 s10 s11 s12 s13 s14 s15 s16 s17 s18 s19 now LL : List UInt8) (d f l r p : Int) (w : World)  (hf : l = f)
    (FL : Hid (∀ X, Below w.heap.size w X → Calls Tryd.prog 41 #[.int .i64 l, .int .i64 10] X fun e w' => e = .returned (.string ⟨LL.toArray⟩) ∧ Below X.heap.size X w'))
    (hd : d = 0) (hn : now = s0) :
    Calls Tryd.prog 29 #[.agg #[.string ⟨s0.toArray⟩, .string ⟨s1.toArray⟩, .string ⟨s2.toArray⟩, .string ⟨s3.toArray⟩, .string ⟨s4.toArray⟩, .string ⟨s5.toArray⟩, .string ⟨s6.toArray⟩, .string ⟨s7.toArray⟩, .string ⟨s8.toArray⟩, .string ⟨s9.toArray⟩, .string ⟨s10.toArray⟩, .string ⟨s11.toArray⟩, .string ⟨s12.toArray⟩, .string ⟨s13.toArray⟩, .string ⟨s14.toArray⟩, .string ⟨s15.toArray⟩, .string ⟨s16.toArray⟩, .string ⟨s17.toArray⟩, .string ⟨s18.toArray⟩, .string ⟨s19.toArray⟩], .agg #[.int .i64 d, .int .i64 f, .int .i64 l, .int .i64 r, .int .i64 p]] w fun e w' => e = .returned (.string ⟨(now).toArray⟩) ∧ Below w.heap.size w w' := by
  subst l
  obtain ⟨w0, hw0⟩ : ∃ w0, w0 = (w.alloc (.cells #[.string ⟨s0.toArray⟩, .string ⟨s1.toArray⟩, .string ⟨s2.toArray⟩, .string ⟨s3.toArray⟩, .string ⟨s4.toArray⟩, .string ⟨s5.toArray⟩, .string ⟨s6.toArray⟩, .string ⟨s7.toArray⟩, .string ⟨s8.toArray⟩, .string ⟨s9.toArray⟩, .string ⟨s10.toArray⟩, .string ⟨s11.toArray⟩, .string ⟨s12.toArray⟩, .string ⟨s13.toArray⟩, .string ⟨s14.toArray⟩, .string ⟨s15.toArray⟩, .string ⟨s16.toArray⟩, .string ⟨s17.toArray⟩, .string ⟨s18.toArray⟩, .string ⟨s19.toArray⟩] 42)).alloc (.cells #[.int .i64 d, .int .i64 f, .int .i64 f, .int .i64 r, .int .i64 p] 23) := ⟨_, rfl⟩
  have HW : Hid (w0 = (w.alloc (.cells #[.string ⟨s0.toArray⟩, .string ⟨s1.toArray⟩, .string ⟨s2.toArray⟩, .string ⟨s3.toArray⟩, .string ⟨s4.toArray⟩, .string ⟨s5.toArray⟩, .string ⟨s6.toArray⟩, .string ⟨s7.toArray⟩, .string ⟨s8.toArray⟩, .string ⟨s9.toArray⟩, .string ⟨s10.toArray⟩, .string ⟨s11.toArray⟩, .string ⟨s12.toArray⟩, .string ⟨s13.toArray⟩, .string ⟨s14.toArray⟩, .string ⟨s15.toArray⟩, .string ⟨s16.toArray⟩, .string ⟨s17.toArray⟩, .string ⟨s18.toArray⟩, .string ⟨s19.toArray⟩] 42)).alloc (.cells #[.int .i64 d, .int .i64 f, .int .i64 f, .int .i64 r, .int .i64 p] 23)) := hw0
  have B0 : Hid (Below w.heap.size w w0) := (by show Below _ _ _; rw [hw0]; exact ((Below.refl _ _).alloc (Nat.le_refl _) _).alloc (by simp) _)
  have z0 : w.heap.size + 1 < w0.heap.size := by rw [hw0]; simp
  have x0 : w0.cell? ⟨w.heap.size, 0, none⟩ = some (.string ⟨s0.toArray⟩) := by rw [hw0]; simp [go_sem]
  have x11 : w0.cell? ⟨w.heap.size, 11, none⟩ = some (.string ⟨s11.toArray⟩) := by rw [hw0]; simp [go_sem]
  have x12 : w0.cell? ⟨w.heap.size, 12, none⟩ = some (.string ⟨s12.toArray⟩) := by rw [hw0]; simp [go_sem]
  have y0 : w0.cell? ⟨w.heap.size + 1, 0, none⟩ = some (.int .i64 d) := by rw [hw0]; simp [go_sem]
  have y1 : w0.cell? ⟨w.heap.size + 1, 1, none⟩ = some (.int .i64 f) := by rw [hw0]; simp [go_sem]
  have y2 : w0.cell? ⟨w.heap.size + 1, 2, none⟩ = some (.int .i64 f) := by rw [hw0]; simp [go_sem]
  subst d
  subst now
  clear hw0
  have n1 := y1
  have n2 := y2
  have m11 := x11
  have m12 := x12
  have BN := B0
  have zN := z0
  have g1 : ¬ f < f := by omega
  go_enter Tryd.func29, Tryd.ntmps29
  go_upto_region 1 with fail
  rw [← HW.out]
  go_wp2_with fail
  refine (FL.out _ BN.out).mono ?_
  rintro e w5 ⟨rfl, hb5⟩
  have B5 : Hid (Below w.heap.size w w5) := BN.out.trans (hb5.mono BN.out.size)
  have v1 := (hb5.cell (p := ⟨w.heap.size + 1, 1, none⟩) zN).trans n1
  have v2 := (hb5.cell (p := ⟨w.heap.size + 1, 2, none⟩) zN).trans n2
  have u11 := (hb5.cell (p := ⟨w.heap.size, 11, none⟩) (Nat.lt_of_succ_lt zN)).trans m11
  have u12 := (hb5.cell (p := ⟨w.heap.size, 12, none⟩) (Nat.lt_of_succ_lt zN)).trans m12
  clear hb5 n1 n2 m11 m12 BN zN
  go_wp2_with fail
  go_ret
  exact ⟨rfl, B5.out⟩
set_option maxHeartbeats 2000000 in
set_option maxRecDepth 20000 in
theorem wind_blow_gt (s0 s1 s2 s3 s4 s5 s6 s7 s8 s9 s10 s11 s12 s13 s14 s15 s16 s17 s18 s19 now LL ek FF : List UInt8) (d f l r p : Int) (k : Nat) (w : World) (hnow : now.length ≤ 400) (hLL : LL.length ≤ 10) (hl11 : s11.length ≤ 40) (hf : f < l)
    (FL : Hid (∀ X, Below w.heap.size w X → Calls Tryd.prog 41 #[.int .i64 l, .int .i64 10] X fun e w' => e = .returned (.string ⟨LL.toArray⟩) ∧ Below X.heap.size X w'))
    (FF' : Hid (∀ X, Below w.heap.size w X → Calls Tryd.prog 41 #[.int .i64 f, .int .i64 10] X fun e w' => e = .returned (.string ⟨FF.toArray⟩) ∧ Below X.heap.size X w'))
    (hd : d ≠ 0) (hk : [s2, s3, s4, s5, s6, s7, s8, s9][k]? = some ek) (hdk : IntKind.i64.wrap (d - 1) = (k : Int)) (hk8 : k < 8) (hn : now = s1 ++ ek ++ s10 ++ FF) :
    Calls Tryd.prog 29 #[.agg #[.string ⟨s0.toArray⟩, .string ⟨s1.toArray⟩, .string ⟨s2.toArray⟩, .string ⟨s3.toArray⟩, .string ⟨s4.toArray⟩, .string ⟨s5.toArray⟩, .string ⟨s6.toArray⟩, .string ⟨s7.toArray⟩, .string ⟨s8.toArray⟩, .string ⟨s9.toArray⟩, .string ⟨s10.toArray⟩, .string ⟨s11.toArray⟩, .string ⟨s12.toArray⟩, .string ⟨s13.toArray⟩, .string ⟨s14.toArray⟩, .string ⟨s15.toArray⟩, .string ⟨s16.toArray⟩, .string ⟨s17.toArray⟩, .string ⟨s18.toArray⟩, .string ⟨s19.toArray⟩], .agg #[.int .i64 d, .int .i64 f, .int .i64 l, .int .i64 r, .int .i64 p]] w fun e w' => e = .returned (.string ⟨(now ++ s11 ++ LL).toArray⟩) ∧ Below w.heap.size w w' := by
  obtain ⟨R, hR⟩ : ∃ R, R = now ++ s11 ++ LL := ⟨_, rfl⟩
  rw [← hR]
  have J3 : Hid (∀ X : World, Calls Tryd.prog 28 #[.slice (some ⟨X.heap.size, 0, none⟩) 3 3] (X.alloc (.cells #[.string ⟨now.toArray⟩, .string ⟨s11.toArray⟩, .string ⟨LL.toArray⟩] 9)) fun e w' => e = .returned (.string ⟨R.toArray⟩) ∧ Below (X.alloc (.cells #[.string ⟨now.toArray⟩, .string ⟨s11.toArray⟩, .string ⟨LL.toArray⟩] 9)).heap.size (X.alloc (.cells #[.string ⟨now.toArray⟩, .string ⟨s11.toArray⟩, .string ⟨LL.toArray⟩] 9)) w') := fun X => (by rw [hR]; exact join3 now s11 LL X (by omega))
  clear hR
  obtain ⟨w0, hw0⟩ : ∃ w0, w0 = (w.alloc (.cells #[.string ⟨s0.toArray⟩, .string ⟨s1.toArray⟩, .string ⟨s2.toArray⟩, .string ⟨s3.toArray⟩, .string ⟨s4.toArray⟩, .string ⟨s5.toArray⟩, .string ⟨s6.toArray⟩, .string ⟨s7.toArray⟩, .string ⟨s8.toArray⟩, .string ⟨s9.toArray⟩, .string ⟨s10.toArray⟩, .string ⟨s11.toArray⟩, .string ⟨s12.toArray⟩, .string ⟨s13.toArray⟩, .string ⟨s14.toArray⟩, .string ⟨s15.toArray⟩, .string ⟨s16.toArray⟩, .string ⟨s17.toArray⟩, .string ⟨s18.toArray⟩, .string ⟨s19.toArray⟩] 42)).alloc (.cells #[.int .i64 d, .int .i64 f, .int .i64 l, .int .i64 r, .int .i64 p] 23) := ⟨_, rfl⟩
  have HW : Hid (w0 = (w.alloc (.cells #[.string ⟨s0.toArray⟩, .string ⟨s1.toArray⟩, .string ⟨s2.toArray⟩, .string ⟨s3.toArray⟩, .string ⟨s4.toArray⟩, .string ⟨s5.toArray⟩, .string ⟨s6.toArray⟩, .string ⟨s7.toArray⟩, .string ⟨s8.toArray⟩, .string ⟨s9.toArray⟩, .string ⟨s10.toArray⟩, .string ⟨s11.toArray⟩, .string ⟨s12.toArray⟩, .string ⟨s13.toArray⟩, .string ⟨s14.toArray⟩, .string ⟨s15.toArray⟩, .string ⟨s16.toArray⟩, .string ⟨s17.toArray⟩, .string ⟨s18.toArray⟩, .string ⟨s19.toArray⟩] 42)).alloc (.cells #[.int .i64 d, .int .i64 f, .int .i64 l, .int .i64 r, .int .i64 p] 23)) := hw0
  have B0 : Hid (Below w.heap.size w w0) := (by show Below _ _ _; rw [hw0]; exact ((Below.refl _ _).alloc (Nat.le_refl _) _).alloc (by simp) _)
  have z0 : w.heap.size + 1 < w0.heap.size := by rw [hw0]; simp
  have x0 : w0.cell? ⟨w.heap.size, 0, none⟩ = some (.string ⟨s0.toArray⟩) := by rw [hw0]; simp [go_sem]
  have x1 : w0.cell? ⟨w.heap.size, 1, none⟩ = some (.string ⟨s1.toArray⟩) := by rw [hw0]; simp [go_sem]
  have x10 : w0.cell? ⟨w.heap.size, 10, none⟩ = some (.string ⟨s10.toArray⟩) := by rw [hw0]; simp [go_sem]
  have x11 : w0.cell? ⟨w.heap.size, 11, none⟩ = some (.string ⟨s11.toArray⟩) := by rw [hw0]; simp [go_sem]
  have x12 : w0.cell? ⟨w.heap.size, 12, none⟩ = some (.string ⟨s12.toArray⟩) := by rw [hw0]; simp [go_sem]
  have y0 : w0.cell? ⟨w.heap.size + 1, 0, none⟩ = some (.int .i64 d) := by rw [hw0]; simp [go_sem]
  have y1 : w0.cell? ⟨w.heap.size + 1, 1, none⟩ = some (.int .i64 f) := by rw [hw0]; simp [go_sem]
  have y2 : w0.cell? ⟨w.heap.size + 1, 2, none⟩ = some (.int .i64 l) := by rw [hw0]; simp [go_sem]
  have xk : w0.cell? ⟨w.heap.size, 2 + k, none⟩ = some (.string ⟨ek.toArray⟩) := by rw [hw0]; exact at_eight w k ek s0 s1 s2 s3 s4 s5 s6 s7 s8 s9 s10 s11 s12 s13 s14 s15 s16 s17 s18 s19 _ hk
  have i0 : (0 : Int) ≤ (k : Int) := by omega
  have i1 : (k : Int) < 8 := by omega
  have db : (d != 0) = true := by simpa using hd
  have HNW : Hid (now = s1 ++ ek ++ s10 ++ FF) := hn
  have J4 : Hid (∀ X : World, Calls Tryd.prog 28 #[.slice (some ⟨X.heap.size, 0, none⟩) 4 4] (X.alloc (.cells #[.string ⟨s1.toArray⟩, .string ⟨ek.toArray⟩, .string ⟨s10.toArray⟩, .string ⟨FF.toArray⟩] 9)) fun e w' => e = .returned (.string ⟨now.toArray⟩) ∧ Below (X.alloc (.cells #[.string ⟨s1.toArray⟩, .string ⟨ek.toArray⟩, .string ⟨s10.toArray⟩, .string ⟨FF.toArray⟩] 9)).heap.size (X.alloc (.cells #[.string ⟨s1.toArray⟩, .string ⟨ek.toArray⟩, .string ⟨s10.toArray⟩, .string ⟨FF.toArray⟩] 9)) w') := fun X => (by rw [hn]; exact join4 s1 ek s10 FF X (by rw [hn] at hnow; simp at hnow; omega))
  have g1 : f < l := hf
  clear hw0 hd hn hk
  go_enter Tryd.func29, Tryd.ntmps29
  go_upto_region 1 with fail
  rw [← HW.out]
  go_upto_region 3 with fail
  have BD : Below w.heap.size w w0.drew := B0.out.drew
  go_cut [5] (fun q wx => q = .string ⟨now.toArray⟩ ∧ Hid (Below w0.heap.size w0 wx))
  case first =>
    go_region_held3 (fun w' => w'.cell? ⟨w.heap.size, 1, none⟩ = some (.string ⟨s1.toArray⟩) ∧ w'.cell? ⟨w.heap.size, 2 + k, none⟩ = some (.string ⟨ek.toArray⟩) ∧ w'.cell? ⟨w.heap.size, 10, none⟩ = some (.string ⟨s10.toArray⟩) ∧ w'.cell? ⟨w.heap.size + 1, 0, none⟩ = some (.int .i64 d) ∧ w'.cell? ⟨w.heap.size + 1, 1, none⟩ = some (.int .i64 f)) (go_keep)
      (first
      | (go_at_call 41; refine (FF'.out _ BD).mono ?_; rintro e w2 ⟨rfl, hb2⟩; have D2 : Below w0.heap.size w0 w2 := (Below.refl _ _).drew.trans (hb2.mono (by simp)); have e1 := (D2.cell (p := ⟨w.heap.size, 1, none⟩) (Nat.lt_of_succ_lt z0)).trans x1; have e2 := (D2.cell (p := ⟨w.heap.size, 2 + k, none⟩) (Nat.lt_of_succ_lt z0)).trans xk; have e3 := (D2.cell (p := ⟨w.heap.size, 10, none⟩) (Nat.lt_of_succ_lt z0)).trans x10; have e4 := (D2.cell (p := ⟨w.heap.size + 1, 0, none⟩) z0).trans y0; have e5 := (D2.cell (p := ⟨w.heap.size + 1, 1, none⟩) z0).trans y1)
      | (go_at_call 28; refine (J4.out w2).mono ?_; rintro e w3 ⟨rfl, hb3⟩; have D3 : Below w0.heap.size w0 w3 := (D2.alloc D2.size _).trans (hb3.mono (by have := D2.size; simp; omega)); have e6 := (D3.cell (p := ⟨w.heap.size, 1, none⟩) (Nat.lt_of_succ_lt z0)).trans x1; have e7 := (D3.cell (p := ⟨w.heap.size, 2 + k, none⟩) (Nat.lt_of_succ_lt z0)).trans xk; have e8 := (D3.cell (p := ⟨w.heap.size, 10, none⟩) (Nat.lt_of_succ_lt z0)).trans x10; have e9 := (D3.cell (p := ⟨w.heap.size + 1, 0, none⟩) z0).trans y0; have e10 := (D3.cell (p := ⟨w.heap.size + 1, 1, none⟩) z0).trans y1))
    all_goals go_wp2_with fail
    all_goals go_meet
    all_goals exact ⟨rfl, D3⟩
  case rest =>
    obtain ⟨w4, hw4⟩ : ∃ x : World, x = wc := ⟨_, rfl⟩
    subst hw4
    obtain ⟨rfl, D4⟩ := hcut
    have n1 := (D4.out.cell (p := ⟨w.heap.size + 1, 1, none⟩) z0).trans y1
    have n2 := (D4.out.cell (p := ⟨w.heap.size + 1, 2, none⟩) z0).trans y2
    have m11 := (D4.out.cell (p := ⟨w.heap.size, 11, none⟩) (Nat.lt_of_succ_lt z0)).trans x11
    have m12 := (D4.out.cell (p := ⟨w.heap.size, 12, none⟩) (Nat.lt_of_succ_lt z0)).trans x12
    have BN : Hid (Below w.heap.size w w4) := B0.out.trans (D4.out.mono B0.out.size)
    have zN : w.heap.size + 1 < w4.heap.size := Nat.lt_of_lt_of_le z0 D4.out.size
    clear x0 x1 x10 x11 x12 xk y0 y1 y2 BD D4 B0 z0 HW J4
    go_wp2_with fail
    refine (FL.out _ BN.out).mono ?_
    rintro e w5 ⟨rfl, hb5⟩
    have B5 : Hid (Below w.heap.size w w5) := BN.out.trans (hb5.mono BN.out.size)
    have v1 := (hb5.cell (p := ⟨w.heap.size + 1, 1, none⟩) zN).trans n1
    have v2 := (hb5.cell (p := ⟨w.heap.size + 1, 2, none⟩) zN).trans n2
    have u11 := (hb5.cell (p := ⟨w.heap.size, 11, none⟩) (Nat.lt_of_succ_lt zN)).trans m11
    have u12 := (hb5.cell (p := ⟨w.heap.size, 12, none⟩) (Nat.lt_of_succ_lt zN)).trans m12
    clear hb5 n1 n2 m11 m12 BN zN
    go_wp2_with fail
    refine (J3.out w5).mono ?_
    rintro e w6 ⟨rfl, hb6⟩
    have B6 : Hid (Below w.heap.size w w6) := (B5.out.alloc B5.out.size _).trans (hb6.mono (by have := B5.out.size; simp; omega))
    clear hb6
    go_wp2_with fail
    go_ret
    exact ⟨rfl, B6.out⟩
set_option maxHeartbeats 2000000 in
set_option maxRecDepth 20000 in
theorem wind_blow_lt (s0 s1 s2 s3 s4 s5 s6 s7 s8 s9 s10 s11 s12 s13 s14 s15 s16 s17 s18 s19 now LL ek FF : List UInt8) (d f l r p : Int) (k : Nat) (w : World) (hnow : now.length ≤ 400) (hLL : LL.length ≤ 10) (hl12 : s12.length ≤ 40) (hf : l < f)
    (FL : Hid (∀ X, Below w.heap.size w X → Calls Tryd.prog 41 #[.int .i64 l, .int .i64 10] X fun e w' => e = .returned (.string ⟨LL.toArray⟩) ∧ Below X.heap.size X w'))
    (FF' : Hid (∀ X, Below w.heap.size w X → Calls Tryd.prog 41 #[.int .i64 f, .int .i64 10] X fun e w' => e = .returned (.string ⟨FF.toArray⟩) ∧ Below X.heap.size X w'))
    (hd : d ≠ 0) (hk : [s2, s3, s4, s5, s6, s7, s8, s9][k]? = some ek) (hdk : IntKind.i64.wrap (d - 1) = (k : Int)) (hk8 : k < 8) (hn : now = s1 ++ ek ++ s10 ++ FF) :
    Calls Tryd.prog 29 #[.agg #[.string ⟨s0.toArray⟩, .string ⟨s1.toArray⟩, .string ⟨s2.toArray⟩, .string ⟨s3.toArray⟩, .string ⟨s4.toArray⟩, .string ⟨s5.toArray⟩, .string ⟨s6.toArray⟩, .string ⟨s7.toArray⟩, .string ⟨s8.toArray⟩, .string ⟨s9.toArray⟩, .string ⟨s10.toArray⟩, .string ⟨s11.toArray⟩, .string ⟨s12.toArray⟩, .string ⟨s13.toArray⟩, .string ⟨s14.toArray⟩, .string ⟨s15.toArray⟩, .string ⟨s16.toArray⟩, .string ⟨s17.toArray⟩, .string ⟨s18.toArray⟩, .string ⟨s19.toArray⟩], .agg #[.int .i64 d, .int .i64 f, .int .i64 l, .int .i64 r, .int .i64 p]] w fun e w' => e = .returned (.string ⟨(now ++ s12 ++ LL).toArray⟩) ∧ Below w.heap.size w w' := by
  obtain ⟨R, hR⟩ : ∃ R, R = now ++ s12 ++ LL := ⟨_, rfl⟩
  rw [← hR]
  have J3 : Hid (∀ X : World, Calls Tryd.prog 28 #[.slice (some ⟨X.heap.size, 0, none⟩) 3 3] (X.alloc (.cells #[.string ⟨now.toArray⟩, .string ⟨s12.toArray⟩, .string ⟨LL.toArray⟩] 9)) fun e w' => e = .returned (.string ⟨R.toArray⟩) ∧ Below (X.alloc (.cells #[.string ⟨now.toArray⟩, .string ⟨s12.toArray⟩, .string ⟨LL.toArray⟩] 9)).heap.size (X.alloc (.cells #[.string ⟨now.toArray⟩, .string ⟨s12.toArray⟩, .string ⟨LL.toArray⟩] 9)) w') := fun X => (by rw [hR]; exact join3 now s12 LL X (by omega))
  clear hR
  obtain ⟨w0, hw0⟩ : ∃ w0, w0 = (w.alloc (.cells #[.string ⟨s0.toArray⟩, .string ⟨s1.toArray⟩, .string ⟨s2.toArray⟩, .string ⟨s3.toArray⟩, .string ⟨s4.toArray⟩, .string ⟨s5.toArray⟩, .string ⟨s6.toArray⟩, .string ⟨s7.toArray⟩, .string ⟨s8.toArray⟩, .string ⟨s9.toArray⟩, .string ⟨s10.toArray⟩, .string ⟨s11.toArray⟩, .string ⟨s12.toArray⟩, .string ⟨s13.toArray⟩, .string ⟨s14.toArray⟩, .string ⟨s15.toArray⟩, .string ⟨s16.toArray⟩, .string ⟨s17.toArray⟩, .string ⟨s18.toArray⟩, .string ⟨s19.toArray⟩] 42)).alloc (.cells #[.int .i64 d, .int .i64 f, .int .i64 l, .int .i64 r, .int .i64 p] 23) := ⟨_, rfl⟩
  have HW : Hid (w0 = (w.alloc (.cells #[.string ⟨s0.toArray⟩, .string ⟨s1.toArray⟩, .string ⟨s2.toArray⟩, .string ⟨s3.toArray⟩, .string ⟨s4.toArray⟩, .string ⟨s5.toArray⟩, .string ⟨s6.toArray⟩, .string ⟨s7.toArray⟩, .string ⟨s8.toArray⟩, .string ⟨s9.toArray⟩, .string ⟨s10.toArray⟩, .string ⟨s11.toArray⟩, .string ⟨s12.toArray⟩, .string ⟨s13.toArray⟩, .string ⟨s14.toArray⟩, .string ⟨s15.toArray⟩, .string ⟨s16.toArray⟩, .string ⟨s17.toArray⟩, .string ⟨s18.toArray⟩, .string ⟨s19.toArray⟩] 42)).alloc (.cells #[.int .i64 d, .int .i64 f, .int .i64 l, .int .i64 r, .int .i64 p] 23)) := hw0
  have B0 : Hid (Below w.heap.size w w0) := (by show Below _ _ _; rw [hw0]; exact ((Below.refl _ _).alloc (Nat.le_refl _) _).alloc (by simp) _)
  have z0 : w.heap.size + 1 < w0.heap.size := by rw [hw0]; simp
  have x0 : w0.cell? ⟨w.heap.size, 0, none⟩ = some (.string ⟨s0.toArray⟩) := by rw [hw0]; simp [go_sem]
  have x1 : w0.cell? ⟨w.heap.size, 1, none⟩ = some (.string ⟨s1.toArray⟩) := by rw [hw0]; simp [go_sem]
  have x10 : w0.cell? ⟨w.heap.size, 10, none⟩ = some (.string ⟨s10.toArray⟩) := by rw [hw0]; simp [go_sem]
  have x11 : w0.cell? ⟨w.heap.size, 11, none⟩ = some (.string ⟨s11.toArray⟩) := by rw [hw0]; simp [go_sem]
  have x12 : w0.cell? ⟨w.heap.size, 12, none⟩ = some (.string ⟨s12.toArray⟩) := by rw [hw0]; simp [go_sem]
  have y0 : w0.cell? ⟨w.heap.size + 1, 0, none⟩ = some (.int .i64 d) := by rw [hw0]; simp [go_sem]
  have y1 : w0.cell? ⟨w.heap.size + 1, 1, none⟩ = some (.int .i64 f) := by rw [hw0]; simp [go_sem]
  have y2 : w0.cell? ⟨w.heap.size + 1, 2, none⟩ = some (.int .i64 l) := by rw [hw0]; simp [go_sem]
  have xk : w0.cell? ⟨w.heap.size, 2 + k, none⟩ = some (.string ⟨ek.toArray⟩) := by rw [hw0]; exact at_eight w k ek s0 s1 s2 s3 s4 s5 s6 s7 s8 s9 s10 s11 s12 s13 s14 s15 s16 s17 s18 s19 _ hk
  have i0 : (0 : Int) ≤ (k : Int) := by omega
  have i1 : (k : Int) < 8 := by omega
  have db : (d != 0) = true := by simpa using hd
  have HNW : Hid (now = s1 ++ ek ++ s10 ++ FF) := hn
  have J4 : Hid (∀ X : World, Calls Tryd.prog 28 #[.slice (some ⟨X.heap.size, 0, none⟩) 4 4] (X.alloc (.cells #[.string ⟨s1.toArray⟩, .string ⟨ek.toArray⟩, .string ⟨s10.toArray⟩, .string ⟨FF.toArray⟩] 9)) fun e w' => e = .returned (.string ⟨now.toArray⟩) ∧ Below (X.alloc (.cells #[.string ⟨s1.toArray⟩, .string ⟨ek.toArray⟩, .string ⟨s10.toArray⟩, .string ⟨FF.toArray⟩] 9)).heap.size (X.alloc (.cells #[.string ⟨s1.toArray⟩, .string ⟨ek.toArray⟩, .string ⟨s10.toArray⟩, .string ⟨FF.toArray⟩] 9)) w') := fun X => (by rw [hn]; exact join4 s1 ek s10 FF X (by rw [hn] at hnow; simp at hnow; omega))
  have g1 : ¬ f < l := by omega
  clear hw0 hd hn hk
  go_enter Tryd.func29, Tryd.ntmps29
  go_upto_region 1 with fail
  rw [← HW.out]
  go_upto_region 3 with fail
  have BD : Below w.heap.size w w0.drew := B0.out.drew
  go_cut [5] (fun q wx => q = .string ⟨now.toArray⟩ ∧ Hid (Below w0.heap.size w0 wx))
  case first =>
    go_region_held3 (fun w' => w'.cell? ⟨w.heap.size, 1, none⟩ = some (.string ⟨s1.toArray⟩) ∧ w'.cell? ⟨w.heap.size, 2 + k, none⟩ = some (.string ⟨ek.toArray⟩) ∧ w'.cell? ⟨w.heap.size, 10, none⟩ = some (.string ⟨s10.toArray⟩) ∧ w'.cell? ⟨w.heap.size + 1, 0, none⟩ = some (.int .i64 d) ∧ w'.cell? ⟨w.heap.size + 1, 1, none⟩ = some (.int .i64 f)) (go_keep)
      (first
      | (go_at_call 41; refine (FF'.out _ BD).mono ?_; rintro e w2 ⟨rfl, hb2⟩; have D2 : Below w0.heap.size w0 w2 := (Below.refl _ _).drew.trans (hb2.mono (by simp)); have e1 := (D2.cell (p := ⟨w.heap.size, 1, none⟩) (Nat.lt_of_succ_lt z0)).trans x1; have e2 := (D2.cell (p := ⟨w.heap.size, 2 + k, none⟩) (Nat.lt_of_succ_lt z0)).trans xk; have e3 := (D2.cell (p := ⟨w.heap.size, 10, none⟩) (Nat.lt_of_succ_lt z0)).trans x10; have e4 := (D2.cell (p := ⟨w.heap.size + 1, 0, none⟩) z0).trans y0; have e5 := (D2.cell (p := ⟨w.heap.size + 1, 1, none⟩) z0).trans y1)
      | (go_at_call 28; refine (J4.out w2).mono ?_; rintro e w3 ⟨rfl, hb3⟩; have D3 : Below w0.heap.size w0 w3 := (D2.alloc D2.size _).trans (hb3.mono (by have := D2.size; simp; omega)); have e6 := (D3.cell (p := ⟨w.heap.size, 1, none⟩) (Nat.lt_of_succ_lt z0)).trans x1; have e7 := (D3.cell (p := ⟨w.heap.size, 2 + k, none⟩) (Nat.lt_of_succ_lt z0)).trans xk; have e8 := (D3.cell (p := ⟨w.heap.size, 10, none⟩) (Nat.lt_of_succ_lt z0)).trans x10; have e9 := (D3.cell (p := ⟨w.heap.size + 1, 0, none⟩) z0).trans y0; have e10 := (D3.cell (p := ⟨w.heap.size + 1, 1, none⟩) z0).trans y1))
    all_goals go_wp2_with fail
    all_goals go_meet
    all_goals exact ⟨rfl, D3⟩
  case rest =>
    obtain ⟨w4, hw4⟩ : ∃ x : World, x = wc := ⟨_, rfl⟩
    subst hw4
    obtain ⟨rfl, D4⟩ := hcut
    have n1 := (D4.out.cell (p := ⟨w.heap.size + 1, 1, none⟩) z0).trans y1
    have n2 := (D4.out.cell (p := ⟨w.heap.size + 1, 2, none⟩) z0).trans y2
    have m11 := (D4.out.cell (p := ⟨w.heap.size, 11, none⟩) (Nat.lt_of_succ_lt z0)).trans x11
    have m12 := (D4.out.cell (p := ⟨w.heap.size, 12, none⟩) (Nat.lt_of_succ_lt z0)).trans x12
    have BN : Hid (Below w.heap.size w w4) := B0.out.trans (D4.out.mono B0.out.size)
    have zN : w.heap.size + 1 < w4.heap.size := Nat.lt_of_lt_of_le z0 D4.out.size
    clear x0 x1 x10 x11 x12 xk y0 y1 y2 BD D4 B0 z0 HW J4
    go_wp2_with fail
    refine (FL.out _ BN.out).mono ?_
    rintro e w5 ⟨rfl, hb5⟩
    have B5 : Hid (Below w.heap.size w w5) := BN.out.trans (hb5.mono BN.out.size)
    have v1 := (hb5.cell (p := ⟨w.heap.size + 1, 1, none⟩) zN).trans n1
    have v2 := (hb5.cell (p := ⟨w.heap.size + 1, 2, none⟩) zN).trans n2
    have u11 := (hb5.cell (p := ⟨w.heap.size, 11, none⟩) (Nat.lt_of_succ_lt zN)).trans m11
    have u12 := (hb5.cell (p := ⟨w.heap.size, 12, none⟩) (Nat.lt_of_succ_lt zN)).trans m12
    clear hb5 n1 n2 m11 m12 BN zN
    go_wp2_with fail
    refine (J3.out w5).mono ?_
    rintro e w6 ⟨rfl, hb6⟩
    have B6 : Hid (Below w.heap.size w w6) := (B5.out.alloc B5.out.size _).trans (hb6.mono (by have := B5.out.size; simp; omega))
    clear hb6
    go_wp2_with fail
    go_ret
    exact ⟨rfl, B6.out⟩
set_option maxHeartbeats 2000000 in
set_option maxRecDepth 20000 in
theorem wind_blow_eq (s0 s1 s2 s3 s4 s5 s6 s7 s8 s9 s10 s11 s12 s13 s14 s15 s16 s17 s18 s19 now LL ek FF : List UInt8) (d f l r p : Int) (k : Nat) (w : World) (hnow : now.length ≤ 400) (hf : l = f)
    (FL : Hid (∀ X, Below w.heap.size w X → Calls Tryd.prog 41 #[.int .i64 l, .int .i64 10] X fun e w' => e = .returned (.string ⟨LL.toArray⟩) ∧ Below X.heap.size X w'))
    (FF' : Hid (∀ X, Below w.heap.size w X → Calls Tryd.prog 41 #[.int .i64 f, .int .i64 10] X fun e w' => e = .returned (.string ⟨FF.toArray⟩) ∧ Below X.heap.size X w'))
    (hd : d ≠ 0) (hk : [s2, s3, s4, s5, s6, s7, s8, s9][k]? = some ek) (hdk : IntKind.i64.wrap (d - 1) = (k : Int)) (hk8 : k < 8) (hn : now = s1 ++ ek ++ s10 ++ FF) :
    Calls Tryd.prog 29 #[.agg #[.string ⟨s0.toArray⟩, .string ⟨s1.toArray⟩, .string ⟨s2.toArray⟩, .string ⟨s3.toArray⟩, .string ⟨s4.toArray⟩, .string ⟨s5.toArray⟩, .string ⟨s6.toArray⟩, .string ⟨s7.toArray⟩, .string ⟨s8.toArray⟩, .string ⟨s9.toArray⟩, .string ⟨s10.toArray⟩, .string ⟨s11.toArray⟩, .string ⟨s12.toArray⟩, .string ⟨s13.toArray⟩, .string ⟨s14.toArray⟩, .string ⟨s15.toArray⟩, .string ⟨s16.toArray⟩, .string ⟨s17.toArray⟩, .string ⟨s18.toArray⟩, .string ⟨s19.toArray⟩], .agg #[.int .i64 d, .int .i64 f, .int .i64 l, .int .i64 r, .int .i64 p]] w fun e w' => e = .returned (.string ⟨(now).toArray⟩) ∧ Below w.heap.size w w' := by
  subst l
  obtain ⟨w0, hw0⟩ : ∃ w0, w0 = (w.alloc (.cells #[.string ⟨s0.toArray⟩, .string ⟨s1.toArray⟩, .string ⟨s2.toArray⟩, .string ⟨s3.toArray⟩, .string ⟨s4.toArray⟩, .string ⟨s5.toArray⟩, .string ⟨s6.toArray⟩, .string ⟨s7.toArray⟩, .string ⟨s8.toArray⟩, .string ⟨s9.toArray⟩, .string ⟨s10.toArray⟩, .string ⟨s11.toArray⟩, .string ⟨s12.toArray⟩, .string ⟨s13.toArray⟩, .string ⟨s14.toArray⟩, .string ⟨s15.toArray⟩, .string ⟨s16.toArray⟩, .string ⟨s17.toArray⟩, .string ⟨s18.toArray⟩, .string ⟨s19.toArray⟩] 42)).alloc (.cells #[.int .i64 d, .int .i64 f, .int .i64 f, .int .i64 r, .int .i64 p] 23) := ⟨_, rfl⟩
  have HW : Hid (w0 = (w.alloc (.cells #[.string ⟨s0.toArray⟩, .string ⟨s1.toArray⟩, .string ⟨s2.toArray⟩, .string ⟨s3.toArray⟩, .string ⟨s4.toArray⟩, .string ⟨s5.toArray⟩, .string ⟨s6.toArray⟩, .string ⟨s7.toArray⟩, .string ⟨s8.toArray⟩, .string ⟨s9.toArray⟩, .string ⟨s10.toArray⟩, .string ⟨s11.toArray⟩, .string ⟨s12.toArray⟩, .string ⟨s13.toArray⟩, .string ⟨s14.toArray⟩, .string ⟨s15.toArray⟩, .string ⟨s16.toArray⟩, .string ⟨s17.toArray⟩, .string ⟨s18.toArray⟩, .string ⟨s19.toArray⟩] 42)).alloc (.cells #[.int .i64 d, .int .i64 f, .int .i64 f, .int .i64 r, .int .i64 p] 23)) := hw0
  have B0 : Hid (Below w.heap.size w w0) := (by show Below _ _ _; rw [hw0]; exact ((Below.refl _ _).alloc (Nat.le_refl _) _).alloc (by simp) _)
  have z0 : w.heap.size + 1 < w0.heap.size := by rw [hw0]; simp
  have x0 : w0.cell? ⟨w.heap.size, 0, none⟩ = some (.string ⟨s0.toArray⟩) := by rw [hw0]; simp [go_sem]
  have x1 : w0.cell? ⟨w.heap.size, 1, none⟩ = some (.string ⟨s1.toArray⟩) := by rw [hw0]; simp [go_sem]
  have x10 : w0.cell? ⟨w.heap.size, 10, none⟩ = some (.string ⟨s10.toArray⟩) := by rw [hw0]; simp [go_sem]
  have x11 : w0.cell? ⟨w.heap.size, 11, none⟩ = some (.string ⟨s11.toArray⟩) := by rw [hw0]; simp [go_sem]
  have x12 : w0.cell? ⟨w.heap.size, 12, none⟩ = some (.string ⟨s12.toArray⟩) := by rw [hw0]; simp [go_sem]
  have y0 : w0.cell? ⟨w.heap.size + 1, 0, none⟩ = some (.int .i64 d) := by rw [hw0]; simp [go_sem]
  have y1 : w0.cell? ⟨w.heap.size + 1, 1, none⟩ = some (.int .i64 f) := by rw [hw0]; simp [go_sem]
  have y2 : w0.cell? ⟨w.heap.size + 1, 2, none⟩ = some (.int .i64 f) := by rw [hw0]; simp [go_sem]
  have xk : w0.cell? ⟨w.heap.size, 2 + k, none⟩ = some (.string ⟨ek.toArray⟩) := by rw [hw0]; exact at_eight w k ek s0 s1 s2 s3 s4 s5 s6 s7 s8 s9 s10 s11 s12 s13 s14 s15 s16 s17 s18 s19 _ hk
  have i0 : (0 : Int) ≤ (k : Int) := by omega
  have i1 : (k : Int) < 8 := by omega
  have db : (d != 0) = true := by simpa using hd
  have HNW : Hid (now = s1 ++ ek ++ s10 ++ FF) := hn
  have J4 : Hid (∀ X : World, Calls Tryd.prog 28 #[.slice (some ⟨X.heap.size, 0, none⟩) 4 4] (X.alloc (.cells #[.string ⟨s1.toArray⟩, .string ⟨ek.toArray⟩, .string ⟨s10.toArray⟩, .string ⟨FF.toArray⟩] 9)) fun e w' => e = .returned (.string ⟨now.toArray⟩) ∧ Below (X.alloc (.cells #[.string ⟨s1.toArray⟩, .string ⟨ek.toArray⟩, .string ⟨s10.toArray⟩, .string ⟨FF.toArray⟩] 9)).heap.size (X.alloc (.cells #[.string ⟨s1.toArray⟩, .string ⟨ek.toArray⟩, .string ⟨s10.toArray⟩, .string ⟨FF.toArray⟩] 9)) w') := fun X => (by rw [hn]; exact join4 s1 ek s10 FF X (by rw [hn] at hnow; simp at hnow; omega))
  have g1 : ¬ f < f := by omega
  clear hw0 hd hn hk
  go_enter Tryd.func29, Tryd.ntmps29
  go_upto_region 1 with fail
  rw [← HW.out]
  go_upto_region 3 with fail
  have BD : Below w.heap.size w w0.drew := B0.out.drew
  go_cut [5] (fun q wx => q = .string ⟨now.toArray⟩ ∧ Hid (Below w0.heap.size w0 wx))
  case first =>
    go_region_held3 (fun w' => w'.cell? ⟨w.heap.size, 1, none⟩ = some (.string ⟨s1.toArray⟩) ∧ w'.cell? ⟨w.heap.size, 2 + k, none⟩ = some (.string ⟨ek.toArray⟩) ∧ w'.cell? ⟨w.heap.size, 10, none⟩ = some (.string ⟨s10.toArray⟩) ∧ w'.cell? ⟨w.heap.size + 1, 0, none⟩ = some (.int .i64 d) ∧ w'.cell? ⟨w.heap.size + 1, 1, none⟩ = some (.int .i64 f)) (go_keep)
      (first
      | (go_at_call 41; refine (FF'.out _ BD).mono ?_; rintro e w2 ⟨rfl, hb2⟩; have D2 : Below w0.heap.size w0 w2 := (Below.refl _ _).drew.trans (hb2.mono (by simp)); have e1 := (D2.cell (p := ⟨w.heap.size, 1, none⟩) (Nat.lt_of_succ_lt z0)).trans x1; have e2 := (D2.cell (p := ⟨w.heap.size, 2 + k, none⟩) (Nat.lt_of_succ_lt z0)).trans xk; have e3 := (D2.cell (p := ⟨w.heap.size, 10, none⟩) (Nat.lt_of_succ_lt z0)).trans x10; have e4 := (D2.cell (p := ⟨w.heap.size + 1, 0, none⟩) z0).trans y0; have e5 := (D2.cell (p := ⟨w.heap.size + 1, 1, none⟩) z0).trans y1)
      | (go_at_call 28; refine (J4.out w2).mono ?_; rintro e w3 ⟨rfl, hb3⟩; have D3 : Below w0.heap.size w0 w3 := (D2.alloc D2.size _).trans (hb3.mono (by have := D2.size; simp; omega)); have e6 := (D3.cell (p := ⟨w.heap.size, 1, none⟩) (Nat.lt_of_succ_lt z0)).trans x1; have e7 := (D3.cell (p := ⟨w.heap.size, 2 + k, none⟩) (Nat.lt_of_succ_lt z0)).trans xk; have e8 := (D3.cell (p := ⟨w.heap.size, 10, none⟩) (Nat.lt_of_succ_lt z0)).trans x10; have e9 := (D3.cell (p := ⟨w.heap.size + 1, 0, none⟩) z0).trans y0; have e10 := (D3.cell (p := ⟨w.heap.size + 1, 1, none⟩) z0).trans y1))
    all_goals go_wp2_with fail
    all_goals go_meet
    all_goals exact ⟨rfl, D3⟩
  case rest =>
    obtain ⟨w4, hw4⟩ : ∃ x : World, x = wc := ⟨_, rfl⟩
    subst hw4
    obtain ⟨rfl, D4⟩ := hcut
    have n1 := (D4.out.cell (p := ⟨w.heap.size + 1, 1, none⟩) z0).trans y1
    have n2 := (D4.out.cell (p := ⟨w.heap.size + 1, 2, none⟩) z0).trans y2
    have m11 := (D4.out.cell (p := ⟨w.heap.size, 11, none⟩) (Nat.lt_of_succ_lt z0)).trans x11
    have m12 := (D4.out.cell (p := ⟨w.heap.size, 12, none⟩) (Nat.lt_of_succ_lt z0)).trans x12
    have BN : Hid (Below w.heap.size w w4) := B0.out.trans (D4.out.mono B0.out.size)
    have zN : w.heap.size + 1 < w4.heap.size := Nat.lt_of_lt_of_le z0 D4.out.size
    clear x0 x1 x10 x11 x12 xk y0 y1 y2 BD D4 B0 z0 HW J4
    go_wp2_with fail
    refine (FL.out _ BN.out).mono ?_
    rintro e w5 ⟨rfl, hb5⟩
    have B5 : Hid (Below w.heap.size w w5) := BN.out.trans (hb5.mono BN.out.size)
    have v1 := (hb5.cell (p := ⟨w.heap.size + 1, 1, none⟩) zN).trans n1
    have v2 := (hb5.cell (p := ⟨w.heap.size + 1, 2, none⟩) zN).trans n2
    have u11 := (hb5.cell (p := ⟨w.heap.size, 11, none⟩) (Nat.lt_of_succ_lt zN)).trans m11
    have u12 := (hb5.cell (p := ⟨w.heap.size, 12, none⟩) (Nat.lt_of_succ_lt zN)).trans m12
    clear hb5 n1 n2 m11 m12 BN zN
    go_wp2_with fail
    go_ret
    exact ⟨rfl, B5.out⟩
end Go.Proofs.YtnbhfjcpimdnlaaDoor.Ph
