/- What a lexicon says of rain. -/
import Derived.Test.YtnbhfjcpimdnlaaDoorPw
namespace Go.Proofs.YtnbhfjcpimdnlaaDoor.Ph
open Go.ChangeShapes Go.WideShapes Go.ChangeAt Go.RowKit
set_option maxHeartbeats 2000000 in
set_option maxRecDepth 20000 in
theorem rain_dry (s0 s1 s2 s3 s4 s5 s6 s7 s8 s9 s10 s11 s12 s13 s14 s15 s16 s17 s18 s19 : List UInt8) (d f l r p : Int) (w : World) (hr : r = 0) :
    Calls Tryd.prog 30 #[.agg #[.string ⟨s0.toArray⟩, .string ⟨s1.toArray⟩, .string ⟨s2.toArray⟩, .string ⟨s3.toArray⟩, .string ⟨s4.toArray⟩, .string ⟨s5.toArray⟩, .string ⟨s6.toArray⟩, .string ⟨s7.toArray⟩, .string ⟨s8.toArray⟩, .string ⟨s9.toArray⟩, .string ⟨s10.toArray⟩, .string ⟨s11.toArray⟩, .string ⟨s12.toArray⟩, .string ⟨s13.toArray⟩, .string ⟨s14.toArray⟩, .string ⟨s15.toArray⟩, .string ⟨s16.toArray⟩, .string ⟨s17.toArray⟩, .string ⟨s18.toArray⟩, .string ⟨s19.toArray⟩], .agg #[.int .i64 d, .int .i64 f, .int .i64 l, .int .i64 r, .int .i64 p]] w fun e w' => e = .returned (.string ⟨s13.toArray⟩) ∧ Below w.heap.size w w' := by
  obtain ⟨w0, hw0⟩ : ∃ w0, w0 = (w.alloc (.cells #[.string ⟨s0.toArray⟩, .string ⟨s1.toArray⟩, .string ⟨s2.toArray⟩, .string ⟨s3.toArray⟩, .string ⟨s4.toArray⟩, .string ⟨s5.toArray⟩, .string ⟨s6.toArray⟩, .string ⟨s7.toArray⟩, .string ⟨s8.toArray⟩, .string ⟨s9.toArray⟩, .string ⟨s10.toArray⟩, .string ⟨s11.toArray⟩, .string ⟨s12.toArray⟩, .string ⟨s13.toArray⟩, .string ⟨s14.toArray⟩, .string ⟨s15.toArray⟩, .string ⟨s16.toArray⟩, .string ⟨s17.toArray⟩, .string ⟨s18.toArray⟩, .string ⟨s19.toArray⟩] 42)).alloc (.cells #[.int .i64 d, .int .i64 f, .int .i64 l, .int .i64 r, .int .i64 p] 23) := ⟨_, rfl⟩
  have HW : Hid (w0 = (w.alloc (.cells #[.string ⟨s0.toArray⟩, .string ⟨s1.toArray⟩, .string ⟨s2.toArray⟩, .string ⟨s3.toArray⟩, .string ⟨s4.toArray⟩, .string ⟨s5.toArray⟩, .string ⟨s6.toArray⟩, .string ⟨s7.toArray⟩, .string ⟨s8.toArray⟩, .string ⟨s9.toArray⟩, .string ⟨s10.toArray⟩, .string ⟨s11.toArray⟩, .string ⟨s12.toArray⟩, .string ⟨s13.toArray⟩, .string ⟨s14.toArray⟩, .string ⟨s15.toArray⟩, .string ⟨s16.toArray⟩, .string ⟨s17.toArray⟩, .string ⟨s18.toArray⟩, .string ⟨s19.toArray⟩] 42)).alloc (.cells #[.int .i64 d, .int .i64 f, .int .i64 l, .int .i64 r, .int .i64 p] 23)) := hw0
  have B0 : Hid (Below w.heap.size w w0) := (by show Below _ _ _; rw [hw0]; exact ((Below.refl _ _).alloc (Nat.le_refl _) _).alloc (by simp) _)
  have z0 : w.heap.size + 1 < w0.heap.size := by rw [hw0]; simp
  have x13 : w0.cell? ⟨w.heap.size, 13, none⟩ = some (.string ⟨s13.toArray⟩) := by rw [hw0]; simp [go_sem]
  have y3 : w0.cell? ⟨w.heap.size + 1, 3, none⟩ = some (.int .i64 r) := by rw [hw0]; simp [go_sem]
  subst r
  clear hw0
  go_enter Tryd.func30, Tryd.ntmps30
  go_upto_region 1 with fail
  rw [← HW.out]
  go_wp2_with fail
  go_ret
  exact ⟨rfl, B0.out⟩
set_option maxHeartbeats 2000000 in
set_option maxRecDepth 20000 in
theorem rain_one (s0 s1 s2 s3 s4 s5 s6 s7 s8 s9 s10 s11 s12 s13 s14 s15 s16 s17 s18 s19 ek PP : List UInt8) (d f l r p : Int) (k : Nat) (w : World) (hr : r ≠ 0) (hp : p = 1) (hk : [s14, s15, s16][k]? = some ek) (hrk : IntKind.i64.wrap (r - 1) = (k : Int)) (hk3 : k < 3) (hlen : ek.length + s17.length + PP.length + s18.length ≤ 5000)
    (FP : Hid (∀ X, Below w.heap.size w X → Calls Tryd.prog 41 #[.int .i64 p, .int .i64 10] X fun e w' => e = .returned (.string ⟨PP.toArray⟩) ∧ Below X.heap.size X w')) :
    Calls Tryd.prog 30 #[.agg #[.string ⟨s0.toArray⟩, .string ⟨s1.toArray⟩, .string ⟨s2.toArray⟩, .string ⟨s3.toArray⟩, .string ⟨s4.toArray⟩, .string ⟨s5.toArray⟩, .string ⟨s6.toArray⟩, .string ⟨s7.toArray⟩, .string ⟨s8.toArray⟩, .string ⟨s9.toArray⟩, .string ⟨s10.toArray⟩, .string ⟨s11.toArray⟩, .string ⟨s12.toArray⟩, .string ⟨s13.toArray⟩, .string ⟨s14.toArray⟩, .string ⟨s15.toArray⟩, .string ⟨s16.toArray⟩, .string ⟨s17.toArray⟩, .string ⟨s18.toArray⟩, .string ⟨s19.toArray⟩], .agg #[.int .i64 d, .int .i64 f, .int .i64 l, .int .i64 r, .int .i64 p]] w fun e w' => e = .returned (.string ⟨(ek ++ s17 ++ PP ++ s18).toArray⟩) ∧ Below w.heap.size w w' := by
  obtain ⟨R, hR⟩ : ∃ R, R = ek ++ s17 ++ PP ++ s18 := ⟨_, rfl⟩
  rw [← hR]
  have J4 : Hid (∀ X : World, Calls Tryd.prog 28 #[.slice (some ⟨X.heap.size, 0, none⟩) 4 4] (X.alloc (.cells #[.string ⟨ek.toArray⟩, .string ⟨s17.toArray⟩, .string ⟨PP.toArray⟩, .string ⟨s18.toArray⟩] 9)) fun e w' => e = .returned (.string ⟨R.toArray⟩) ∧ Below (X.alloc (.cells #[.string ⟨ek.toArray⟩, .string ⟨s17.toArray⟩, .string ⟨PP.toArray⟩, .string ⟨s18.toArray⟩] 9)).heap.size (X.alloc (.cells #[.string ⟨ek.toArray⟩, .string ⟨s17.toArray⟩, .string ⟨PP.toArray⟩, .string ⟨s18.toArray⟩] 9)) w') := fun X => (by rw [hR]; exact join4 ek s17 PP s18 X hlen)
  clear hR
  obtain ⟨w0, hw0⟩ : ∃ w0, w0 = (w.alloc (.cells #[.string ⟨s0.toArray⟩, .string ⟨s1.toArray⟩, .string ⟨s2.toArray⟩, .string ⟨s3.toArray⟩, .string ⟨s4.toArray⟩, .string ⟨s5.toArray⟩, .string ⟨s6.toArray⟩, .string ⟨s7.toArray⟩, .string ⟨s8.toArray⟩, .string ⟨s9.toArray⟩, .string ⟨s10.toArray⟩, .string ⟨s11.toArray⟩, .string ⟨s12.toArray⟩, .string ⟨s13.toArray⟩, .string ⟨s14.toArray⟩, .string ⟨s15.toArray⟩, .string ⟨s16.toArray⟩, .string ⟨s17.toArray⟩, .string ⟨s18.toArray⟩, .string ⟨s19.toArray⟩] 42)).alloc (.cells #[.int .i64 d, .int .i64 f, .int .i64 l, .int .i64 r, .int .i64 p] 23) := ⟨_, rfl⟩
  have HW : Hid (w0 = (w.alloc (.cells #[.string ⟨s0.toArray⟩, .string ⟨s1.toArray⟩, .string ⟨s2.toArray⟩, .string ⟨s3.toArray⟩, .string ⟨s4.toArray⟩, .string ⟨s5.toArray⟩, .string ⟨s6.toArray⟩, .string ⟨s7.toArray⟩, .string ⟨s8.toArray⟩, .string ⟨s9.toArray⟩, .string ⟨s10.toArray⟩, .string ⟨s11.toArray⟩, .string ⟨s12.toArray⟩, .string ⟨s13.toArray⟩, .string ⟨s14.toArray⟩, .string ⟨s15.toArray⟩, .string ⟨s16.toArray⟩, .string ⟨s17.toArray⟩, .string ⟨s18.toArray⟩, .string ⟨s19.toArray⟩] 42)).alloc (.cells #[.int .i64 d, .int .i64 f, .int .i64 l, .int .i64 r, .int .i64 p] 23)) := hw0
  have B0 : Hid (Below w.heap.size w w0) := (by show Below _ _ _; rw [hw0]; exact ((Below.refl _ _).alloc (Nat.le_refl _) _).alloc (by simp) _)
  have z0 : w.heap.size + 1 < w0.heap.size := by rw [hw0]; simp
  have x17 : w0.cell? ⟨w.heap.size, 17, none⟩ = some (.string ⟨s17.toArray⟩) := by rw [hw0]; simp [go_sem]
  have x18 : w0.cell? ⟨w.heap.size, 18, none⟩ = some (.string ⟨s18.toArray⟩) := by rw [hw0]; simp [go_sem]
  have x19 : w0.cell? ⟨w.heap.size, 19, none⟩ = some (.string ⟨s19.toArray⟩) := by rw [hw0]; simp [go_sem]
  have y3 : w0.cell? ⟨w.heap.size + 1, 3, none⟩ = some (.int .i64 r) := by rw [hw0]; simp [go_sem]
  have y4 : w0.cell? ⟨w.heap.size + 1, 4, none⟩ = some (.int .i64 p) := by rw [hw0]; simp [go_sem]
  have xk : w0.cell? ⟨w.heap.size, 14 + k, none⟩ = some (.string ⟨ek.toArray⟩) := by rw [hw0]; exact at_three w k ek s0 s1 s2 s3 s4 s5 s6 s7 s8 s9 s10 s11 s12 s13 s14 s15 s16 s17 s18 s19 _ hk
  have i0 : (0 : Int) ≤ (k : Int) := by omega
  have i1 : (k : Int) < 3 := by omega
  have rb : (r == 0) = false := by simpa using hr
  subst p
  clear hw0 hr hk
  go_enter Tryd.func30, Tryd.ntmps30
  go_upto_region 1 with fail
  rw [← HW.out]
  go_upto_region 6 with fail
  have BD : Below w.heap.size w w0.drew := B0.out.drew
  go_region_held3 (fun w' => w'.cell? ⟨w.heap.size, 17, none⟩ = some (.string ⟨s17.toArray⟩) ∧ w'.cell? ⟨w.heap.size, 14 + k, none⟩ = some (.string ⟨ek.toArray⟩) ∧ w'.cell? ⟨w.heap.size + 1, 3, none⟩ = some (.int .i64 r) ∧ w'.cell? ⟨w.heap.size + 1, 4, none⟩ = some (.int .i64 1)) (go_keep)
    (first
    | (go_at_call 41; refine (FP.out _ BD).mono ?_; rintro e w2 ⟨rfl, hb2⟩; have D2 : Below w0.heap.size w0 w2 := (Below.refl _ _).drew.trans (hb2.mono (by simp)); have e1 := (D2.cell (p := ⟨w.heap.size, 17, none⟩) (Nat.lt_of_succ_lt z0)).trans x17; have e2 := (D2.cell (p := ⟨w.heap.size, 14 + k, none⟩) (Nat.lt_of_succ_lt z0)).trans xk; have e4 := (D2.cell (p := ⟨w.heap.size + 1, 3, none⟩) z0).trans y3; have e5 := (D2.cell (p := ⟨w.heap.size + 1, 4, none⟩) z0).trans y4)
    | (go_at_call 28; refine (J4.out w2).mono ?_; rintro e w3 ⟨rfl, hb3⟩; have D3 : Below w0.heap.size w0 w3 := (D2.alloc D2.size _).trans (hb3.mono (by have := D2.size; simp; omega)); have e6 := (D3.cell (p := ⟨w.heap.size, 17, none⟩) (Nat.lt_of_succ_lt z0)).trans x17; have e7 := (D3.cell (p := ⟨w.heap.size, 14 + k, none⟩) (Nat.lt_of_succ_lt z0)).trans xk; have e9 := (D3.cell (p := ⟨w.heap.size + 1, 3, none⟩) z0).trans y3; have e10 := (D3.cell (p := ⟨w.heap.size + 1, 4, none⟩) z0).trans y4))
  all_goals go_wp2_with fail
  all_goals go_ret
  all_goals exact ⟨rfl, B0.out.trans (D3.mono B0.out.size)⟩
set_option maxHeartbeats 2000000 in
set_option maxRecDepth 20000 in
theorem rain_more (s0 s1 s2 s3 s4 s5 s6 s7 s8 s9 s10 s11 s12 s13 s14 s15 s16 s17 s18 s19 ek PP : List UInt8) (d f l r p : Int) (k : Nat) (w : World) (hr : r ≠ 0) (hp : p ≠ 1) (hk : [s14, s15, s16][k]? = some ek) (hrk : IntKind.i64.wrap (r - 1) = (k : Int)) (hk3 : k < 3) (hlen : ek.length + s17.length + PP.length + s19.length ≤ 5000)
    (FP : Hid (∀ X, Below w.heap.size w X → Calls Tryd.prog 41 #[.int .i64 p, .int .i64 10] X fun e w' => e = .returned (.string ⟨PP.toArray⟩) ∧ Below X.heap.size X w')) :
    Calls Tryd.prog 30 #[.agg #[.string ⟨s0.toArray⟩, .string ⟨s1.toArray⟩, .string ⟨s2.toArray⟩, .string ⟨s3.toArray⟩, .string ⟨s4.toArray⟩, .string ⟨s5.toArray⟩, .string ⟨s6.toArray⟩, .string ⟨s7.toArray⟩, .string ⟨s8.toArray⟩, .string ⟨s9.toArray⟩, .string ⟨s10.toArray⟩, .string ⟨s11.toArray⟩, .string ⟨s12.toArray⟩, .string ⟨s13.toArray⟩, .string ⟨s14.toArray⟩, .string ⟨s15.toArray⟩, .string ⟨s16.toArray⟩, .string ⟨s17.toArray⟩, .string ⟨s18.toArray⟩, .string ⟨s19.toArray⟩], .agg #[.int .i64 d, .int .i64 f, .int .i64 l, .int .i64 r, .int .i64 p]] w fun e w' => e = .returned (.string ⟨(ek ++ s17 ++ PP ++ s19).toArray⟩) ∧ Below w.heap.size w w' := by
  obtain ⟨R, hR⟩ : ∃ R, R = ek ++ s17 ++ PP ++ s19 := ⟨_, rfl⟩
  rw [← hR]
  have J4 : Hid (∀ X : World, Calls Tryd.prog 28 #[.slice (some ⟨X.heap.size, 0, none⟩) 4 4] (X.alloc (.cells #[.string ⟨ek.toArray⟩, .string ⟨s17.toArray⟩, .string ⟨PP.toArray⟩, .string ⟨s19.toArray⟩] 9)) fun e w' => e = .returned (.string ⟨R.toArray⟩) ∧ Below (X.alloc (.cells #[.string ⟨ek.toArray⟩, .string ⟨s17.toArray⟩, .string ⟨PP.toArray⟩, .string ⟨s19.toArray⟩] 9)).heap.size (X.alloc (.cells #[.string ⟨ek.toArray⟩, .string ⟨s17.toArray⟩, .string ⟨PP.toArray⟩, .string ⟨s19.toArray⟩] 9)) w') := fun X => (by rw [hR]; exact join4 ek s17 PP s19 X hlen)
  clear hR
  obtain ⟨w0, hw0⟩ : ∃ w0, w0 = (w.alloc (.cells #[.string ⟨s0.toArray⟩, .string ⟨s1.toArray⟩, .string ⟨s2.toArray⟩, .string ⟨s3.toArray⟩, .string ⟨s4.toArray⟩, .string ⟨s5.toArray⟩, .string ⟨s6.toArray⟩, .string ⟨s7.toArray⟩, .string ⟨s8.toArray⟩, .string ⟨s9.toArray⟩, .string ⟨s10.toArray⟩, .string ⟨s11.toArray⟩, .string ⟨s12.toArray⟩, .string ⟨s13.toArray⟩, .string ⟨s14.toArray⟩, .string ⟨s15.toArray⟩, .string ⟨s16.toArray⟩, .string ⟨s17.toArray⟩, .string ⟨s18.toArray⟩, .string ⟨s19.toArray⟩] 42)).alloc (.cells #[.int .i64 d, .int .i64 f, .int .i64 l, .int .i64 r, .int .i64 p] 23) := ⟨_, rfl⟩
  have HW : Hid (w0 = (w.alloc (.cells #[.string ⟨s0.toArray⟩, .string ⟨s1.toArray⟩, .string ⟨s2.toArray⟩, .string ⟨s3.toArray⟩, .string ⟨s4.toArray⟩, .string ⟨s5.toArray⟩, .string ⟨s6.toArray⟩, .string ⟨s7.toArray⟩, .string ⟨s8.toArray⟩, .string ⟨s9.toArray⟩, .string ⟨s10.toArray⟩, .string ⟨s11.toArray⟩, .string ⟨s12.toArray⟩, .string ⟨s13.toArray⟩, .string ⟨s14.toArray⟩, .string ⟨s15.toArray⟩, .string ⟨s16.toArray⟩, .string ⟨s17.toArray⟩, .string ⟨s18.toArray⟩, .string ⟨s19.toArray⟩] 42)).alloc (.cells #[.int .i64 d, .int .i64 f, .int .i64 l, .int .i64 r, .int .i64 p] 23)) := hw0
  have B0 : Hid (Below w.heap.size w w0) := (by show Below _ _ _; rw [hw0]; exact ((Below.refl _ _).alloc (Nat.le_refl _) _).alloc (by simp) _)
  have z0 : w.heap.size + 1 < w0.heap.size := by rw [hw0]; simp
  have x17 : w0.cell? ⟨w.heap.size, 17, none⟩ = some (.string ⟨s17.toArray⟩) := by rw [hw0]; simp [go_sem]
  have x18 : w0.cell? ⟨w.heap.size, 18, none⟩ = some (.string ⟨s18.toArray⟩) := by rw [hw0]; simp [go_sem]
  have x19 : w0.cell? ⟨w.heap.size, 19, none⟩ = some (.string ⟨s19.toArray⟩) := by rw [hw0]; simp [go_sem]
  have y3 : w0.cell? ⟨w.heap.size + 1, 3, none⟩ = some (.int .i64 r) := by rw [hw0]; simp [go_sem]
  have y4 : w0.cell? ⟨w.heap.size + 1, 4, none⟩ = some (.int .i64 p) := by rw [hw0]; simp [go_sem]
  have xk : w0.cell? ⟨w.heap.size, 14 + k, none⟩ = some (.string ⟨ek.toArray⟩) := by rw [hw0]; exact at_three w k ek s0 s1 s2 s3 s4 s5 s6 s7 s8 s9 s10 s11 s12 s13 s14 s15 s16 s17 s18 s19 _ hk
  have i0 : (0 : Int) ≤ (k : Int) := by omega
  have i1 : (k : Int) < 3 := by omega
  have rb : (r == 0) = false := by simpa using hr
  have pb : (p == 1) = false := by simpa using hp
  clear hw0 hr hk
  go_enter Tryd.func30, Tryd.ntmps30
  go_upto_region 1 with fail
  rw [← HW.out]
  go_upto_region 6 with fail
  have BD : Below w.heap.size w w0.drew := B0.out.drew
  go_region_held3 (fun w' => w'.cell? ⟨w.heap.size, 17, none⟩ = some (.string ⟨s17.toArray⟩) ∧ w'.cell? ⟨w.heap.size, 14 + k, none⟩ = some (.string ⟨ek.toArray⟩) ∧ w'.cell? ⟨w.heap.size + 1, 3, none⟩ = some (.int .i64 r) ∧ w'.cell? ⟨w.heap.size + 1, 4, none⟩ = some (.int .i64 p)) (go_keep)
    (first
    | (go_at_call 41; refine (FP.out _ BD).mono ?_; rintro e w2 ⟨rfl, hb2⟩; have D2 : Below w0.heap.size w0 w2 := (Below.refl _ _).drew.trans (hb2.mono (by simp)); have e1 := (D2.cell (p := ⟨w.heap.size, 17, none⟩) (Nat.lt_of_succ_lt z0)).trans x17; have e2 := (D2.cell (p := ⟨w.heap.size, 14 + k, none⟩) (Nat.lt_of_succ_lt z0)).trans xk; have e4 := (D2.cell (p := ⟨w.heap.size + 1, 3, none⟩) z0).trans y3; have e5 := (D2.cell (p := ⟨w.heap.size + 1, 4, none⟩) z0).trans y4)
    | (go_at_call 28; refine (J4.out w2).mono ?_; rintro e w3 ⟨rfl, hb3⟩; have D3 : Below w0.heap.size w0 w3 := (D2.alloc D2.size _).trans (hb3.mono (by have := D2.size; simp; omega)); have e6 := (D3.cell (p := ⟨w.heap.size, 17, none⟩) (Nat.lt_of_succ_lt z0)).trans x17; have e7 := (D3.cell (p := ⟨w.heap.size, 14 + k, none⟩) (Nat.lt_of_succ_lt z0)).trans xk; have e9 := (D3.cell (p := ⟨w.heap.size + 1, 3, none⟩) z0).trans y3; have e10 := (D3.cell (p := ⟨w.heap.size + 1, 4, none⟩) z0).trans y4))
  all_goals go_wp2_with fail
  all_goals go_ret
  all_goals exact ⟨rfl, B0.out.trans (D3.mono B0.out.size)⟩
end Go.Proofs.YtnbhfjcpimdnlaaDoor.Ph
