/- A clock's text of both sides: the day, the hour, the minute. -/
import Derived.Test.YtoaabdmbgemkjaaGreatDoorDateOf
import Derived.Test.YtoaabdmbgemkjaaGreatDoorPadI
import Derived.Deep.RegionHeld3
import Derived.Deep.Cut
import Derived.Deep.DeepCutAuto
namespace Go.Proofs.YtoaabdmbgemkjaaGreatDoor.Tx
open Go.ChangeShapes Go.WideShapes Go.ChangeAt Go.RowKit Dates Dec
theorem month_of (y d : Int) (hd : 0 ≤ d) : ∀ n : Nat, n ≤ 12 → d < cum y ((n : Int) + 1) → ∃ m : Int, 1 ≤ m ∧ m ≤ n ∧ cum y m ≤ d ∧ d < cum y (m + 1)
  | 0, _, h => by simp [cum] at h; omega
  | n + 1, hn, h => by
    by_cases x : d < cum y ((n : Int) + 1)
    · obtain ⟨m, h1, h2, h3, h4⟩ := month_of y d hd n (by omega) x
      exact ⟨m, h1, by omega, h3, h4⟩
    · exact ⟨(n : Int) + 1, by omega, by omega, by omega, by simpa using h⟩
theorem cum13 (y : Int) : cum y 13 = 365 + lp y := by unfold cum; simp
theorem date_of (T : Int) (h0 : 0 ≤ T) (h1 : T ≤ 36525) : ∃ Y M r : Int, 2000 ≤ Y ∧ Y ≤ 2100 ∧ 1 ≤ M ∧ M ≤ 12 ∧ 0 ≤ r ∧ r < dim Y M ∧ r + ys Y + cum Y M = T := by
  obtain ⟨b1, b2⟩ := doy_bd T h0 h1
  obtain ⟨Y, hY⟩ : ∃ Y, Y = 2000 + T * 4 / 1461 := ⟨_, rfl⟩
  rw [← hY] at b1 b2
  obtain ⟨M, m1, m2, m3, m4⟩ := month_of Y (T - ys Y) b1 12 (by omega) (by
    have := cum13 Y
    rw [show ((12 : Nat) : Int) + 1 = 13 by omega]; omega)
  have := cum_succ Y M m1 m2
  exact ⟨Y, M, T - ys Y - cum Y M, by omega, by omega, m1, m2, by omega, by omega, by omega⟩
/-- the day of the month of a day's number -/
def DN (T : Int) (D : Nat) : Prop := ∃ Y M r : Int, 2000 ≤ Y ∧ Y ≤ 2100 ∧ 1 ≤ M ∧ M ≤ 12 ∧ 0 ≤ r ∧ r < dim Y M ∧ r + ys Y + cum Y M = T ∧ r + 1 = D
theorem DN.bd {T : Int} {D : Nat} (h : DN T D) : 1 ≤ D ∧ D ≤ 31 := by
  obtain ⟨Y, M, r, _, _, _, _, a, b, _, e⟩ := h
  have := dim_bd Y M
  omega
theorem DN.one {T : Int} {D D2 : Nat} (hT : T ≤ 36525) (h : DN T D) (h2 : DN T D2) : D = D2 := by
  obtain ⟨Y, M, r, a1, a2, a3, a4, a5, a6, a7, e⟩ := h
  obtain ⟨Y2, M2, r2, b1, b2, b3, b4, b5, b6, b7, e2⟩ := h2
  obtain ⟨_, _, e3⟩ := unique T Y M r Y2 M2 r2 a1 a2 a3 a4 a5 a6 a7 hT b1 b2 b3 b4 b5 b6 b7
  omega
abbrev dv (Y M D h m : Nat) : Value := .agg #[.int .i64 Y, .int .i64 M, .int .i64 D, .int .i64 h, .int .i64 m]
/-- what a time's date is, of both sides -/
structure Dt (t : Int) (Y M D h m : Nat) : Prop where
  day : DN (t / 1440) D
  hr : (h : Int) = t / 60 % 24
  mi : (m : Int) = t % 60
  sd : ∀ w, Calls Tryz.prog 36 #[.int .i64 t] w fun e w' => e = .returned (.tuple #[dv Y M D h m, .bool true]) ∧ Below w.heap.size w w'
  idd : ∀ w, Months w → Calls Tryz.prog 45 #[.int .i64 t] w fun e w' => e = .returned (.tuple #[dv Y M D h m, .bool true]) ∧ Below w.heap.size w w'
theorem dates (t : Int) (h0 : 0 ≤ t) (h1 : t ≤ 52596000) : ∃ Y M D h m, Dt t Y M D h m := by
  obtain ⟨Y, M, r, a1, a2, a3, a4, a5, a6, a7⟩ := date_of (t / 1440) (by omega) (by omega)
  obtain ⟨y, hy⟩ : ∃ y : Nat, Y = y := ⟨Y.toNat, by omega⟩
  obtain ⟨m, hm⟩ : ∃ m : Nat, M = m := ⟨M.toNat, by omega⟩
  obtain ⟨d, hd⟩ : ∃ d : Nat, r + 1 = d := ⟨(r + 1).toNat, by omega⟩
  obtain ⟨hh, hhh⟩ : ∃ hh : Nat, t / 60 % 24 = hh := ⟨(t / 60 % 24).toNat, by omega⟩
  obtain ⟨mi, hmi⟩ : ∃ mi : Nat, t % 60 = mi := ⟨(t % 60).toNat, by omega⟩
  refine ⟨y, m, d, hh, mi, ⟨Y, M, r, a1, a2, a3, a4, a5, a6, a7, hd⟩, hhh.symm, hmi.symm, ?_, ?_⟩
  · intro w
    refine (date_yes t w h0 h1).mono ?_
    rintro e w' ⟨Y2, M2, r2, rfl, b1, b2, b3, b4, b5, b6, b7, hb⟩
    obtain ⟨e1, e2, e3⟩ := unique (t / 1440) Y M r Y2 M2 r2 a1 a2 a3 a4 a5 a6 a7 (by omega) b1 b2 b3 b4 b5 b6 b7
    subst e1 e2 e3
    exact ⟨by rw [hd, hhh, hmi, hy, hm], hb⟩
  · intro w hM
    refine (idate_yes t w hM h0 h1).mono ?_
    rintro e w' ⟨Y2, M2, r2, rfl, b1, b2, b3, b4, b5, b6, b7, hb⟩
    obtain ⟨e1, e2, e3⟩ := unique (t / 1440) Y M r Y2 M2 r2 a1 a2 a3 a4 a5 a6 a7 (by omega) b1 b2 b3 b4 b5 b6 b7
    subst e1 e2 e3
    exact ⟨by rw [hd, hhh, hmi, hy, hm], hb⟩
abbrev q2 (n : Nat) : List UInt8 := pad 2 (Lib.decDigits n)
theorem q2_len (n : Nat) (h : n ≤ 99) : (q2 n).length = 2 := by
  have : ∀ n : Fin 100, (q2 n.val).length = 2 := by decide +kernel
  exact this ⟨n, by omega⟩
def clk (D h m : Nat) : List UInt8 := q2 D ++ q2 h ++ q2 m
def Bd (w : World) (g D h m : Nat) : Prop := w.cell? ⟨g, 2, none⟩ = some (.int .i64 D) ∧ w.cell? ⟨g, 3, none⟩ = some (.int .i64 h) ∧ w.cell? ⟨g, 4, none⟩ = some (.int .i64 m)
theorem Bd.on {w w' : World} {B g D h m : Nat} (k : Bd w g D h m) (hb : Below B w w') (hg : g < B) : Bd w' g D h m :=
  ⟨(hb.cell (p := ⟨g, 2, none⟩) hg).trans k.1, (hb.cell (p := ⟨g, 3, none⟩) hg).trans k.2.1, (hb.cell (p := ⟨g, 4, none⟩) hg).trans k.2.2⟩
set_option maxHeartbeats 2000000 in
theorem sclock (t : Int) (Y M D h m : Nat) (w : World) (hD : D ≤ 31) (hh : h ≤ 23) (hm : m ≤ 59)
    (SD : Hid (∀ w, Calls Tryz.prog 36 #[.int .i64 t] w fun e w' => e = .returned (.tuple #[dv Y M D h m, .bool true]) ∧ Below w.heap.size w w')) :
    Calls Tryz.prog 12 #[.int .i64 t] w fun e w' => e = .returned (.string ⟨(clk D h m).toArray⟩) ∧ Below w.heap.size w w' := by
  obtain ⟨LD, lD, nD⟩ : ∃ L, q2 D = L ∧ L.length = 2 := ⟨_, rfl, q2_len D (by omega)⟩
  obtain ⟨Lh, lh, nh⟩ : ∃ L, q2 h = L ∧ L.length = 2 := ⟨_, rfl, q2_len h (by omega)⟩
  obtain ⟨Lm, lm, nm⟩ : ∃ L, q2 m = L ∧ L.length = 2 := ⟨_, rfl, q2_len m (by omega)⟩
  have PD : Hid (∀ w, Calls Tryz.prog 37 #[.int .i64 D, .int .i64 2] w fun e w' => e = .returned (.string ⟨LD.toArray⟩) ∧ Below w.heap.size w w') := fun w => (by rw [← lD]; exact pad_any D 2 w (by omega) (by omega))
  have Ph : Hid (∀ w, Calls Tryz.prog 37 #[.int .i64 h, .int .i64 2] w fun e w' => e = .returned (.string ⟨Lh.toArray⟩) ∧ Below w.heap.size w w') := fun w => (by rw [← lh]; exact pad_any h 2 w (by omega) (by omega))
  have Pm : Hid (∀ w, Calls Tryz.prog 37 #[.int .i64 m, .int .i64 2] w fun e w' => e = .returned (.string ⟨Lm.toArray⟩) ∧ Below w.heap.size w w') := fun w => (by rw [← lm]; exact pad_any m 2 w (by omega) (by omega))
  unfold clk
  rw [lD, lh, lm]
  obtain ⟨A, hA⟩ : ∃ A, A = LD ++ Lh := ⟨_, rfl⟩
  obtain ⟨R, hR⟩ : ∃ R, R = LD ++ Lh ++ Lm := ⟨_, rfl⟩
  rw [← hR]
  have e1 : (⟨LD.toArray⟩ : ByteArray) ++ ⟨Lh.toArray⟩ = ⟨A.toArray⟩ := by rw [hA]; exact cat LD Lh
  have e2 : (⟨A.toArray⟩ : ByteArray) ++ ⟨Lm.toArray⟩ = ⟨R.toArray⟩ := by rw [hR, hA]; exact cat (LD ++ Lh) Lm
  have nA : A.length = 4 := by rw [hA, List.length_append]; omega
  have u1 : ¬ 9223372036854775807 < LD.length + Lh.length := by omega
  have u2 : ¬ 9223372036854775807 < A.length + Lm.length := by omega
  clear hA hR lD lh lm nD nh nm nA
  go_enter Tryz.func12, Tryz.ntmps12
  go_wp2_with fail
  refine (SD.out _).mono ?_
  rintro e w1 ⟨rfl, hb1⟩
  obtain ⟨w2, hw2⟩ : ∃ x, x = w1.alloc (.cells #[.int .i64 Y, .int .i64 M, .int .i64 D, .int .i64 h, .int .i64 m] 69) := ⟨_, rfl⟩
  have HW2 : Hid (w2 = w1.alloc (.cells #[.int .i64 Y, .int .i64 M, .int .i64 D, .int .i64 h, .int .i64 m] 69)) := hw2
  have B2 : Hid (Below w.heap.size w w2) := (by show Below _ _ _; rw [hw2]; exact hb1.alloc hb1.size _)
  have K2 : Hid (Bd w2 w1.heap.size D h m) := (by show Bd _ _ _ _ _; rw [hw2]; unfold Bd; simp [go_sem])
  have z2 : w1.heap.size < w2.heap.size := by rw [hw2]; simp
  clear hb1 hw2
  go_upto_region 2 with fail
  rw [← HW2.out]
  clear HW2 SD
  generalize w1.heap.size = g at *
  obtain ⟨k0, k1, k2⟩ := K2.out
  go_region_held3 (fun w' => w'.cell? ⟨g, 2, none⟩ = some (.int .i64 D) ∧ w'.cell? ⟨g, 3, none⟩ = some (.int .i64 h) ∧ w'.cell? ⟨g, 4, none⟩ = some (.int .i64 m)) (go_keep)
    (first
    | (go_at_call_of 37 (Value.int IntKind.i64 ((D : Nat) : Int)); refine (PD.out _).mono ?_; rintro e w3 ⟨rfl, hb3⟩; have D3 : Below w2.heap.size w2 w3 := (Below.refl _ _).drew.trans (hb3.mono (by simp)); have S3 := K2.out.on D3 z2; obtain ⟨a0, a1, a2⟩ := S3)
    | (go_at_call_of 37 (Value.int IntKind.i64 ((h : Nat) : Int)); refine (Ph.out _).mono ?_; rintro e w4 ⟨rfl, hb4⟩; have D4 : Below w2.heap.size w2 w4 := D3.trans (hb4.mono D3.size); have S4 := K2.out.on D4 z2; obtain ⟨b0, b1, b2⟩ := S4)
    | (go_at_call_of 37 (Value.int IntKind.i64 ((m : Nat) : Int)); refine (Pm.out _).mono ?_; rintro e w5 ⟨rfl, hb5⟩; have D5 : Below w2.heap.size w2 w5 := D4.trans (hb5.mono D4.size); have S5 := K2.out.on D5 z2; obtain ⟨c0, c1, c2⟩ := S5))
  all_goals go_wp2_with fail
  all_goals go_ret
  all_goals exact ⟨rfl, B2.out.trans (D5.mono B2.out.size)⟩
theorem three (w : World) (a b c : List UInt8) : ∀ (j : Nat) x, [a, b, c][j]? = some x → (w.alloc (.cells #[.string ⟨a.toArray⟩, .string ⟨b.toArray⟩, .string ⟨c.toArray⟩] 9)).cell? ⟨w.heap.size, j, none⟩ = some (.string ⟨x.toArray⟩) := by
  intro j x hj
  have hj' := (List.getElem?_eq_some_iff.1 hj).1
  simp at hj'
  rcases (by omega : j = 0 ∨ j = 1 ∨ j = 2) with rfl | rfl | rfl
  all_goals
    simp at hj
    subst hj
    simp [go_sem]
set_option maxHeartbeats 2000000 in
theorem iclock {TT : World → Prop} (X : LibC TT) (t : Int) (Y M D h m : Nat) (w : World) (hT : TT w) (hD : D ≤ 31) (hh : h ≤ 23) (hm : m ≤ 59)
    (SD : Hid (Calls Tryz.prog 45 #[.int .i64 t] w fun e w' => e = .returned (.tuple #[dv Y M D h m, .bool true]) ∧ Below w.heap.size w w')) :
    Calls Tryz.prog 21 #[.int .i64 t] w fun e w' => e = .returned (.string ⟨(clk D h m).toArray⟩) ∧ Below w.heap.size w w' := by
  obtain ⟨LD, lD, nD⟩ : ∃ L, q2 D = L ∧ L.length = 2 := ⟨_, rfl, q2_len D (by omega)⟩
  obtain ⟨Lh, lh, nh⟩ : ∃ L, q2 h = L ∧ L.length = 2 := ⟨_, rfl, q2_len h (by omega)⟩
  obtain ⟨Lm, lm, nm⟩ : ∃ L, q2 m = L ∧ L.length = 2 := ⟨_, rfl, q2_len m (by omega)⟩
  have PD : Hid (∀ w, TT w → Calls Tryz.prog 46 #[.int .i64 D, .int .i64 2] w fun e w' => e = .returned (.string ⟨LD.toArray⟩) ∧ Below w.heap.size w w') := fun w ht => (by rw [← lD]; exact padded_any X D 2 w ht (by omega) (by omega))
  have Ph : Hid (∀ w, TT w → Calls Tryz.prog 46 #[.int .i64 h, .int .i64 2] w fun e w' => e = .returned (.string ⟨Lh.toArray⟩) ∧ Below w.heap.size w w') := fun w ht => (by rw [← lh]; exact padded_any X h 2 w ht (by omega) (by omega))
  have Pm : Hid (∀ w, TT w → Calls Tryz.prog 46 #[.int .i64 m, .int .i64 2] w fun e w' => e = .returned (.string ⟨Lm.toArray⟩) ∧ Below w.heap.size w w') := fun w ht => (by rw [← lm]; exact padded_any X m 2 w ht (by omega) (by omega))
  unfold clk
  rw [lD, lh, lm]
  obtain ⟨R, hR⟩ : ∃ R, R = LD ++ Lh ++ Lm := ⟨_, rfl⟩
  rw [← hR]
  have J3 : Hid (∀ q : World, Calls Tryz.prog 20 #[.slice (some ⟨q.heap.size, 0, none⟩) 3 3] (q.alloc (.cells #[.string ⟨LD.toArray⟩, .string ⟨Lh.toArray⟩, .string ⟨Lm.toArray⟩] 9)) fun e w' => e = .returned (.string ⟨R.toArray⟩) ∧ Below (q.alloc (.cells #[.string ⟨LD.toArray⟩, .string ⟨Lh.toArray⟩, .string ⟨Lm.toArray⟩] 9)).heap.size (q.alloc (.cells #[.string ⟨LD.toArray⟩, .string ⟨Lh.toArray⟩, .string ⟨Lm.toArray⟩] 9)) w') := fun q => (by
    rw [hR]
    have := joined_any X q.heap.size 3 3 [LD, Lh, Lm] _ rfl (three q LD Lh Lm) (by simp) (by simp) (by simp) (by simp; omega)
    simpa [List.append_assoc] using this)
  have KP : Hid (∀ X', Below w.heap.size w X' → TT X') := fun X' hb => X.keep _ _ hT hb
  clear hR lD lh lm nD nh nm hT
  go_enter Tryz.func21, Tryz.ntmps21
  go_wp2_with fail
  refine SD.out.mono ?_
  rintro e w1 ⟨rfl, hb1⟩
  obtain ⟨w2, hw2⟩ : ∃ x, x = w1.alloc (.cells #[.int .i64 Y, .int .i64 M, .int .i64 D, .int .i64 h, .int .i64 m] 69) := ⟨_, rfl⟩
  have HW2 : Hid (w2 = w1.alloc (.cells #[.int .i64 Y, .int .i64 M, .int .i64 D, .int .i64 h, .int .i64 m] 69)) := hw2
  have B2 : Hid (Below w.heap.size w w2) := (by show Below _ _ _; rw [hw2]; exact hb1.alloc hb1.size _)
  have K2 : Hid (Bd w2 w1.heap.size D h m) := (by show Bd _ _ _ _ _; rw [hw2]; unfold Bd; simp [go_sem])
  have z2 : w1.heap.size < w2.heap.size := by rw [hw2]; simp
  have TD : TT w2.drew := KP.out _ B2.out.drew
  clear hb1 hw2
  go_upto_region 2 with fail
  rw [← HW2.out]
  clear HW2 SD
  generalize w1.heap.size = g at *
  obtain ⟨k0, k1, k2⟩ := K2.out
  go_region_held3 (fun w' => w'.cell? ⟨g, 2, none⟩ = some (.int .i64 D) ∧ w'.cell? ⟨g, 3, none⟩ = some (.int .i64 h) ∧ w'.cell? ⟨g, 4, none⟩ = some (.int .i64 m)) (go_keep)
    (first
    | (go_at_call_of 46 (Value.int IntKind.i64 ((D : Nat) : Int)); refine (PD.out _ TD).mono ?_; rintro e w3 ⟨rfl, hb3⟩; have D3 : Below w2.heap.size w2 w3 := (Below.refl _ _).drew.trans (hb3.mono (by simp)); have T3 : TT w3 := KP.out _ (B2.out.trans (D3.mono B2.out.size)); have S3 := K2.out.on D3 z2; obtain ⟨a0, a1, a2⟩ := S3)
    | (go_at_call_of 46 (Value.int IntKind.i64 ((h : Nat) : Int)); refine (Ph.out _ T3).mono ?_; rintro e w4 ⟨rfl, hb4⟩; have D4 : Below w2.heap.size w2 w4 := D3.trans (hb4.mono D3.size); have T4 : TT w4 := KP.out _ (B2.out.trans (D4.mono B2.out.size)); have S4 := K2.out.on D4 z2; obtain ⟨b0, b1, b2⟩ := S4)
    | (go_at_call_of 46 (Value.int IntKind.i64 ((m : Nat) : Int)); refine (Pm.out _ T4).mono ?_; rintro e w5 ⟨rfl, hb5⟩; have D5 : Below w2.heap.size w2 w5 := D4.trans (hb5.mono D4.size); have S5 := K2.out.on D5 z2; obtain ⟨c0, c1, c2⟩ := S5)
    | (go_at_call 20; refine (J3.out w5).mono ?_; rintro e w6 ⟨rfl, hb6⟩; have D6 : Below w2.heap.size w2 w6 := (D5.alloc D5.size _).trans (hb6.mono (by have := D5.size; simp; omega)); have S6 := K2.out.on D6 z2; obtain ⟨d0, d1, d2⟩ := S6))
  all_goals go_wp2_with fail
  all_goals go_ret
  all_goals exact ⟨rfl, B2.out.trans (D6.mono B2.out.size)⟩
end Go.Proofs.YtoaabdmbgemkjaaGreatDoor.Tx
