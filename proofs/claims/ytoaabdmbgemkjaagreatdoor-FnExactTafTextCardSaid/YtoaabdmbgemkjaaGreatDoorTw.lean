import Derived.Test.YtoaabdmbgemkjaaGreatDoorTv
namespace Go.Proofs.YtoaabdmbgemkjaaGreatDoor.Tx
open Go.ChangeShapes Go.WideShapes Go.ChangeAt Go.RowKit Dates Dec
theorem five (w : World) (a b c d f : List UInt8) : ∀ (j : Nat) x, [a, b, c, d, f][j]? = some x → (w.alloc (.cells #[.string ⟨a.toArray⟩, .string ⟨b.toArray⟩, .string ⟨c.toArray⟩, .string ⟨d.toArray⟩, .string ⟨f.toArray⟩] 9)).cell? ⟨w.heap.size, j, none⟩ = some (.string ⟨x.toArray⟩) := by
  intro j x hj
  have hj' := (List.getElem?_eq_some_iff.1 hj).1
  simp at hj'
  rcases (by omega : j = 0 ∨ j = 1 ∨ j = 2 ∨ j = 3 ∨ j = 4) with rfl | rfl | rfl | rfl | rfl
  all_goals
    simp at hj
    subst hj
    simp [go_sem]
def Bs (w : World) (p q D h E g : Nat) : Prop := w.cell? ⟨p, 2, none⟩ = some (.int .i64 D) ∧ w.cell? ⟨p, 3, none⟩ = some (.int .i64 h) ∧ w.cell? ⟨q, 2, none⟩ = some (.int .i64 E) ∧ w.cell? ⟨q, 3, none⟩ = some (.int .i64 g)
theorem Bs.on {w w' : World} {B p q D h E g : Nat} (k : Bs w p q D h E g) (hb : Below B w w') (hg : p < B ∧ q < B) : Bs w' p q D h E g :=
  ⟨(hb.cell (p := ⟨p, 2, none⟩) hg.1).trans k.1, (hb.cell (p := ⟨p, 3, none⟩) hg.1).trans k.2.1, (hb.cell (p := ⟨q, 2, none⟩) hg.2).trans k.2.2.1, (hb.cell (p := ⟨q, 3, none⟩) hg.2).trans k.2.2.2⟩
set_option maxHeartbeats 4000000 in
theorem ispan {TT : World → Prop} (X : LibC TT) (f t : Int) (Y M D h m Y2 M2 E g n : Nat) (w : World) (hT : TT w) (t0 : 0 ≤ t) (t1 : t ≤ 52596000)
    (bf : D ≤ 31) (cf : h ≤ 23) (bl : E ≤ 31) (cl : g ≤ 23)
    (SF : Hid (∀ X', Below w.heap.size w X' → Calls Tryz.prog 45 #[.int .i64 f] X' fun e w' => e = .returned (.tuple #[dv Y M D h m, .bool true]) ∧ Below X'.heap.size X' w'))
    (SL : Hid (∀ X', Below w.heap.size w X' → Calls Tryz.prog 45 #[.int .i64 (t - 60)] X' fun e w' => e = .returned (.tuple #[dv Y2 M2 E g n, .bool true]) ∧ Below X'.heap.size X' w')) :
    Calls Tryz.prog 22 #[.agg #[.int .i64 f, .int .i64 t]] w fun e w' => e = .returned (.string ⟨(spt D h E (g + 1)).toArray⟩) ∧ Below w.heap.size w w' := by
  obtain ⟨LA, lA, nA⟩ : ∃ L, q2 D = L ∧ L.length = 2 := ⟨_, rfl, q2_len D (by omega)⟩
  obtain ⟨LB, lB, nB⟩ : ∃ L, q2 h = L ∧ L.length = 2 := ⟨_, rfl, q2_len h (by omega)⟩
  obtain ⟨LC, lC, nC⟩ : ∃ L, q2 E = L ∧ L.length = 2 := ⟨_, rfl, q2_len E (by omega)⟩
  obtain ⟨g1, hg1⟩ : ∃ g1, g1 = g + 1 := ⟨_, rfl⟩
  rw [← hg1]
  obtain ⟨LE, lE, nE⟩ : ∃ L, q2 g1 = L ∧ L.length = 2 := ⟨_, rfl, q2_len g1 (by omega)⟩
  have PA : Hid (∀ w, TT w → Calls Tryz.prog 46 #[.int .i64 D, .int .i64 2] w fun e w' => e = .returned (.string ⟨LA.toArray⟩) ∧ Below w.heap.size w w') := fun w ht => (by rw [← lA]; exact padded_any X D 2 w ht (by omega) (by omega))
  have PB : Hid (∀ w, TT w → Calls Tryz.prog 46 #[.int .i64 h, .int .i64 2] w fun e w' => e = .returned (.string ⟨LB.toArray⟩) ∧ Below w.heap.size w w') := fun w ht => (by rw [← lB]; exact padded_any X h 2 w ht (by omega) (by omega))
  have PC : Hid (∀ w, TT w → Calls Tryz.prog 46 #[.int .i64 E, .int .i64 2] w fun e w' => e = .returned (.string ⟨LC.toArray⟩) ∧ Below w.heap.size w w') := fun w ht => (by rw [← lC]; exact padded_any X E 2 w ht (by omega) (by omega))
  have PE : Hid (∀ w, TT w → Calls Tryz.prog 46 #[.int .i64 g1, .int .i64 2] w fun e w' => e = .returned (.string ⟨LE.toArray⟩) ∧ Below w.heap.size w w') := fun w ht => (by rw [← lE]; exact padded_any X g1 2 w ht (by omega) (by omega))
  unfold spt
  rw [lA, lB, lC, lE]
  obtain ⟨R, hR⟩ : ∃ R, R = LA ++ LB ++ [47] ++ LC ++ LE := ⟨_, rfl⟩
  rw [← hR]
  have J5 : Hid (∀ q : World, Calls Tryz.prog 20 #[.slice (some ⟨q.heap.size, 0, none⟩) 5 5] (q.alloc (.cells #[.string ⟨LA.toArray⟩, .string ⟨LB.toArray⟩, .string ⟨#[47]⟩, .string ⟨LC.toArray⟩, .string ⟨LE.toArray⟩] 9)) fun e w' => e = .returned (.string ⟨R.toArray⟩) ∧ Below (q.alloc (.cells #[.string ⟨LA.toArray⟩, .string ⟨LB.toArray⟩, .string ⟨#[47]⟩, .string ⟨LC.toArray⟩, .string ⟨LE.toArray⟩] 9)).heap.size (q.alloc (.cells #[.string ⟨LA.toArray⟩, .string ⟨LB.toArray⟩, .string ⟨#[47]⟩, .string ⟨LC.toArray⟩, .string ⟨LE.toArray⟩] 9)) w') := fun q => (by
    rw [hR]
    have := joined_any X q.heap.size 5 5 [LA, LB, [47], LC, LE] _ rfl (five q LA LB [47] LC LE) (by simp) (by simp) (by simp) (by simp; omega)
    simpa [List.append_assoc] using this)
  have KP : Hid (∀ X', Below w.heap.size w X' → TT X') := fun X' hb => X.keep _ _ hT hb
  have wr : IntKind.i64.wrap (t - 60) = t - 60 := IntWalk.i64_in _ (by omega)
  have wg : IntKind.i64.wrap ((g : Int) + 1) = (g1 : Int) := by rw [IntWalk.i64_in _ (by omega)]; omega
  clear hR lA lB lC lE nA nB nC nE hT hg1
  go_enter Tryz.func22, Tryz.ntmps22
  go_wp2_with fail
  obtain ⟨w0, hw0⟩ : ∃ x, x = w.alloc (.cells #[.int .i64 f, .int .i64 t] 31) := ⟨_, rfl⟩
  rw [← hw0]
  have B0 : Below w.heap.size w w0 := by rw [hw0]; exact (Below.refl _ _).alloc (Nat.le_refl _) _
  have k0 : w0.cell? ⟨w.heap.size, 1, none⟩ = some (.int .i64 t) := by rw [hw0]; simp [go_sem]
  have z0 : w.heap.size < w0.heap.size := by rw [hw0]; simp
  clear hw0
  refine (SF.out _ B0).mono ?_
  rintro e w1 ⟨rfl, hb1⟩
  obtain ⟨w2, hw2⟩ : ∃ x, x = w1.alloc (.cells #[.int .i64 Y, .int .i64 M, .int .i64 D, .int .i64 h, .int .i64 m] 69) := ⟨_, rfl⟩
  have HW2 : Hid (w2 = w1.alloc (.cells #[.int .i64 Y, .int .i64 M, .int .i64 D, .int .i64 h, .int .i64 m] 69)) := hw2
  have B1 : Below w.heap.size w w1 := B0.trans (hb1.mono B0.size)
  have B2 : Hid (Below w.heap.size w w2) := (by show Below _ _ _; rw [hw2]; exact B1.alloc B1.size _)
  have k1 : w1.cell? ⟨w.heap.size, 1, none⟩ = some (.int .i64 t) := (hb1.cell (p := ⟨w.heap.size, 1, none⟩) z0).trans k0
  have z1 : w.heap.size < w1.heap.size := by have := hb1.size; omega
  have k2 : w2.cell? ⟨w.heap.size, 1, none⟩ = some (.int .i64 t) := by rw [hw2]; exact (Below.cell ((Below.refl w1.heap.size w1).alloc (Nat.le_refl _) _) (p := ⟨w.heap.size, 1, none⟩) z1).trans k1
  have K2 : Hid (w2.cell? ⟨w1.heap.size, 2, none⟩ = some (.int .i64 D) ∧ w2.cell? ⟨w1.heap.size, 3, none⟩ = some (.int .i64 h)) := (by show _ ∧ _; rw [hw2]; simp [go_sem])
  have z2 : w1.heap.size < w2.heap.size := by rw [hw2]; simp
  clear hb1 hw2 k0 k1 z0 z1 B0 B1
  go_upto_region 2 with fail
  rw [← HW2.out]
  clear HW2 SF
  generalize w1.heap.size = p at *
  go_wp2_with fail
  refine (SL.out _ B2.out).mono ?_
  rintro e w3 ⟨rfl, hb3⟩
  obtain ⟨w4, hw4⟩ : ∃ x, x = w3.alloc (.cells #[.int .i64 Y2, .int .i64 M2, .int .i64 E, .int .i64 g, .int .i64 n] 69) := ⟨_, rfl⟩
  have HW4 : Hid (w4 = w3.alloc (.cells #[.int .i64 Y2, .int .i64 M2, .int .i64 E, .int .i64 g, .int .i64 n] 69)) := hw4
  have B3 : Below w.heap.size w w3 := B2.out.trans (hb3.mono B2.out.size)
  have B4 : Hid (Below w.heap.size w w4) := (by show Below _ _ _; rw [hw4]; exact B3.alloc B3.size _)
  have z3 : p < w3.heap.size := by have := hb3.size; omega
  have d4 : Below w2.heap.size w2 w4 := by rw [hw4]; exact hb3.alloc hb3.size _
  have K4 : Hid (Bs w4 p w3.heap.size D h E g) := (by
    show Bs _ _ _ _ _ _ _
    refine ⟨(d4.cell (p := ⟨p, 2, none⟩) z2).trans K2.out.1, (d4.cell (p := ⟨p, 3, none⟩) z2).trans K2.out.2, ?_, ?_⟩
    all_goals rw [hw4]; simp [go_sem])
  have z4 : p < w4.heap.size ∧ w3.heap.size < w4.heap.size := by rw [hw4]; simp; omega
  have TD : TT w4.drew := KP.out _ B4.out.drew
  clear hb3 hw4 k2 z2 z3 B3 d4 K2 B2
  go_upto_region 3 with fail
  rw [← HW4.out]
  clear HW4 SL
  generalize w3.heap.size = q at *
  obtain ⟨k0, k1, k2, k3⟩ := K4.out
  go_region_held3 (fun w' => w'.cell? ⟨p, 2, none⟩ = some (.int .i64 D) ∧ w'.cell? ⟨p, 3, none⟩ = some (.int .i64 h) ∧ w'.cell? ⟨q, 2, none⟩ = some (.int .i64 E) ∧ w'.cell? ⟨q, 3, none⟩ = some (.int .i64 g)) (go_keep)
    (first
    | (go_at_call_of 46 (Value.int IntKind.i64 ((D : Nat) : Int)); refine (PA.out _ TD).mono ?_; rintro e v5 ⟨rfl, hb5⟩; have D5 : Below w4.heap.size w4 v5 := (Below.refl _ _).drew.trans (hb5.mono (by simp)); have T5 : TT v5 := KP.out _ (B4.out.trans (D5.mono B4.out.size)); have S5 := K4.out.on D5 z4; obtain ⟨a5, b5, c5, d5⟩ := S5)
    | (go_at_call_of 46 (Value.int IntKind.i64 ((h : Nat) : Int)); refine (PB.out _ T5).mono ?_; rintro e v6 ⟨rfl, hb6⟩; have D6 : Below w4.heap.size w4 v6 := D5.trans (hb6.mono D5.size); have T6 : TT v6 := KP.out _ (B4.out.trans (D6.mono B4.out.size)); have S6 := K4.out.on D6 z4; obtain ⟨a6, b6, c6, d6⟩ := S6)
    | (go_at_call_of 46 (Value.int IntKind.i64 ((E : Nat) : Int)); refine (PC.out _ T6).mono ?_; rintro e v7 ⟨rfl, hb7⟩; have D7 : Below w4.heap.size w4 v7 := D6.trans (hb7.mono D6.size); have T7 : TT v7 := KP.out _ (B4.out.trans (D7.mono B4.out.size)); have S7 := K4.out.on D7 z4; obtain ⟨a7, b7, c7, d7⟩ := S7)
    | (go_at_call_of 46 (Value.int IntKind.i64 ((g1 : Nat) : Int)); refine (PE.out _ T7).mono ?_; rintro e v8 ⟨rfl, hb8⟩; have D8 : Below w4.heap.size w4 v8 := D7.trans (hb8.mono D7.size); have T8 : TT v8 := KP.out _ (B4.out.trans (D8.mono B4.out.size)); have S8 := K4.out.on D8 z4; obtain ⟨a8, b8, c8, d8⟩ := S8)
    | (go_at_call 20; refine (J5.out v8).mono ?_; rintro e v9 ⟨rfl, hb9⟩; have D9 : Below w4.heap.size w4 v9 := (D8.alloc D8.size _).trans (hb9.mono (by have := D8.size; simp; omega)); have S9 := K4.out.on D9 z4; obtain ⟨a9, b9, c9, d9⟩ := S9))
  all_goals go_wp2_with fail
  all_goals go_ret
  all_goals exact ⟨rfl, B4.out.trans (D9.mono B4.out.size)⟩
end Go.Proofs.YtoaabdmbgemkjaaGreatDoor.Tx
