/- Phrase of both sides; the law. -/
import Derived.Test.YtnbhfjcpimdnlaaDoorPc
namespace Go.Proofs.YtnbhfjcpimdnlaaDoor.Ph
open Go.ChangeShapes Go.WideShapes Go.ChangeAt Go.RowKit
open Go.Proofs.YtnbhfjcpimdnlaaDoor.Dec (cat)
set_option maxHeartbeats 1000000 in
theorem sphrase_no1 (d f l r p t : Int) (w : World) (OC : Hid (∀ X, Calls Tryd.prog 17 #[.agg #[.int .i64 d, .int .i64 f, .int .i64 l, .int .i64 r, .int .i64 p]] X fun e w' => e = .returned (.bool false) ∧ Below X.heap.size X w')) :
    Calls Tryd.prog 10 #[.agg #[.int .i64 d, .int .i64 f, .int .i64 l, .int .i64 r, .int .i64 p], .int .i64 t] w fun e w' => e = .returned (.string ⟨#[]⟩) ∧ Below w.heap.size w w' := by
  obtain ⟨w0, hw0⟩ : ∃ w0, w0 = w.alloc (.cells #[.int .i64 d, .int .i64 f, .int .i64 l, .int .i64 r, .int .i64 p] 23) := ⟨_, rfl⟩
  have HW : Hid (w0 = w.alloc (.cells #[.int .i64 d, .int .i64 f, .int .i64 l, .int .i64 r, .int .i64 p] 23)) := hw0
  have B0 : Hid (Below w.heap.size w w0) := (by show Below _ _ _; rw [hw0]; exact (Below.refl _ _).alloc (Nat.le_refl _) _)
  have z0 : w.heap.size < w0.heap.size := by rw [hw0]; simp
  have S0 : Hid (BS w0 w.heap.size d f l r p) := (by show BS _ _ _ _ _ _ _; rw [hw0]; unfold BS; simp [go_sem])
  clear hw0
  obtain ⟨y0, y1, y2, y3, y4⟩ := S0.out
  go_enter Tryd.func10, Tryd.ntmps10
  go_upto_region 1 with fail
  rw [← HW.out]
  go_wp2_with fail
  refine (OC.out _).mono ?_
  rintro e w1 ⟨rfl, hb1⟩
  have B1 : Hid (Below w.heap.size w w1) := B0.out.trans (hb1.mono B0.out.size)
  clear hb1 y0 y1 y2 y3 y4
  go_wp2_with fail
  go_ret
  exact ⟨rfl, B1.out⟩
set_option maxHeartbeats 1000000 in
theorem sphrase_no2 (d f l r p t : Int) (w : World) (OC : Hid (∀ X, Calls Tryd.prog 17 #[.agg #[.int .i64 d, .int .i64 f, .int .i64 l, .int .i64 r, .int .i64 p]] X fun e w' => e = .returned (.bool true) ∧ Below X.heap.size X w'))
    (TC : Hid (∀ X, Calls Tryd.prog 13 #[.int .i64 t, .int .i64 1, .int .i64 3] X fun e w' => e = .returned (.bool false) ∧ w' = X)) :
    Calls Tryd.prog 10 #[.agg #[.int .i64 d, .int .i64 f, .int .i64 l, .int .i64 r, .int .i64 p], .int .i64 t] w fun e w' => e = .returned (.string ⟨#[]⟩) ∧ Below w.heap.size w w' := by
  obtain ⟨w0, hw0⟩ : ∃ w0, w0 = w.alloc (.cells #[.int .i64 d, .int .i64 f, .int .i64 l, .int .i64 r, .int .i64 p] 23) := ⟨_, rfl⟩
  have HW : Hid (w0 = w.alloc (.cells #[.int .i64 d, .int .i64 f, .int .i64 l, .int .i64 r, .int .i64 p] 23)) := hw0
  have B0 : Hid (Below w.heap.size w w0) := (by show Below _ _ _; rw [hw0]; exact (Below.refl _ _).alloc (Nat.le_refl _) _)
  have z0 : w.heap.size < w0.heap.size := by rw [hw0]; simp
  have S0 : Hid (BS w0 w.heap.size d f l r p) := (by show BS _ _ _ _ _ _ _; rw [hw0]; unfold BS; simp [go_sem])
  clear hw0
  obtain ⟨y0, y1, y2, y3, y4⟩ := S0.out
  go_enter Tryd.func10, Tryd.ntmps10
  go_upto_region 1 with fail
  rw [← HW.out]
  go_wp2_with fail
  refine (OC.out _).mono ?_
  rintro e w1 ⟨rfl, hb1⟩
  have B1 : Hid (Below w.heap.size w w1) := B0.out.trans (hb1.mono B0.out.size)
  clear hb1 y0 y1 y2 y3 y4
  go_wp2_with fail
  refine (TC.out _).mono ?_
  rintro e x ⟨rfl, hx⟩
  subst x
  go_wp2_with fail
  go_ret
  exact ⟨rfl, B1.out⟩
set_option maxHeartbeats 2000000 in
set_option maxRecDepth 20000 in
theorem sphrase_yes (d f l r p t : Int) (WT LT RT R : List UInt8) (w : World) (hl1 : WT.length ≤ 1000) (hl2 : LT.length ≤ 1000) (hl3 : RT.length ≤ 1000) (hR : R = WT ++ LT ++ [46, 32] ++ RT ++ [46])
    (OC : Hid (∀ X, Calls Tryd.prog 17 #[.agg #[.int .i64 d, .int .i64 f, .int .i64 l, .int .i64 r, .int .i64 p]] X fun e w' => e = .returned (.bool true) ∧ Below X.heap.size X w'))
    (TC : Hid (∀ X, Calls Tryd.prog 13 #[.int .i64 t, .int .i64 1, .int .i64 3] X fun e w' => e = .returned (.bool true) ∧ w' = X))
    (WC : Hid (∀ X, Calls Tryd.prog 15 #[.agg #[.int .i64 d, .int .i64 f, .int .i64 l, .int .i64 r, .int .i64 p], .int .i64 t] X fun e w' => e = .returned (.string ⟨WT.toArray⟩) ∧ Below X.heap.size X w'))
    (LC' : Hid (∀ X, Calls Tryd.prog 16 #[.agg #[.int .i64 d, .int .i64 f, .int .i64 l, .int .i64 r, .int .i64 p], .int .i64 t] X fun e w' => e = .returned (.string ⟨LT.toArray⟩) ∧ Below X.heap.size X w'))
    (RC : Hid (∀ X, Calls Tryd.prog 26 #[.agg #[.int .i64 d, .int .i64 f, .int .i64 l, .int .i64 r, .int .i64 p], .int .i64 t] X fun e w' => e = .returned (.string ⟨RT.toArray⟩) ∧ Below X.heap.size X w')) :
    Calls Tryd.prog 10 #[.agg #[.int .i64 d, .int .i64 f, .int .i64 l, .int .i64 r, .int .i64 p], .int .i64 t] w fun e w' => e = .returned (.string ⟨R.toArray⟩) ∧ Below w.heap.size w w' := by
  obtain ⟨A0, hA0⟩ : ∃ A, A = WT ++ LT := ⟨_, rfl⟩
  obtain ⟨A1, hA1⟩ : ∃ A, A = A0 ++ [46, 32] := ⟨_, rfl⟩
  obtain ⟨A2, hA2⟩ : ∃ A, A = A1 ++ RT := ⟨_, rfl⟩
  have q0 : A0.length = WT.length + LT.length := by rw [hA0]; simp
  have q1 : A1.length = A0.length + 2 := by rw [hA1]; simp
  have q2 : A2.length = A1.length + RT.length := by rw [hA2]; simp
  have e0 : (⟨WT.toArray⟩ : ByteArray) ++ ⟨LT.toArray⟩ = ⟨A0.toArray⟩ := by rw [hA0]; exact cat WT LT
  have e1 : (⟨A0.toArray⟩ : ByteArray) ++ ⟨#[46, 32]⟩ = ⟨A1.toArray⟩ := by rw [hA1]; exact cat A0 [46, 32]
  have e2 : (⟨A1.toArray⟩ : ByteArray) ++ ⟨RT.toArray⟩ = ⟨A2.toArray⟩ := by rw [hA2]; exact cat A1 RT
  have e3 : (⟨A2.toArray⟩ : ByteArray) ++ ⟨#[46]⟩ = ⟨R.toArray⟩ := by rw [hR, ← hA0, ← hA1, ← hA2]; exact cat A2 [46]
  have u0 : ¬ 9223372036854775807 < WT.length + LT.length := by omega
  have u1 : ¬ 9223372036854775807 < A0.length + 2 := by omega
  have u2 : ¬ 9223372036854775807 < A1.length + RT.length := by omega
  have u3 : ¬ 9223372036854775807 < A2.length + 1 := by omega
  clear hA0 hA1 hA2 hR q0 q1 q2
  obtain ⟨w0, hw0⟩ : ∃ w0, w0 = w.alloc (.cells #[.int .i64 d, .int .i64 f, .int .i64 l, .int .i64 r, .int .i64 p] 23) := ⟨_, rfl⟩
  have HW : Hid (w0 = w.alloc (.cells #[.int .i64 d, .int .i64 f, .int .i64 l, .int .i64 r, .int .i64 p] 23)) := hw0
  have B0 : Hid (Below w.heap.size w w0) := (by show Below _ _ _; rw [hw0]; exact (Below.refl _ _).alloc (Nat.le_refl _) _)
  have z0 : w.heap.size < w0.heap.size := by rw [hw0]; simp
  have S0 : Hid (BS w0 w.heap.size d f l r p) := (by show BS _ _ _ _ _ _ _; rw [hw0]; unfold BS; simp [go_sem])
  clear hw0
  obtain ⟨y0, y1, y2, y3, y4⟩ := S0.out
  go_enter Tryd.func10, Tryd.ntmps10
  go_upto_region 1 with fail
  rw [← HW.out]
  go_wp2_with fail
  refine (OC.out _).mono ?_
  rintro e w1 ⟨rfl, hb1⟩
  have B1 : Hid (Below w.heap.size w w1) := B0.out.trans (hb1.mono B0.out.size)
  have S1 : Hid (BS w1 w.heap.size d f l r p) := S0.out.on hb1 z0
  have z1 : w.heap.size < w1.heap.size := Nat.lt_of_lt_of_le z0 hb1.size
  clear hb1 y0 y1 y2 y3 y4 HW B0 S0 z0 OC
  go_wp2_with fail
  refine (TC.out _).mono ?_
  rintro e x ⟨rfl, hx⟩
  subst x
  obtain ⟨y0, y1, y2, y3, y4⟩ := S1.out
  go_upto_region 3 with fail
  go_region_held3 (fun w' => w'.cell? ⟨w.heap.size, 0, none⟩ = some (.int .i64 d) ∧ w'.cell? ⟨w.heap.size, 1, none⟩ = some (.int .i64 f) ∧ w'.cell? ⟨w.heap.size, 2, none⟩ = some (.int .i64 l) ∧ w'.cell? ⟨w.heap.size, 3, none⟩ = some (.int .i64 r) ∧ w'.cell? ⟨w.heap.size, 4, none⟩ = some (.int .i64 p)) (go_keep)
    (first
    | (go_at_call 15; refine (WC.out _).mono ?_; rintro e w4 ⟨rfl, hb4⟩; have D4 : Below w1.heap.size w1 w4 := (Below.refl _ _).drew.trans (hb4.mono (by simp)); have S4 := S1.out.on D4 z1; obtain ⟨a0, a1, a2, a3, a4⟩ := S4)
    | (go_at_call 16; refine (LC'.out _).mono ?_; rintro e w5 ⟨rfl, hb5⟩; have D5 : Below w1.heap.size w1 w5 := D4.trans (hb5.mono D4.size); have S5 := S1.out.on D5 z1; obtain ⟨b0, b1, b2, b3, b4⟩ := S5)
    | (go_at_call 26; refine (RC.out _).mono ?_; rintro e w6 ⟨rfl, hb6⟩; have D6 : Below w1.heap.size w1 w6 := D5.trans (hb6.mono D5.size); have S6 := S1.out.on D6 z1; obtain ⟨c0, c1, c2, c3, c4⟩ := S6))
  all_goals go_wp2_with fail
  all_goals go_ret
  all_goals exact ⟨rfl, B1.out.trans (D6.mono B1.out.size)⟩
set_option maxHeartbeats 1000000 in
set_option maxRecDepth 20000 in
theorem iphrase_no1 (C : Array Value) (d f l r p t : Int) (w : World) (hC : C.size = 20) (hC1 : C.all (·.oneCell') = true)
    (TC : Hid (∀ X, Calls Tryd.prog 18 #[] X fun e w' => ∃ g, e = .returned (.map (some g)) ∧ Below X.heap.size X w' ∧ (Instr.lookup 44 (.map (some g)) (.int .i64 t) true).run Tryd.prog w' = .ok (.tuple #[.agg C, .bool false]) w')) :
    Calls Tryd.prog 11 #[.agg #[.int .i64 d, .int .i64 f, .int .i64 l, .int .i64 r, .int .i64 p], .int .i64 t] w fun e w' => e = .returned (.string ⟨#[]⟩) ∧ Below w.heap.size w w' := by
  have hst := store_row C hC hC1
  obtain ⟨w0, hw0⟩ : ∃ w0, w0 = w.alloc (.cells #[.int .i64 d, .int .i64 f, .int .i64 l, .int .i64 r, .int .i64 p] 23) := ⟨_, rfl⟩
  have HW : Hid (w0 = w.alloc (.cells #[.int .i64 d, .int .i64 f, .int .i64 l, .int .i64 r, .int .i64 p] 23)) := hw0
  have B0 : Hid (Below w.heap.size w w0) := (by show Below _ _ _; rw [hw0]; exact (Below.refl _ _).alloc (Nat.le_refl _) _)
  have z0 : w.heap.size < w0.heap.size := by rw [hw0]; simp
  have S0 : Hid (BS w0 w.heap.size d f l r p) := (by show BS _ _ _ _ _ _ _; rw [hw0]; unfold BS; simp [go_sem])
  clear hw0
  obtain ⟨y0, y1, y2, y3, y4⟩ := S0.out
  go_enter Tryd.func11, Tryd.ntmps11
  go_upto_region 1 with fail
  rw [← HW.out]
  go_wp2_with fail
  refine (TC.out _).mono ?_
  rintro e w1 ⟨gm, rfl, hb1, hlk⟩
  have B1 : Hid (Below w.heap.size w (w1.alloc (.cells C 42))) := (by have q := B0.out.trans (hb1.mono B0.out.size); exact q.alloc q.size _)
  clear hb1 y0 y1 y2 y3 y4
  go_wp2_with fail
  go_ret
  exact ⟨rfl, B1.out⟩
set_option maxHeartbeats 1000000 in
set_option maxRecDepth 20000 in
theorem iphrase_no2 (C : Array Value) (d f l r p t : Int) (w : World) (hC : C.size = 20) (hC1 : C.all (·.oneCell') = true)
    (TC : Hid (∀ X, Calls Tryd.prog 18 #[] X fun e w' => ∃ g, e = .returned (.map (some g)) ∧ Below X.heap.size X w' ∧ (Instr.lookup 44 (.map (some g)) (.int .i64 t) true).run Tryd.prog w' = .ok (.tuple #[.agg C, .bool true]) w'))
    (OC : Hid (∀ X, Calls Tryd.prog 27 #[.agg #[.int .i64 d, .int .i64 f, .int .i64 l, .int .i64 r, .int .i64 p]] X fun e w' => e = .returned (.bool false) ∧ Below X.heap.size X w')) :
    Calls Tryd.prog 11 #[.agg #[.int .i64 d, .int .i64 f, .int .i64 l, .int .i64 r, .int .i64 p], .int .i64 t] w fun e w' => e = .returned (.string ⟨#[]⟩) ∧ Below w.heap.size w w' := by
  have hst := store_row C hC hC1
  obtain ⟨w0, hw0⟩ : ∃ w0, w0 = w.alloc (.cells #[.int .i64 d, .int .i64 f, .int .i64 l, .int .i64 r, .int .i64 p] 23) := ⟨_, rfl⟩
  have HW : Hid (w0 = w.alloc (.cells #[.int .i64 d, .int .i64 f, .int .i64 l, .int .i64 r, .int .i64 p] 23)) := hw0
  have B0 : Hid (Below w.heap.size w w0) := (by show Below _ _ _; rw [hw0]; exact (Below.refl _ _).alloc (Nat.le_refl _) _)
  have z0 : w.heap.size < w0.heap.size := by rw [hw0]; simp
  have S0 : Hid (BS w0 w.heap.size d f l r p) := (by show BS _ _ _ _ _ _ _; rw [hw0]; unfold BS; simp [go_sem])
  clear hw0
  obtain ⟨y0, y1, y2, y3, y4⟩ := S0.out
  clear y0 y1 y2 y3 y4
  go_enter Tryd.func11, Tryd.ntmps11
  go_upto_region 1 with fail
  rw [← HW.out]
  go_wp2_with fail
  refine (TC.out _).mono ?_
  rintro e w1 ⟨gm, rfl, hb1, hlk⟩
  obtain ⟨w2, hw2⟩ : ∃ w2, w2 = w1.alloc (.cells C 42) := ⟨_, rfl⟩
  have HW2 : Hid (w2 = w1.alloc (.cells C 42)) := hw2
  have b12 : Below w0.heap.size w0 w2 := by rw [hw2]; exact hb1.alloc hb1.size _
  have B2 : Hid (Below w.heap.size w w2) := B0.out.trans (b12.mono B0.out.size)
  have S2 : Hid (BS w2 w.heap.size d f l r p) := S0.out.on b12 z0
  clear hb1 b12 hw2
  go_upto_region 2 with fail
  rw [← HW2.out]
  clear hlk HW2 TC hst
  obtain ⟨y0, y1, y2, y3, y4⟩ := S2.out
  go_wp2_with fail
  refine (OC.out _).mono ?_
  rintro e w3 ⟨rfl, hb3⟩
  have B3 : Hid (Below w.heap.size w w3) := B2.out.trans (hb3.mono B2.out.size)
  clear hb3 y0 y1 y2 y3 y4
  go_wp2_with fail
  go_ret
  exact ⟨rfl, B3.out⟩
theorem lex_one (L : List (List UInt8)) : (L.map fun s => Value.string ⟨s.toArray⟩).toArray.all (·.oneCell') = true := by
  rw [Array.all_eq_true']
  intro x hx
  simp at hx
  obtain ⟨a, _, rfl⟩ := hx
  rfl
theorem lxs_len (t : Int) : ((lxs t).map fun s => Value.string ⟨s.toArray⟩).toArray.size = 20 := by
  unfold lxs
  split
  · rfl
  · split
    · rfl
    · split <;> rfl
/-- what both answer -/
def ans (d f l r p t : Int) : List UInt8 := if sok d f l r p && inn t 1 3 then phr t d f l r p else []
theorem ltr_len (t f l : Int) (hl : 0 ≤ l ∧ l ≤ 12) : (ltr t f l).length ≤ 100 := by
  unfold ltr
  have a := lens t 11
  have b := lens t 12
  have c := dgl l.toNat (by omega)
  split
  · simp only [List.length_append]; omega
  · split
    · simp only [List.length_append]; omega
    · simp
theorem rtx_len (t r p : Int) (hp : 0 ≤ p ∧ p ≤ 100) : (rtx t r p).length ≤ 400 := by
  unfold rtx
  have a1 := lens t 13
  have a2 := lens t (13 + r.toNat)
  have a3 := lens t 17
  have a4 := lens t 18
  have a5 := lens t 19
  have a6 : (dg p.toNat).length ≤ p.toNat + 1 := Go.Proofs.YtnbhfjcpimdnlaaDoor.Dec.dec_len p.toNat
  split
  · omega
  · split
    · simp only [List.length_append]; omega
    · simp only [List.length_append]; omega
theorem sphrase_any (d f l r p t : Int) (w : World) : Calls Tryd.prog 10 #[.agg #[.int .i64 d, .int .i64 f, .int .i64 l, .int .i64 r, .int .i64 p], .int .i64 t] w fun e w' => e = .returned (.string ⟨(ans d f l r p t).toArray⟩) ∧ Below w.heap.size w w' := by
  have OC : ∀ X, Calls Tryd.prog 17 #[.agg #[.int .i64 d, .int .i64 f, .int .i64 l, .int .i64 r, .int .i64 p]] X fun e w' => e = .returned (.bool (sok d f l r p)) ∧ Below X.heap.size X w' := fun X => mok_any d f l r p X
  have TC : ∀ X, Calls Tryd.prog 13 #[.int .i64 t, .int .i64 1, .int .i64 3] X fun e w' => e = .returned (.bool (inn t 1 3)) ∧ w' = X := fun X => sin_any t 1 3 X
  unfold ans
  cases hs : sok d f l r p with
  | false => rw [hs] at OC; exact sphrase_no1 d f l r p t w OC
  | true =>
    rw [hs] at OC
    cases ht : inn t 1 3 with
    | false => rw [ht] at TC; exact sphrase_no2 d f l r p t w OC TC
    | true =>
      rw [ht] at TC
      have S := sok_sk hs
      have t3 : t = 1 ∨ t = 2 ∨ t = 3 := by unfold inn at ht; simp at ht; omega
      have n1 := now_len t d f S.f
      have n2 := ltr_len t f l S.l
      have n3 := rtx_len t r p S.p
      exact sphrase_yes d f l r p t (now t d f) (ltr t f l) (rtx t r p) (phr t d f l r p) w (by omega) (by omega) (by omega) rfl OC TC (fun X => swind_any t d f l r p X t3 S) (fun X => slater_any t d f l r p X t3 S) (fun X => srain_any t d f l r p X t3 S)
theorem iphrase_any (d f l r p t : Int) (w : World) (hT : Tb w) (ht0 : okn t) : Calls Tryd.prog 11 #[.agg #[.int .i64 d, .int .i64 f, .int .i64 l, .int .i64 r, .int .i64 p], .int .i64 t] w fun e w' => e = .returned (.string ⟨(ans d f l r p t).toArray⟩) ∧ Below w.heap.size w w' := by
  have OC : ∀ X, Calls Tryd.prog 27 #[.agg #[.int .i64 d, .int .i64 f, .int .i64 l, .int .i64 r, .int .i64 p]] X fun e w' => e = .returned (.bool (sok d f l r p)) ∧ Below X.heap.size X w' := fun X => iok_any d f l r p X
  have TC := fun X => tongues_any t ht0 X
  have eq : (decide (t = 1) || (decide (t = 2) || decide (t = 3))) = inn t 1 3 := by
    unfold inn
    rw [Bool.eq_iff_iff]
    simp only [Bool.or_eq_true, Bool.and_eq_true, decide_eq_true_eq]
    omega
  rw [eq] at TC
  unfold ans
  cases ht : inn t 1 3 with
  | false =>
    rw [ht] at TC
    rw [Bool.and_false]
    exact iphrase_no1 _ d f l r p t w (lxs_len t) (lex_one (lxs t)) TC
  | true =>
    rw [ht] at TC
    cases hs : sok d f l r p with
    | false =>
      rw [hs] at OC
      exact iphrase_no2 _ d f l r p t w (lxs_len t) (lex_one (lxs t)) TC OC
    | true =>
      rw [hs] at OC
      have S := sok_sk hs
      have t3 : t = 1 ∨ t = 2 ∨ t = 3 := by unfold inn at ht; simp at ht; omega
      have n1 := now_len t d f S.f
      have n2 := ltr_len t f l S.l
      have n3 := rtx_len t r p S.p
      exact iphrase_yes _ (now t d f ++ ltr t f l) (rtx t r p) d f l r p t w (lxs_len t) (lex_one (lxs t)) (by rw [List.length_append]; omega) TC OC (fun X hb => iwind_any t d f l r p X t3 S (hT.keep hb)) (fun X hb => irain_any t d f l r p X t3 S (hT.keep hb))
end Go.Proofs.YtnbhfjcpimdnlaaDoor.Ph
