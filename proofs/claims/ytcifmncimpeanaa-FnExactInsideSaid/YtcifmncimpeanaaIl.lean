/- Inside: the law. -/
import Derived.Test.YtcifmncimpeanaaIi
namespace Go.Proofs.Ytcifmncimpeanaa.In
open Go.ChangeShapes Go.WideShapes Go.ChangeAt Go.RowKit
open Go.Proofs.Ytcifmncimpeanaa.Al

set_option maxRecDepth 20000 in
set_option maxHeartbeats 2000000 in
theorem insideAll (w : World) (v0 : Value) (L : Sp.Ls) (h0 : Sp.Reads w v0 L) (px py : Int) :
    Calls Try.prog 3 #[v0, .agg #[.int .i64 px, .int .i64 py]] w fun e w' => e = .returned (.bool true) ∧ Below w.heap.size w w' := by
  have TO : Hid (L.length ≤ 1048576 → ∀ w', Below w.heap.size w w' → Calls Try.prog 6 #[v0] w' fun e w'' => ∃ u, e = .returned u ∧ Sp.Row w'' w'.heap.size u L ∧ Below w'.heap.size w' w'') := fun hl w' hb => Sp.to_own w' _ L (h0.on hb) hl
  have T1 : Hid (∀ w', Calls Try.prog 7 #[.agg #[.int .i64 px, .int .i64 py]] w' fun e w'' => e = .returned (.agg #[.int .i64 px, .int .i64 py]) ∧ Below w'.heap.size w' w'') := fun w' => Sp.to1_any px py w'
  have SA : Hid (∀ w' u, Sp.Reads w' u L → Calls Try.prog 5 #[u, .agg #[.int .i64 px, .int .i64 py]] w' fun e w'' => e = .returned (.bool (ins L px py)) ∧ Below w'.heap.size w' w'') := fun w' u h => sins_any L px py u w' h
  have IA : Hid (∀ w' u, Sp.Reads w' u L → Calls Try.prog 8 #[u, .agg #[.int .i64 px, .int .i64 py]] w' fun e w'' => e = .returned (.bool (ins L px py)) ∧ Below w'.heap.size w' w'') := fun w' u h => iins_any L px py u w' h
  have FI := h0.fits
  have EQ : Hid (∀ w' t u, Sp.Reads w' t L → Sp.Reads w' u L → Calls Try.prog 9 #[t, u] w' fun e w'' => e = .returned (.bool true) ∧ Below w'.heap.size w' w'') := fun w' t u h h' => Sp.eq_same w' t u L h h'
  obtain ⟨s0, c0, rfl⟩ := h0.form
  have SZ : Hid (∀ w' : World, Calls Try.prog 4 #[.slice s0 L.length c0, .int .i64 1048576] w' fun e w'' => (∃ r : Int, e = .returned (.int .i64 r) ∧ (0 ≤ r → L.length ≤ 1048576) ∧ r ≤ 1048576) ∧ w'' = w') := fun w' => by
    by_cases hz : (L.length : Int) ≤ 1048576
    · refine (Sp.sz_near s0 L.length c0 1048576 w' (by omega) hz).mono ?_
      rintro e w'' ⟨rfl, rfl⟩
      exact ⟨⟨_, rfl, fun _ => by omega, by omega⟩, rfl⟩
    · refine (Sp.sz_far s0 L.length c0 1048576 w' (by omega) (by omega) (by omega) FI).mono ?_
      rintro e w'' ⟨rfl, rfl⟩
      exact ⟨⟨_, rfl, fun h => by omega, by omega⟩, rfl⟩
  obtain ⟨wb, hwb⟩ : ∃ wb, wb = w.alloc (.cells #[.int .i64 px, .int .i64 py] 24) := ⟨_, rfl⟩
  have HW : Hid (wb = w.alloc (.cells #[.int .i64 px, .int .i64 py] 24)) := hwb
  have BW : Hid (Below w.heap.size w wb) := (by show Below _ _ _; rw [hwb]; exact (Below.refl _ _).alloc (Nat.le_refl _) _)
  have ZW : Hid (wb.heap.size = w.heap.size + 1) := (by show _ = _; rw [hwb]; simp)
  have KW : Hid (∀ w', Below wb.heap.size wb w' → w'.cell? ⟨w.heap.size, 0, none⟩ = some (.int .i64 px) ∧ w'.cell? ⟨w.heap.size, 1, none⟩ = some (.int .i64 py)) := fun w' hb => (by
    have hlt : w.heap.size < wb.heap.size := by rw [ZW.out]; omega
    have h0 : wb.cell? ⟨w.heap.size, 0, none⟩ = some (.int .i64 px) := by rw [hwb]; simp [go_sem]
    have h1 : wb.cell? ⟨w.heap.size, 1, none⟩ = some (.int .i64 py) := by rw [hwb]; simp [go_sem]
    exact ⟨(hb.cell (p := ⟨w.heap.size, 0, none⟩) hlt).trans h0, (hb.cell (p := ⟨w.heap.size, 1, none⟩) hlt).trans h1⟩)
  clear hwb h0 FI
  obtain ⟨bo, hbo⟩ : ∃ bo, bo = ins L px py := ⟨_, rfl⟩
  rw [← hbo] at SA IA
  clear hbo
  have ebo : (bo != bo) = false := by cases bo <;> rfl
  go_enter Try.func3, Try.ntmps3
  go_wp2_with fail
  rw [← HW.out]
  refine (SZ.out wb).mono ?_
  rintro e w1 ⟨⟨z, rfl, y, l⟩, hw⟩
  have hw' := hw.symm
  subst hw'
  by_cases hneg : z < 0
  · go_wp2_with fail
    go_ret
    exact ⟨rfl, BW.out⟩
  have HL : Hid (L.length ≤ 1048576) := y (by omega)
  clear y
  have QB : Hid (Below wb.heap.size wb wb) := Below.refl _ _
  have QD : Hid (Below wb.heap.size wb wb.drew) := (Below.refl _ _).drew
  obtain ⟨k0, k1⟩ := KW.out wb QB.out
  clear HW SZ
  go_wp2_with fail
  go_region_held3 (fun w' => w'.cell? ⟨w.heap.size, 0, none⟩ = some (.int .i64 px) ∧ w'.cell? ⟨w.heap.size, 1, none⟩ = some (.int .i64 py)) (go_keep)
    (first
    | (go_at_call 6; refine (TO.out HL.out _ (BW.out.trans (QD.out.mono (by have := ZW.out; omega)))).mono ?_; rintro e w2 ⟨up, rfl, r, b⟩; clear k0 k1; have Q2 : Hid (Below wb.heap.size wb w2) := QD.out.trans (b.mono QD.out.size); have R2 : Hid (Sp.Reads w2 up L) := r.reads; obtain ⟨k20, k21⟩ := KW.out w2 Q2.out; clear r b)
    | (go_at_call 7; refine (T1.out _).mono ?_; rintro e w3 ⟨rfl, b⟩; have Q3 : Hid (Below wb.heap.size wb w3) := Q2.out.trans (b.mono Q2.out.size); have R3 : Hid (Sp.Reads w3 up L) := R2.out.on b; obtain ⟨k30, k31⟩ := KW.out w3 Q3.out; clear b)
    | (go_at_call 5; refine (SA.out _ _ R3.out).mono ?_; rintro e w4 ⟨rfl, b⟩; have Q4 : Hid (Below wb.heap.size wb w4) := Q3.out.trans (b.mono Q3.out.size); obtain ⟨k40, k41⟩ := KW.out w4 Q4.out; clear b))
  clear k20 k21 k30 k31 R2 R3 Q2 Q3
  go_wp2_with fail
  refine (TO.out HL.out _ (BW.out.trans (Q4.out.mono (by have := ZW.out; omega)))).mono ?_
  rintro e w5 ⟨ux, rfl, r, b⟩
  have Q5 : Hid (Below wb.heap.size wb w5) := Q4.out.trans (b.mono Q4.out.size)
  have R5 : Hid (Sp.Reads w5 ux L) := r.reads
  obtain ⟨k50, k51⟩ := KW.out w5 Q5.out
  clear r b k40 k41
  go_wp2_with fail
  refine (T1.out _).mono ?_
  rintro e w6 ⟨rfl, b⟩
  have Q6 : Hid (Below wb.heap.size wb w6) := Q5.out.trans (b.mono Q5.out.size)
  have R6 : Hid (Sp.Reads w6 ux L) := R5.out.on b
  clear b k50 k51
  go_wp2_with fail
  refine (IA.out _ _ R6.out).mono ?_
  rintro e w7 ⟨rfl, b⟩
  have Q7 : Hid (Below wb.heap.size wb w7) := Q6.out.trans (b.mono Q6.out.size)
  have R7 : Hid (Sp.Reads w7 ux L) := R6.out.on b
  clear b
  go_wp2_with fail
  refine (TO.out HL.out _ (BW.out.trans (Q7.out.mono (by have := ZW.out; omega)))).mono ?_
  rintro e w8 ⟨uy, rfl, r, b⟩
  have Q8 : Hid (Below wb.heap.size wb w8) := Q7.out.trans (b.mono Q7.out.size)
  have R8 : Hid (Sp.Reads w8 ux L) := R7.out.on b
  have S8 : Hid (Sp.Reads w8 uy L) := r.reads
  clear r b
  go_wp2_with fail
  refine (EQ.out _ _ _ R8.out S8.out).mono ?_
  rintro e w9 ⟨rfl, b⟩
  have B9 : Hid (Below w.heap.size w w9) := BW.out.trans ((Q8.out.trans (b.mono Q8.out.size)).mono (by have := ZW.out; omega))
  clear b
  go_wp2_with fail
  go_ret
  exact ⟨rfl, B9.out⟩
end Go.Proofs.Ytcifmncimpeanaa.In
