/- The law walked; what the program answers comes in as a hypothesis. -/
import Derived.Test.YtaemldfeicjdnaaEgE
namespace Go.Proofs.Ytaemldfeicjdnaa.Lp
open Go.ChangeShapes Go.WideShapes Go.ChangeAt Go.RowKit
open Go.Proofs.Ytaemldfeicjdnaa.Lists

set_option maxHeartbeats 1000000 in
theorem windsLaw (x y : Int) (L : List Int) (v : Value) (ii : Int) (jj : Int) (w : World) (hL : Lists.Reads w v L) (hf : L.length < 9223372036854775808)
    (SA : ∀ w v, Lists.Reads w v L → Calls Try.prog 21 #[sv x y v, .int .i64 ii, .int .i64 jj] w fun e w' => e = .returned (.int .i64 (wd (wayL x y L) ii jj (wayL x y L).length)) ∧ Below w.heap.size w w')
    (IA : ∀ w v, Lists.Reads w v L → L.length ≤ 1048576 → Calls Try.prog 22 #[sv x y v, .int .i64 ii, .int .i64 jj] w fun e w' => e = .returned (.int .i64 (wd (wayL x y L) ii jj (wayL x y L).length)) ∧ Below w.heap.size w w') :
    Calls Try.prog 6 #[sv x y v, .int .i64 ii, .int .i64 jj] w fun e w' => e = .returned (.bool true) ∧ Below w.heap.size w w' := by
  obtain ⟨a, cap, rfl⟩ := hL.form
  have SZ : Hid (∀ w', Calls Try.prog 16 #[sv x y (.slice a L.length cap), .int .i64 1048576] w' fun e w'' => (∃ l : Int, e = .returned (.int .i64 l) ∧ (0 ≤ l → L.length ≤ 1048576)) ∧ Below w'.heap.size w' w'') := fun w' => sz_any x y a L.length cap w' hf
  have TO : Hid (L.length ≤ 1048576 → ∀ w', Below w.heap.size w w' → Calls Try.prog 18 #[sv x y (.slice a L.length cap)] w' fun e w'' => ∃ g, e = .returned (sv x y (.slice (some ⟨g, 0, none⟩) L.length L.length)) ∧ w''.ownsRow w'.heap.size 2 1 (.slice (some ⟨g, 0, none⟩) L.length L.length) L.length (ints L) ∧ Below w'.heap.size w' w'') := fun hl w' hb => to_st x y L _ w' (hL.on hb) hl
  have SU : Hid (∀ w' A t, w'.ownsRow A 2 1 t L.length (ints L) → Calls Try.prog 21 #[sv x y t, .int .i64 ii, .int .i64 jj] w' fun e w'' => e = .returned (.int .i64 (wd (wayL x y L) ii jj (wayL x y L).length)) ∧ Below w'.heap.size w' w'') := fun w' A t h => SA w' t (Lists.reads_row h)
  have IU : Hid (L.length ≤ 1048576 → ∀ w' A t, w'.ownsRow A 2 1 t L.length (ints L) → Calls Try.prog 22 #[sv x y t, .int .i64 ii, .int .i64 jj] w' fun e w'' => e = .returned (.int .i64 (wd (wayL x y L) ii jj (wayL x y L).length)) ∧ Below w'.heap.size w' w'') := fun hl w' A t h => IA w' t (Lists.reads_row h) hl
  have EQ : Hid (∀ w' A B t u, w'.ownsRow A 2 1 t L.length (ints L) → w'.ownsRow B 2 1 u L.length (ints L) → Calls Try.prog 20 #[sv x y t, sv x y u] w' fun e w'' => e = .returned (.bool true) ∧ Below w'.heap.size w' w'') := fun w' A B t u h h' => eq_st x y L t u A B w' h h'
  obtain ⟨n, hn⟩ : ∃ n, n = L.length := ⟨_, rfl⟩
  rw [← hn] at hf SZ TO SU IU EQ ⊢
  have hbb : ∀ b : Bool, (b != b) = false := fun b => by cases b <;> rfl
  have hii : ∀ b : Int, (b != b) = false := fun b => by simp
  generalize wd (wayL x y L) ii jj (wayL x y L).length = A at *
  generalize ints L = X at *
  clear hL hn SA IA
  obtain ⟨wa, hwa⟩ : ∃ wa, wa = w.alloc (Obj.cells #[.int .i64 x, .int .i64 y, .slice a n cap] 38) := ⟨_, rfl⟩
  have HWA : Hid (wa = w.alloc (Obj.cells #[.int .i64 x, .int .i64 y, .slice a n cap] 38)) := hwa
  have BA : Hid (Below w.heap.size w wa) := (by show Below _ _ _; rw [hwa]; exact (Below.refl _ _).alloc (Nat.le_refl _) _)
  have za : wa.heap.size = w.heap.size + 1 := by rw [hwa]; simp
  have XA : Hid (Box3 wa w.heap.size (.int .i64 x) (.int .i64 y) (.slice a n cap)) := (by show Box3 _ _ _ _ _; rw [hwa]; unfold Box3; simp [go_sem])
  clear hwa
  go_enter Try.func6, Try.ntmps6
  go_wp2_with fail
  rw [← HWA.out]
  refine (SZ.out wa).mono ?_
  rintro e w0 ⟨⟨l, rfl, hl⟩, b0⟩
  have B0 : Hid (Below w.heap.size w w0) := BA.out.trans (b0.mono (by omega))
  have z0 := b0.size
  obtain ⟨c0, c1, c2⟩ := XA.out.on b0 (by omega)
  clear b0 HWA XA BA
  by_cases hneg : l < 0
  · go_wp2_with fail
    go_ret
    exact ⟨rfl, B0.out⟩
  have l1 := hl (by omega)
  go_wp2_with fail
  refine (TO.out l1 w0 B0.out).mono ?_
  rintro e w1 ⟨g1, rfl, r1, b1⟩
  have B1 : Hid (Below w.heap.size w w1) := B0.out.trans (b1.mono (by omega))
  have R1 : Hid (w1.ownsRow w0.heap.size 2 1 (.slice (some ⟨g1, 0, none⟩) n n) n X) := r1
  have z1 := b1.size
  have X1 : Hid (Box3 w1 w.heap.size (.int .i64 x) (.int .i64 y) (.slice a n cap)) := Box3.on ⟨c0, c1, c2⟩ b1 (by omega)
  clear r1 b1 c0 c1 c2
  go_wp2_with fail
  refine (SU.out w1 _ _ R1.out).mono ?_
  rintro e w2 ⟨rfl, b2⟩
  have z2 := b2.size
  have B2 : Hid (Below w.heap.size w w2) := B1.out.trans (b2.mono (by omega))
  obtain ⟨c0, c1, c2⟩ := X1.out.on b2 (by omega)
  clear b2 R1 B1 X1
  go_wp2_with fail
  refine (TO.out l1 w2 B2.out).mono ?_
  rintro e w3 ⟨g3, rfl, r3, b3⟩
  have z3 := b3.size
  have B3 : Hid (Below w.heap.size w w3) := B2.out.trans (b3.mono (by omega))
  have T3 : Hid (w3.ownsRow w2.heap.size 2 1 (.slice (some ⟨g3, 0, none⟩) n n) n X) := r3
  have X3 : Hid (Box3 w3 w.heap.size (.int .i64 x) (.int .i64 y) (.slice a n cap)) := Box3.on ⟨c0, c1, c2⟩ b3 (by omega)
  clear r3 b3 B2 c0 c1 c2
  obtain ⟨wb, hwb⟩ : ∃ wb, wb = w3.alloc (Obj.cells #[.int .i64 x, .int .i64 y, .slice (some ⟨g3, 0, none⟩) n n] 41) := ⟨_, rfl⟩
  have HWB : Hid (wb = w3.alloc (Obj.cells #[.int .i64 x, .int .i64 y, .slice (some ⟨g3, 0, none⟩) n n] 41)) := hwb
  have bb : Below w3.heap.size w3 wb := by rw [hwb]; exact (Below.refl _ _).alloc (Nat.le_refl _) _
  have zb : wb.heap.size = w3.heap.size + 1 := by rw [hwb]; simp
  have ZB : Hid (Box3 wb w3.heap.size (.int .i64 x) (.int .i64 y) (.slice (some ⟨g3, 0, none⟩) n n)) := (by show Box3 _ _ _ _ _; rw [hwb]; unfold Box3; simp [go_sem])
  have TB : Hid (wb.ownsRow w2.heap.size 2 1 (.slice (some ⟨g3, 0, none⟩) n n) n X) := row_on T3.out bb
  have XB : Hid (Box3 wb w.heap.size (.int .i64 x) (.int .i64 y) (.slice a n cap)) := X3.out.on bb (by omega)
  have BB : Hid (Below w.heap.size w wb) := B3.out.trans (bb.mono (by omega))
  clear hwb bb X3 T3 B3
  go_wp2_with fail
  rw [← HWB.out]
  refine (IU.out l1 wb _ _ TB.out).mono ?_
  rintro e w4 ⟨rfl, b4⟩
  have z4 := b4.size
  have B4 : Hid (Below w.heap.size w w4) := BB.out.trans (b4.mono (by omega))
  have b4d : Below wb.heap.size wb w4.drew := below_drewN b4 1
  have T4 : Hid (w4.drew.ownsRow w2.heap.size 2 1 (.slice (some ⟨g3, 0, none⟩) n n) n X) := row_on TB.out b4d
  have X4 : Hid (Box3 w4.drew w.heap.size (.int .i64 x) (.int .i64 y) (.slice a n cap)) := XB.out.on b4d (by omega)
  have Z4 : Hid (Box3 w4.drew w3.heap.size (.int .i64 x) (.int .i64 y) (.slice (some ⟨g3, 0, none⟩) n n)) := ZB.out.on b4d (by omega)
  obtain ⟨c0, c1, c2⟩ : Box3 w4 w.heap.size (.int .i64 x) (.int .i64 y) (.slice a n cap) := X4.out
  obtain ⟨d0, d1, d2⟩ : Box3 w4 w3.heap.size (.int .i64 x) (.int .i64 y) (.slice (some ⟨g3, 0, none⟩) n n) := Z4.out
  have D4 : Hid (Below w.heap.size w w4.drew) := below_drewN B4.out 1
  have y4 : w.heap.size < w4.heap.size ∧ w3.heap.size < w4.heap.size := by omega
  clear b4 b4d TB XB ZB BB HWB
  go_wp2_with fail
  go_region_held3 (fun w' => w'.cell? ⟨w.heap.size, 0, none⟩ = some (.int .i64 x) ∧ w'.cell? ⟨w.heap.size, 1, none⟩ = some (.int .i64 y) ∧ w'.cell? ⟨w.heap.size, 2, none⟩ = some (.slice a n cap) ∧ w'.cell? ⟨w3.heap.size, 0, none⟩ = some (.int .i64 x) ∧ w'.cell? ⟨w3.heap.size, 1, none⟩ = some (.int .i64 y) ∧ w'.cell? ⟨w3.heap.size, 2, none⟩ = some (.slice (some ⟨g3, 0, none⟩) n n)) (go_keep)
    (first
    | (go_at_call 18; refine (TO.out l1 _ D4.out).mono ?_; rintro e w6 ⟨j1, rfl, r6, b6⟩; have z6 : w4.heap.size ≤ w6.heap.size := b6.size; have X6 : Box3 w6 w.heap.size (.int .i64 x) (.int .i64 y) (.slice a n cap) := X4.out.on b6 y4.1; obtain ⟨e0, e1, e2⟩ := X6; have Z6 : Box3 w6 w3.heap.size (.int .i64 x) (.int .i64 y) (.slice (some ⟨g3, 0, none⟩) n n) := Z4.out.on b6 y4.2; obtain ⟨f0, f1, f2⟩ := Z6; have T6 : Hid (w6.ownsRow w2.heap.size 2 1 (.slice (some ⟨g3, 0, none⟩) n n) n X) := row_on T4.out b6; have B6 : Hid (Below w.heap.size w w6) := D4.out.trans (b6.mono (by show w.heap.size ≤ w4.heap.size; exact Nat.le_of_lt y4.1)); have Q6 : Hid (w6.ownsRow w4.drew.heap.size 2 1 (.slice (some ⟨j1, 0, none⟩) n n) n X) := r6; clear r6 b6)
    | (go_at_call 20; refine (EQ.out _ _ _ _ _ T6.out Q6.out).mono ?_; rintro e w7 ⟨rfl, b7⟩; have z7 := b7.size; have X7 : Box3 w7 w.heap.size (.int .i64 x) (.int .i64 y) (.slice a n cap) := Box3.on ⟨e0, e1, e2⟩ b7 (by omega); obtain ⟨y0, y1, y2⟩ := X7; have Z7 : Box3 w7 w3.heap.size (.int .i64 x) (.int .i64 y) (.slice (some ⟨g3, 0, none⟩) n n) := Box3.on ⟨f0, f1, f2⟩ b7 (by omega); obtain ⟨h0, h1, h2⟩ := Z7; have B7 : Hid (Below w.heap.size w w7) := B6.out.trans (b7.mono B6.out.size); clear b7))
  go_wp2_with fail
  go_ret
  exact ⟨rfl, B7.out⟩
end Go.Proofs.Ytaemldfeicjdnaa.Lp
