/- Table: the law. -/
import Derived.Test.YtbpkmgcgiegfeaaTs
import Derived.Test.YtbpkmgcgiegfeaaTi
import Derived.Test.YtbpkmgcgiegfeaaPbArg
namespace Go.Proofs.Ytbpkmgcgiegfeaa.Br
open Go.ChangeShapes Go.WideShapes Go.ChangeAt Go.RowKit
open Go.Proofs.Ytbpkmgcgiegfeaa.Al

theorem tab_form (L : Ls) (p : Int) : ∃ x0 x1 x2 x3, tab L p = cv x0 x1 x2 x3 := by
  unfold tab
  split
  · exact ⟨_, _, _, _, rfl⟩
  · exact ⟨_, _, _, _, rfl⟩
def B4 (w : World) (g : Nat) (a b c d : Int) : Prop := w.cell? ⟨g, 0, none⟩ = some (.int .i64 a) ∧ w.cell? ⟨g, 1, none⟩ = some (.int .i64 b) ∧ w.cell? ⟨g, 2, none⟩ = some (.int .i64 c) ∧ w.cell? ⟨g, 3, none⟩ = some (.int .i64 d)
theorem B4.on {w w' : World} {B g : Nat} {a b c d : Int} (h : B4 w g a b c d) (hb : Below B w w') (hg : g < B) : B4 w' g a b c d := by
  obtain ⟨h0, h1, h2, h3⟩ := h
  exact ⟨(hb.cell (p := ⟨g, 0, none⟩) hg).trans h0, (hb.cell (p := ⟨g, 1, none⟩) hg).trans h1, (hb.cell (p := ⟨g, 2, none⟩) hg).trans h2, (hb.cell (p := ⟨g, 3, none⟩) hg).trans h3⟩
theorem B4.new (w : World) (a b c d : Int) (t : TypeId) : B4 (w.alloc (Obj.cells #[.int .i64 a, .int .i64 b, .int .i64 c, .int .i64 d] t)) w.heap.size a b c d := by
  unfold B4
  simp [go_sem]

set_option maxHeartbeats 1000000 in
theorem tableAll (w : World) (v : Value) (L : Ls) (hL : Pb.Reads w v L) (_ : Pb.Fit L) (p : Int) : Calls Try.prog 4 #[v, .int .i64 p] w fun e w' => e = .returned (.bool true) ∧ Below w.heap.size w w' := by
  obtain ⟨x0, x1, x2, x3, hx⟩ := tab_form L p
  have FI := hL.fits
  obtain ⟨s0, c0, rfl⟩ := hL.form
  have SZ : Hid (∀ w', Calls Try.prog 6 #[.slice s0 L.length c0, .int .i64 1048576] w' fun e w'' => (∃ r : Int, e = .returned (.int .i64 r) ∧ (0 ≤ r → L.length ≤ 1048576)) ∧ w'' = w') := fun w' => by
    by_cases hz : (L.length : Int) ≤ 1048576
    · refine (Pb.sz_near s0 L.length c0 1048576 w' (by omega) hz).mono ?_
      rintro e w'' ⟨rfl, rfl⟩
      exact ⟨⟨_, rfl, fun _ => by omega⟩, rfl⟩
    · refine (Pb.sz_far s0 L.length c0 1048576 w' (by omega) (by omega) (by omega) FI).mono ?_
      rintro e w'' ⟨rfl, rfl⟩
      exact ⟨⟨_, rfl, fun h => by omega⟩, rfl⟩
  have TO : Hid (L.length ≤ 1048576 → ∀ w', Below w.heap.size w w' → Calls Try.prog 8 #[.slice s0 L.length c0] w' fun e w'' => ∃ u, e = .returned u ∧ Pb.Row w'' w'.heap.size u L ∧ Below w'.heap.size w' w'') := fun hl w' hb => Pb.to_own w' _ L (hL.on hb) hl
  have SA : Hid (∀ w' B t, Pb.Row w' B t L → Calls Try.prog 11 #[t, .int .i64 p] w' fun e w'' => e = .returned (cv x0 x1 x2 x3) ∧ Below w'.heap.size w' w'') := fun w' B t h => by rw [← hx]; exact stable_any L p t w' h.reads
  have IA : Hid (∀ w' B t, Pb.Row w' B t L → Calls Try.prog 12 #[t, .int .i64 p] w' fun e w'' => e = .returned (cv x0 x1 x2 x3) ∧ Below w'.heap.size w' w'') := fun w' B t h => by rw [← hx]; exact itable_any L p t w' h.reads
  have EC : Hid (∀ w, Calls Try.prog 13 #[cv x0 x1 x2 x3, cv x0 x1 x2 x3] w fun e w' => e = .returned (.bool true) ∧ Below w.heap.size w w') := fun w => eqc_any x0 x1 x2 x3 w
  have EQ : Hid (∀ w' B C t u, Pb.Row w' B t L → Pb.Row w' C u L → Calls Try.prog 10 #[t, u] w' fun e w'' => e = .returned (.bool true) ∧ Below w'.heap.size w' w'') := fun w' B C t u h h' => Pb.eq_same w' t u L h.reads h'.reads
  clear hx hL FI
  have BA : Hid (Below w.heap.size w w) := Below.refl _ _
  go_enter Try.func4, Try.ntmps4
  go_wp2_with fail
  refine (SZ.out w).mono ?_
  rintro e w0 ⟨⟨l, rfl, hl⟩, hw⟩
  have hw' := hw.symm
  subst hw'
  by_cases hneg : l < 0
  · go_wp2_with fail
    go_ret
    exact ⟨rfl, BA.out⟩
  have HL : Hid (L.length ≤ 1048576) := hl (by omega)
  clear hl
  go_wp2_with fail
  refine (TO.out HL.out w BA.out).mono ?_
  rintro e w1 ⟨u1, rfl, r1, b1⟩
  have z1 := b1.size
  have B1 : Hid (Below w.heap.size w w1) := b1
  have R1 : Hid (Pb.Row w1 w.heap.size u1 L) := r1
  clear b1 r1
  go_wp2_with fail
  refine (SA.out w1 _ _ R1.out).mono ?_
  rintro e w2 ⟨rfl, b2⟩
  have z2 := b2.size
  have B2 : Hid (Below w.heap.size w w2) := B1.out.trans (b2.mono (by omega))
  clear b2
  obtain ⟨w3, hw3⟩ : ∃ w3, w3 = w2.alloc (Obj.cells #[.int .i64 x0, .int .i64 x1, .int .i64 x2, .int .i64 x3] 30) := ⟨_, rfl⟩
  have HW3 : Hid (w3 = w2.alloc (Obj.cells #[.int .i64 x0, .int .i64 x1, .int .i64 x2, .int .i64 x3] 30)) := hw3
  have b3 : Below w2.heap.size w2 w3 := by rw [hw3]; exact (Below.refl _ _).alloc (Nat.le_refl _) _
  have z3 : w3.heap.size ≤ w2.heap.size + 1 ∧ w2.heap.size + 1 ≤ w3.heap.size := by rw [hw3]; simp
  have B3 : Hid (Below w.heap.size w w3) := B2.out.trans (b3.mono (by omega))
  have Y3 : Hid (B4 w3 w2.heap.size x0 x1 x2 x3) := (by show B4 _ _ _ _ _ _; rw [hw3]; exact B4.new w2 x0 x1 x2 x3 30)
  clear hw3 b3
  go_wp2_with fail
  rw [← HW3.out]
  refine (TO.out HL.out w3 B3.out).mono ?_
  rintro e w4 ⟨u4, rfl, r4, b4⟩
  have z4 := b4.size
  have B4' : Hid (Below w.heap.size w w4) := B3.out.trans (b4.mono (by omega))
  have Y4 : Hid (B4 w4 w2.heap.size x0 x1 x2 x3) := Y3.out.on b4 (by omega)
  have R4 : Hid (Pb.Row w4 w3.heap.size u4 L) := r4
  clear b4 r4
  go_wp2_with fail
  refine (IA.out w4 _ _ R4.out).mono ?_
  rintro e w5 ⟨rfl, b5⟩
  have z5 := b5.size
  have B5 : Hid (Below w.heap.size w w5) := B4'.out.trans (b5.mono (by omega))
  have R5 : Hid (Pb.Row w5 w3.heap.size u4 L) := R4.out.on b5
  obtain ⟨d0, d1, d2, d3⟩ := Y4.out.on b5 (by omega)
  clear b5
  obtain ⟨w6, hw6⟩ : ∃ w6, w6 = w5.alloc (Obj.cells #[.int .i64 x0, .int .i64 x1, .int .i64 x2, .int .i64 x3] 30) := ⟨_, rfl⟩
  have HW6 : Hid (w6 = w5.alloc (Obj.cells #[.int .i64 x0, .int .i64 x1, .int .i64 x2, .int .i64 x3] 30)) := hw6
  have b6 : Below w5.heap.size w5 w6 := by rw [hw6]; exact (Below.refl _ _).alloc (Nat.le_refl _) _
  have z6 := b6.size
  have B6 : Hid (Below w.heap.size w w6) := B5.out.trans (b6.mono (by omega))
  have R6 : Hid (Pb.Row w6 w3.heap.size u4 L) := R5.out.on b6
  have l3 : w2.heap.size < w5.heap.size := by omega
  have l4 : ¬ w2.heap.size = w5.heap.size := by omega
  clear hw6 b6
  go_wp2_with fail
  rw [← HW6.out]
  refine (EC.out w6).mono ?_
  rintro e w7 ⟨rfl, b7⟩
  have z7 := b7.size
  have B7 : Hid (Below w.heap.size w w7) := B6.out.trans (b7.mono (by omega))
  have R7 : Hid (Pb.Row w7 w3.heap.size u4 L) := R6.out.on b7
  clear b7 d0 d1 d2 d3
  go_wp2_with fail
  refine (TO.out HL.out w7 B7.out).mono ?_
  rintro e w8 ⟨u8, rfl, r8, b8⟩
  have z8 := b8.size
  have B8 : Hid (Below w.heap.size w w8) := B7.out.trans (b8.mono (by omega))
  have R8 : Hid (Pb.Row w8 w3.heap.size u4 L) := R7.out.on b8
  have Q8 : Hid (Pb.Row w8 w7.heap.size u8 L) := r8
  clear b8 r8
  go_wp2_with fail
  refine (EQ.out w8 _ _ _ _ R8.out Q8.out).mono ?_
  rintro e w9 ⟨rfl, b9⟩
  have B9 : Hid (Below w.heap.size w w9) := B8.out.trans (b9.mono B8.out.size)
  clear b9
  go_wp2_with fail
  go_ret
  exact ⟨rfl, B9.out⟩
end Go.Proofs.Ytbpkmgcgiegfeaa.Br
