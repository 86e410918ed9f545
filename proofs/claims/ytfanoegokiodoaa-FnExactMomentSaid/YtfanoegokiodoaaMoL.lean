/- The law walked; what model and program answer comes in as hypotheses. -/
import Derived.Test.YtfanoegokiodoaaRg
namespace Go.Proofs.Ytfanoegokiodoaa.Rg
open Go.ChangeShapes Go.WideShapes Go.ChangeAt Go.RowKit
open Go.Proofs.Ytfanoegokiodoaa.Lists

set_option maxHeartbeats 1000000 in
theorem lawMoL (L M : List Int) (v u : Value) (w : World) (hL : Lists.Reads w v L) (hM : Lists.Reads w u M) (hf : L.length < 9223372036854775808) (hg : M.length < 9223372036854775808) (m0 m1 : Int)
    (SA : ∀ w v u, Lists.Reads w v L → Lists.Reads w u M → Calls Try.prog 10 #[sv v u] w fun e w' => e = .returned (.tuple #[.int .i64 m0, .int .i64 m1]) ∧ Below w.heap.size w w')
    (IA : ∀ w v u, Lists.Reads w v L → Lists.Reads w u M → Calls Try.prog 11 #[sv v u] w fun e w' => e = .returned (.tuple #[.int .i64 m0, .int .i64 m1]) ∧ Below w.heap.size w w') :
    Calls Try.prog 4 #[sv v u] w fun e w' => e = .returned (.bool true) ∧ Below w.heap.size w w' := by
  obtain ⟨a, cap, rfl⟩ := hL.form
  obtain ⟨a', cap', rfl⟩ := hM.form
  have SZ : Hid (∀ w', Calls Try.prog 5 #[sv (.slice a L.length cap) (.slice a' M.length cap'), .int .i64 1048576] w' fun e w'' => (∃ l : Int, e = .returned (.int .i64 l) ∧ (0 ≤ l → L.length ≤ 1048576 ∧ M.length ≤ 1048576)) ∧ Below w'.heap.size w' w'') := fun w' => sz_any a a' L.length M.length cap cap' w' hf hg
  have TO : Hid (L.length ≤ 1048576 ∧ M.length ≤ 1048576 → ∀ w', Below w.heap.size w w' → Calls Try.prog 7 #[sv (.slice a L.length cap) (.slice a' M.length cap')] w' fun e w'' => ∃ s t, e = .returned (sv s t) ∧ w''.ownsRow w'.heap.size 2 1 s L.length (ints L) ∧ w''.ownsRow w'.heap.size 2 1 t M.length (ints M) ∧ Below w'.heap.size w' w'') := fun hl w' hb => to_st L M _ _ w' (hL.on hb) (hM.on hb) hl.1 hl.2
  have SU : Hid (∀ w' A B s t, w'.ownsRow A 2 1 s L.length (ints L) → w'.ownsRow B 2 1 t M.length (ints M) → Calls Try.prog 10 #[sv s t] w' fun e w'' => e = .returned (.tuple #[.int .i64 m0, .int .i64 m1]) ∧ Below w'.heap.size w' w'') := fun w' A B s t h h' => SA w' s t (Lists.reads_row h) (Lists.reads_row h')
  have IU : Hid (∀ w' A B s t, w'.ownsRow A 2 1 s L.length (ints L) → w'.ownsRow B 2 1 t M.length (ints M) → Calls Try.prog 11 #[sv s t] w' fun e w'' => e = .returned (.tuple #[.int .i64 m0, .int .i64 m1]) ∧ Below w'.heap.size w' w'') := fun w' A B s t h h' => IA w' s t (Lists.reads_row h) (Lists.reads_row h')
  have EQ : Hid (∀ w' A B C D s t s' t', w'.ownsRow A 2 1 s L.length (ints L) → w'.ownsRow B 2 1 t M.length (ints M) → w'.ownsRow C 2 1 s' L.length (ints L) → w'.ownsRow D 2 1 t' M.length (ints M) → Calls Try.prog 9 #[sv s t, sv s' t'] w' fun e w'' => e = .returned (.bool true) ∧ Below w'.heap.size w' w'') := fun w' A B C D s t s' t' h1 h2 h3 h4 => eq_st L M s s' t t' A B C D w' h1 h2 h3 h4
  have hbb : ∀ b : Bool, (b != b) = false := fun b => by cases b <;> rfl
  have hii : ∀ b : Int, (b != b) = false := fun b => by simp
  generalize ints L = X at *
  generalize ints M = Y at *
  generalize L.length = n at *
  generalize M.length = n' at *
  clear hL hM SA IA hf hg
  obtain ⟨wa, hwa⟩ : ∃ wa, wa = w.alloc (Obj.cells #[.slice a n cap, .slice a' n' cap'] 24) := ⟨_, rfl⟩
  have HWA : Hid (wa = w.alloc (Obj.cells #[.slice a n cap, .slice a' n' cap'] 24)) := hwa
  have BA : Hid (Below w.heap.size w wa) := (by show Below _ _ _; rw [hwa]; exact (Below.refl _ _).alloc (Nat.le_refl _) _)
  have za : wa.heap.size = w.heap.size + 1 := by rw [hwa]; simp
  have XA : Hid (Box wa w.heap.size (.slice a n cap) (.slice a' n' cap')) := (by show Box _ _ _ _; rw [hwa]; unfold Box; simp [go_sem])
  clear hwa
  go_enter Try.func4, Try.ntmps4
  go_wp2_with fail
  rw [← HWA.out]
  refine (SZ.out wa).mono ?_
  rintro e w0 ⟨⟨l, rfl, hl⟩, b0⟩
  have B0 : Hid (Below w.heap.size w w0) := BA.out.trans (b0.mono (by omega))
  have z0 := b0.size
  obtain ⟨c0, c1⟩ := XA.out.on b0 (by omega)
  clear b0 HWA XA BA
  by_cases hneg : l < 0
  · go_wp2_with fail
    go_ret
    exact ⟨rfl, B0.out⟩
  have l1 : Hid (n ≤ 1048576 ∧ n' ≤ 1048576) := hl (by omega)
  clear hl
  go_wp2_with fail
  refine (TO.out l1.out w0 B0.out).mono ?_
  rintro e w1 ⟨s1, t1, rfl, r1, q1, b1⟩
  have B1 : Hid (Below w.heap.size w w1) := B0.out.trans (b1.mono (by omega))
  have R1 : Hid (w1.ownsRow w0.heap.size 2 1 s1 n X) := r1
  have Q1 : Hid (w1.ownsRow w0.heap.size 2 1 t1 n' Y) := q1
  have z1 := b1.size
  have X1 : Hid (Box w1 w.heap.size (.slice a n cap) (.slice a' n' cap')) := Box.on ⟨c0, c1⟩ b1 (by omega)
  clear r1 q1 b1 c0 c1
  go_wp2_with fail
  refine (SU.out w1 _ _ _ _ R1.out Q1.out).mono ?_
  rintro e w2 ⟨rfl, b2⟩
  have z2 := b2.size
  have B2 : Hid (Below w.heap.size w w2) := B1.out.trans (b2.mono (by omega))
  obtain ⟨c0, c1⟩ := X1.out.on b2 (by omega)
  clear b2 R1 Q1 B1 X1
  go_wp2_with fail
  refine (TO.out l1.out w2 B2.out).mono ?_
  rintro e w3 ⟨s3, t3, rfl, r3, q3, b3⟩
  have z3 := b3.size
  have B3 : Hid (Below w.heap.size w w3) := B2.out.trans (b3.mono (by omega))
  have T3 : Hid (w3.ownsRow w2.heap.size 2 1 s3 n X) := r3
  have U3 : Hid (w3.ownsRow w2.heap.size 2 1 t3 n' Y) := q3
  have X3 : Hid (Box w3 w.heap.size (.slice a n cap) (.slice a' n' cap')) := Box.on ⟨c0, c1⟩ b3 (by omega)
  obtain ⟨sb, sc, se⟩ := r3.form
  obtain ⟨tb, tc, te⟩ := q3.form
  subst se te
  clear r3 q3 b3 B2 c0 c1
  obtain ⟨wb, hwb⟩ : ∃ wb, wb = w3.alloc (Obj.cells #[.slice sb n sc, .slice tb n' tc] 27) := ⟨_, rfl⟩
  have HWB : Hid (wb = w3.alloc (Obj.cells #[.slice sb n sc, .slice tb n' tc] 27)) := hwb
  have bb : Below w3.heap.size w3 wb := by rw [hwb]; exact (Below.refl _ _).alloc (Nat.le_refl _) _
  have zb : wb.heap.size = w3.heap.size + 1 := by rw [hwb]; simp
  have ZB : Hid (Box wb w3.heap.size (.slice sb n sc) (.slice tb n' tc)) := (by show Box _ _ _ _; rw [hwb]; unfold Box; simp [go_sem])
  have TB : Hid (wb.ownsRow w2.heap.size 2 1 (.slice sb n sc) n X) := row_on T3.out bb
  have UB : Hid (wb.ownsRow w2.heap.size 2 1 (.slice tb n' tc) n' Y) := row_on U3.out bb
  have XB : Hid (Box wb w.heap.size (.slice a n cap) (.slice a' n' cap')) := X3.out.on bb (by omega)
  have BB : Hid (Below w.heap.size w wb) := B3.out.trans (bb.mono (by omega))
  clear hwb bb X3 T3 U3 B3
  go_wp2_with fail
  rw [← HWB.out]
  refine (IU.out wb _ _ _ _ TB.out UB.out).mono ?_
  rintro e w4 ⟨rfl, b4⟩
  have z4 := b4.size
  have B4 : Hid (Below w.heap.size w w4) := BB.out.trans (b4.mono (by omega))
  have b4d : Below wb.heap.size wb w4.drew := below_drewN b4 1
  have T4 : Hid (w4.drew.ownsRow w2.heap.size 2 1 (.slice sb n sc) n X) := row_on TB.out b4d
  have U4 : Hid (w4.drew.ownsRow w2.heap.size 2 1 (.slice tb n' tc) n' Y) := row_on UB.out b4d
  have X4 : Hid (Box w4.drew w.heap.size (.slice a n cap) (.slice a' n' cap')) := XB.out.on b4d (by omega)
  have Z4 : Hid (Box w4.drew w3.heap.size (.slice sb n sc) (.slice tb n' tc)) := ZB.out.on b4d (by omega)
  obtain ⟨c0, c1⟩ : Box w4 w.heap.size (.slice a n cap) (.slice a' n' cap') := X4.out
  obtain ⟨d0, d1⟩ : Box w4 w3.heap.size (.slice sb n sc) (.slice tb n' tc) := Z4.out
  have D4 : Hid (Below w.heap.size w w4.drew) := below_drewN B4.out 1
  have y4 : w.heap.size < w4.heap.size ∧ w3.heap.size < w4.heap.size := by omega
  clear b4 b4d TB UB XB ZB BB HWB
  go_wp2_with fail
  go_region_held3 (fun w' => w'.cell? ⟨w.heap.size, 0, none⟩ = some (.slice a n cap) ∧ w'.cell? ⟨w.heap.size, 1, none⟩ = some (.slice a' n' cap') ∧ w'.cell? ⟨w3.heap.size, 0, none⟩ = some (.slice sb n sc) ∧ w'.cell? ⟨w3.heap.size, 1, none⟩ = some (.slice tb n' tc)) (go_keep)
    (first
    | (go_at_call 7; refine (TO.out l1.out _ D4.out).mono ?_; rintro e w6 ⟨s6, t6, rfl, r6, q6, b6⟩; have z6 : w4.heap.size ≤ w6.heap.size := b6.size; have X6 : Box w6 w.heap.size (.slice a n cap) (.slice a' n' cap') := X4.out.on b6 y4.1; obtain ⟨e0, e1⟩ := X6; have Z6 : Box w6 w3.heap.size (.slice sb n sc) (.slice tb n' tc) := Z4.out.on b6 y4.2; obtain ⟨f0, f1⟩ := Z6; have T6 : Hid (w6.ownsRow w2.heap.size 2 1 (.slice sb n sc) n X) := row_on T4.out b6; have U6 : Hid (w6.ownsRow w2.heap.size 2 1 (.slice tb n' tc) n' Y) := row_on U4.out b6; have B6 : Hid (Below w.heap.size w w6) := D4.out.trans (b6.mono (by show w.heap.size ≤ w4.heap.size; omega)); have Q6 : Hid (w6.ownsRow w4.drew.heap.size 2 1 s6 n X) := r6; have V6 : Hid (w6.ownsRow w4.drew.heap.size 2 1 t6 n' Y) := q6; clear r6 q6 b6)
    | (go_at_call 9; refine (EQ.out _ _ _ _ _ _ _ _ _ T6.out U6.out Q6.out V6.out).mono ?_; rintro e w7 ⟨rfl, b7⟩; have z7 := b7.size; have X7 : Box w7 w.heap.size (.slice a n cap) (.slice a' n' cap') := Box.on ⟨e0, e1⟩ b7 (by omega); obtain ⟨y0, y1⟩ := X7; have Z7 : Box w7 w3.heap.size (.slice sb n sc) (.slice tb n' tc) := Box.on ⟨f0, f1⟩ b7 (by omega); obtain ⟨h0, h1⟩ := Z7; have B7 : Hid (Below w.heap.size w w7) := B6.out.trans (b7.mono B6.out.size); clear b7))
  go_wp2_with fail
  go_ret
  exact ⟨rfl, B7.out⟩
end Go.Proofs.Ytfanoegokiodoaa.Rg
