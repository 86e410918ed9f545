/- The law of normals walked. -/
import Derived.Test.YtjoijffjnlencaaNn
import Derived.Test.YtjoijffjnlencaaLlArg
namespace Go.Proofs.Ytjoijffjnlencaa.No
open Go.ChangeShapes Go.WideShapes Go.ChangeAt Go.RowKit
open Go.Proofs.Ytjoijffjnlencaa.Lists Go.Proofs.Ytjoijffjnlencaa.Al Go.Proofs.Ytjoijffjnlencaa.Su Go.Proofs.Ytjoijffjnlencaa.Se Go.Proofs.Ytjoijffjnlencaa.Ll

set_option maxRecDepth 20000 in
set_option maxHeartbeats 4000000 in
theorem normalsAll (w : World) (v : Value) (L : Ls) (h0 : Ll.Reads w v L) :
    Calls Try.prog 3 #[v] w fun e w' => e = .returned (.bool true) ∧ Below w.heap.size w w' := by
  have SZ : Hid (Calls Try.prog 4 #[v, .int .i64 1048576] w fun e w' => (∃ r : Int, e = .returned (.int .i64 r) ∧ (0 ≤ r → L.length + tl L L.length ≤ 1048576)) ∧ w' = w) := Ll.szS_any v L w h0
  have TO : Hid (L.length + tl L L.length ≤ 1048576 → ∀ w', Below w.heap.size w w' → Calls Try.prog 6 #[v] w' fun e w'' => ∃ v', e = .returned v' ∧ Ll.Row w'' w'.heap.size v' L ∧ Below w'.heap.size w' w'') := fun hs w' hb => Ll.toS_any w' v L (h0.on hb) (by omega) (fun i hi => by have := tl_at L hi; omega)
  have SA : Hid (∀ w' v', Ll.Reads w' v' L → Calls Try.prog 5 #[v'] w' fun e w'' => ∃ u0, e = .returned (.tuple #[u0, .bool (okY L)]) ∧ w''.ownsRow w'.heap.size 2 1 u0 (ansX L).length (ints (ansX L)) ∧ Below w'.heap.size w' w'') := fun w' v' h => snorm_any L v' w' h
  have IA : Hid (∀ w' v', Ll.Reads w' v' L → Calls Try.prog 7 #[v'] w' fun e w'' => ∃ u0, e = .returned (.tuple #[u0, .bool (okY L)]) ∧ w''.ownsRow w'.heap.size 2 1 u0 (ansX L).length (ints (ansX L)) ∧ Below w'.heap.size w' w'') := fun w' v' h => inorm_any L v' w' h
  have xl := ansX_len L
  obtain ⟨a, cap, rfl⟩ := h0.form
  clear h0
  generalize ansX L = X at *
  generalize okY L = rb at *
  obtain ⟨n, hn⟩ : ∃ n, n = L.length := ⟨_, rfl⟩
  have HN : Hid (n = L.length) := hn
  rw [← hn] at SZ TO ⊢
  clear hn
  have hbb : (rb != rb) = false := by cases rb <;> rfl
  have hqq : ((1 : Int) + (X.length : Int) != 1 + (X.length : Int)) = false := by simp
  have hq0 : ¬ (1 : Int) + (X.length : Int) < 0 := by omega
  go_enter Try.func3, Try.ntmps3
  go_wp2_with fail
  refine SZ.out.mono ?_
  rintro e w0 ⟨⟨r, rfl, hr⟩, hw⟩
  have hw' := hw.symm
  subst hw'
  clear hw SZ
  by_cases hr0 : r < 0
  · go_wp2_with fail
    go_ret
    exact ⟨rfl, Below.refl _ _⟩
  have HS : Hid (n + tl L n ≤ 1048576) := hr (by omega)
  have TT : Hid (∀ w', Below w.heap.size w w' → Calls Try.prog 6 #[.slice a n cap] w' fun e w'' => ∃ v', e = .returned v' ∧ Ll.Row w'' w'.heap.size v' L ∧ Below w'.heap.size w' w'') := TO.out (hr (by omega))
  obtain ⟨tt, htt⟩ : ∃ tt : Nat, tt = tl L n := ⟨_, rfl⟩
  have HT : Hid (tt = tl L n) := htt
  have ht0 : ¬ (1 : Int) + (tt : Int) < 0 := by omega
  clear hr TO htt
  go_wp2_with fail
  refine (TT.out w (Below.refl _ _)).mono ?_
  rintro e w1 ⟨v1, rfl, r1, b1⟩
  have R1 : Hid (Ll.Reads w1 v1 L) := r1.reads
  have B1 : Hid (Below w.heap.size w w1) := b1
  clear r1 b1
  obtain ⟨a1, c1, e1⟩ := R1.out.form
  subst e1
  go_wp2_with fail
  refine (SA.out w1 _ R1.out).mono ?_
  rintro e w2 ⟨us, rfl, r2, b2⟩
  have S2 : Hid (w2.ownsRow w1.heap.size 2 1 us X.length (ints X)) := r2
  have LS : Hid (∀ k, us.ownBlock = some k → k < w2.heap.size) := fun k hk => (r2.lt k hk).2
  have B2 : Hid (Below w.heap.size w w2) := B1.out.trans (b2.mono B1.out.size)
  clear r2 b2 R1
  go_wp2_with fail
  refine (TT.out w2 B2.out).mono ?_
  rintro e w3 ⟨vx, rfl, r3, b3⟩
  have X3 : Hid (Ll.RowT w3 w2.heap.size w3.heap.size vx L) := r3.up
  have S3 : Hid (w3.ownsRow w1.heap.size 2 1 us X.length (ints X)) := Ll.row_on S2.out b3
  have B3 : Hid (Below w.heap.size w w3) := B2.out.trans (b3.mono B2.out.size)
  have Z3 : Hid (w2.heap.size ≤ w3.heap.size) := b3.size
  obtain ⟨a3, c3, e3⟩ := r3.reads.form
  subst e3
  clear r3 b3 S2
  go_wp2_with fail
  refine (IA.out w3 _ X3.out.row.reads).mono ?_
  rintro e w4 ⟨ug, rfl, r4, b4⟩
  have G4 : Hid (w4.ownsRow w3.heap.size 2 1 ug X.length (ints X)) := r4
  have LG : Hid (∀ k, ug.ownBlock = some k → w3.heap.size ≤ k) := fun k hk => (r4.lt k hk).1
  have X4 : Hid (Ll.RowT w4 w2.heap.size w3.heap.size (.slice a3 L.length c3) L) := X3.out.on b4
  have S4 : Hid (w4.ownsRow w1.heap.size 2 1 us X.length (ints X)) := Ll.row_on S3.out b4
  have B4 : Hid (Below w.heap.size w w4) := B3.out.trans (b4.mono B3.out.size)
  clear r4 b4 X3 S3
  go_wp2_with fail
  refine (Lists.eq_same _ _ _ _ _ X G4.out S4.out).mono ?_
  rintro e w5 ⟨rfl, m5, hw⟩
  have G5 : Hid (w5.ownsRow w3.heap.size 2 1 ug X.length (ints X)) := (by rw [hw]; exact G4.out)
  have S5 : Hid (w5.ownsRow w1.heap.size 2 1 us X.length (ints X)) := (by rw [hw]; exact S4.out)
  have X5 : Hid (Ll.RowT w5 w2.heap.size w3.heap.size (.slice a3 L.length c3) L) := (by rw [hw]; exact X4.out.on (below_drewN (Below.refl _ _) m5))
  have B5 : Hid (Below w.heap.size w w5) := (by rw [hw]; exact below_drewN B4.out m5)
  clear hw G4 S4 X4
  go_wp2_with fail
  refine (TT.out w5 B5.out).mono ?_
  rintro e w6 ⟨vy, rfl, r6, b6⟩
  have Y6 : Hid (Ll.Reads w6 vy L) := r6.reads
  have G6 : Hid (w6.ownsRow w3.heap.size 2 1 ug X.length (ints X)) := Ll.row_on G5.out b6
  have S6 : Hid (w6.ownsRow w1.heap.size 2 1 us X.length (ints X)) := Ll.row_on S5.out b6
  have X6 : Hid (Ll.RowT w6 w2.heap.size w3.heap.size (.slice a3 L.length c3) L) := X5.out.on b6
  have B6 : Hid (Below w.heap.size w w6) := B5.out.trans (b6.mono B5.out.size)
  obtain ⟨a6, c6, e6⟩ := r6.reads.form
  subst e6
  clear r6 b6 G5 S5 X5
  go_wp2_with fail
  refine (Ll.eqS_any w6 _ _ L X6.out.row.reads Y6.out).mono ?_
  rintro e w7 ⟨rfl, m7, hw⟩
  have G7 : Hid (w7.ownsRow w3.heap.size 2 1 ug X.length (ints X)) := (by rw [hw]; exact G6.out)
  have S7 : Hid (w7.ownsRow w1.heap.size 2 1 us X.length (ints X)) := (by rw [hw]; exact S6.out)
  have X7 : Hid (Ll.RowT w7 w2.heap.size w3.heap.size (.slice a3 L.length c3) L) := (by rw [hw]; exact X6.out.on (below_drewN (Below.refl _ _) m7))
  have B7 : Hid (Below w.heap.size w w7) := (by rw [hw]; exact below_drewN B6.out m7)
  clear hw G6 S6 X6 Y6
  have M7 : Hid (Calls Try.prog 10 #[.slice a3 L.length c3, .int .i64 1] w7 fun e w' => e = .returned (.int .i64 (1 + (tt : Int))) ∧ Ll.Mk w2.heap.size w3.heap.size w7 w') := (by
    have := Ll.markS_any w7 w2.heap.size w3.heap.size _ L X7.out (by have := HS.out; have := HN.out; omega) (by have := HS.out; have := HN.out; rw [← HN.out]; omega)
    rw [← HN.out, ← HT.out] at this
    rw [← HN.out]
    exact this)
  clear X7
  go_wp2_with fail
  refine M7.out.mono ?_
  rintro e w8 ⟨rfl, mk⟩
  have G8 : Hid (w8.ownsRow w3.heap.size 2 1 ug X.length (ints X)) := mk.row G7.out (fun k hk => Or.inr (LG.out k hk))
  have S8 : Hid (w8.ownsRow w1.heap.size 2 1 us X.length (ints X)) := mk.row S7.out (fun k hk => Or.inl (LS.out k hk))
  have B8 : Hid (Below w.heap.size w w8) := B7.out.trans (mk.1.mono B2.out.size)
  clear mk G7 S7 M7
  go_wp2_with fail
  refine (Lists.eq_same _ _ _ _ _ X G8.out S8.out).mono ?_
  rintro e w9 ⟨rfl, m9, hw⟩
  have G9 : Hid (w9.ownsRow w3.heap.size 2 1 ug X.length (ints X)) := (by rw [hw]; exact G8.out)
  have S9 : Hid (w9.ownsRow w1.heap.size 2 1 us X.length (ints X)) := (by rw [hw]; exact S8.out)
  have B9 : Hid (Below w.heap.size w w9) := (by rw [hw]; exact below_drewN B8.out m9)
  clear hw G8 S8
  go_wp2_with fail
  refine (Lists.mark_any w9 _ _ X 1 (by omega) (by omega) (by omega) G9.out).mono ?_
  rintro e w10 ⟨rfl, r10, g10⟩
  have G10 : Hid (w10.ownsRow w3.heap.size 2 1 ug X.length (ints (sq 1 X.length))) := r10
  have S10 : Hid (w10.ownsRow w1.heap.size 2 1 us X.length (ints X)) := Ll.row_off S9.out g10 (fun k j hk hj => by have := LS.out k hk; have := LG.out j hj; have := Z3.out; omega)
  have B10 : Hid (Below w.heap.size w w10) := B9.out.grown g10 B9.out.size (fun k hk => by have := LG.out k hk; have := B3.out.size; omega)
  clear r10 g10 G9 S9
  have K10 : Hid (Calls Try.prog 12 #[ug, .int .i64 1] w10 fun e w' => e = .returned (.int .i64 (1 + (X.length : Int))) ∧ ∃ m, w' = w10.drewN m) := Lists.held_any w10 _ X.length 1 (by omega) (by omega) (by omega) (Lists.reads_row (L := sq 1 X.length) (by rw [sq_len]; exact G10.out))
  go_wp2_with fail
  refine K10.out.mono ?_
  rintro e w11 ⟨rfl, m11, hw⟩
  have G11 : Hid (w11.ownsRow w3.heap.size 2 1 ug X.length (ints (sq 1 X.length))) := (by rw [hw]; exact G10.out)
  have S11 : Hid (w11.ownsRow w1.heap.size 2 1 us X.length (ints X)) := (by rw [hw]; exact S10.out)
  have B11 : Hid (Below w.heap.size w w11) := (by rw [hw]; exact below_drewN B10.out m11)
  clear hw K10 G10 S10
  go_wp2_with fail
  refine (TT.out w11 B11.out).mono ?_
  rintro e w12 ⟨vq, rfl, r12, b12⟩
  have Q12 : Hid (Ll.Reads w12 vq L) := r12.reads
  have G12 : Hid (w12.ownsRow w3.heap.size 2 1 ug X.length (ints (sq 1 X.length))) := Ll.row_on G11.out b12
  have S12 : Hid (w12.ownsRow w1.heap.size 2 1 us X.length (ints X)) := Ll.row_on S11.out b12
  have B12 : Hid (Below w.heap.size w w12) := B11.out.trans (b12.mono B11.out.size)
  obtain ⟨a12, c12, e12⟩ := r12.reads.form
  subst e12
  clear r12 b12 G11 S11
  go_wp2_with fail
  refine (IA.out w12 _ Q12.out).mono ?_
  rintro e w13 ⟨uh, rfl, r13, b13⟩
  have H13 : Hid (w13.ownsRow w12.heap.size 2 1 uh X.length (ints X)) := r13
  have G13 : Hid (w13.ownsRow w3.heap.size 2 1 ug X.length (ints (sq 1 X.length))) := Ll.row_on G12.out b13
  have S13 : Hid (w13.ownsRow w1.heap.size 2 1 us X.length (ints X)) := Ll.row_on S12.out b13
  have B13 : Hid (Below w.heap.size w w13) := B12.out.trans (b13.mono B12.out.size)
  clear r13 b13 G12 S12 Q12
  go_wp2_with fail
  refine (Lists.eq_same _ _ _ _ _ X H13.out S13.out).mono ?_
  rintro e w14 ⟨rfl, m14, hw⟩
  have G14 : Hid (w14.ownsRow w3.heap.size 2 1 ug X.length (ints (sq 1 X.length))) := (by rw [hw]; exact G13.out)
  have B14 : Hid (Below w.heap.size w w14) := (by rw [hw]; exact below_drewN B13.out m14)
  clear hw G13 S13 H13
  have K14 : Hid (Calls Try.prog 12 #[ug, .int .i64 1] w14 fun e w' => e = .returned (.int .i64 (1 + (X.length : Int))) ∧ ∃ m, w' = w14.drewN m) := Lists.held_any w14 _ X.length 1 (by omega) (by omega) (by omega) (Lists.reads_row (L := sq 1 X.length) (by rw [sq_len]; exact G14.out))
  go_wp2_with fail
  refine K14.out.mono ?_
  rintro e w15 ⟨rfl, m15, hw⟩
  have B15 : Hid (Below w.heap.size w w15) := (by rw [hw]; exact below_drewN B14.out m15)
  clear hw K14
  go_wp2_with fail
  go_ret
  exact ⟨rfl, B15.out⟩
end Go.Proofs.Ytjoijffjnlencaa.No
