/- Analyse: what is refused; the law. -/
import Derived.Test.YtchglmmeejonjaaAs
namespace Go.Proofs.Ytchglmmeejonjaa.An
open Go.ChangeShapes Go.WideShapes Go.ChangeAt Go.RowKit
open Go.Proofs.Ytchglmmeejonjaa.Flt Go.Proofs.Ytchglmmeejonjaa.Wa

attribute [local go_sem] Flt.run_store_float

set_option maxHeartbeats 1000000 in
theorem san_no10 (L : List Nat) (sp : Int) (v : Value) (w : World) (hL : Fls.Reads w v L) (_ : L.length < 9223372036854775808) (h : ¬ L.length = 36) :
    Calls Try.prog 16 #[v, .int .i64 sp] w fun e w' => ∃ x y, e = .returned (pr x y) ∧ cn x = qn ∧ cn y = qn ∧ Below w.heap.size w w' := by
  have C : Hid (∀ w, Calls Try.prog 23 #[] w fun e w' => ∃ b, e = .returned (.float .f64 b) ∧ cn b = qn ∧ b < 18446744073709551616 ∧ w' = w.drew) := fun w => none_any w
  obtain ⟨W, hW⟩ : ∃ W, W = w.alloc (Obj.cells #[.float .f64 0, .float .f64 0] 35) := ⟨_, rfl⟩
  have HW : Hid (W = w.alloc (Obj.cells #[.float .f64 0, .float .f64 0] 35)) := hW
  have BW : Hid (Below w.heap.size w W) := (by rw [hW]; exact (Below.refl _ _).alloc (Nat.le_refl _) _)
  have XW : Hid (Bx W w.heap.size (.float .f64 0) (.float .f64 0)) := (by rw [hW]; exact Bx.new w _ _ _)
  obtain ⟨a, cap, rfl⟩ := hL.form
  have e1 : (((L.length : Nat) : Int) != 36) = true := by simp; omega
  clear hL hW h
  generalize L.length = n at *
  go_enter Try.func16, Try.ntmps16
  go_wp2_with fail
  rw [← HW.out]
  refine (C.out _).mono ?_
  rintro e w1 ⟨b1, rfl, hb1, _, hw1⟩
  have N1 : Hid (cn b1 = qn) := hb1
  have hw1' := hw1
  subst hw1'
  clear hb1 hw1
  go_wp2_with fail
  refine (C.out _).mono ?_
  rintro e w2 ⟨b2, rfl, hb2, _, hw2⟩
  have N2 : Hid (cn b2 = qn) := hb2
  have X2 : Hid (Bx w2 w.heap.size (.float .f64 0) (.float .f64 0)) := (by rw [hw2]; exact XW.out.drewN 2)
  have B2 : Hid (Below w.heap.size w w2) := (by rw [hw2]; exact below_drewN BW.out 2)
  clear hb2 hw2
  obtain ⟨x0, x1, x2, x3, x4⟩ := X2.out
  go_wp2_with fail
  refine bodyPost_ret (v := pr b1 b2) (by simp [results, Try.results16, go_sem, x0, x1]) rfl ⟨_, _, rfl, N1.out, N2.out, ?_⟩
  exact (B2.out.setCell (p := ⟨w.heap.size, 0, none⟩) (Nat.le_refl _) _).setCell (p := ⟨w.heap.size, 1, none⟩) (Nat.le_refl _) _

set_option maxHeartbeats 1000000 in
theorem san_no11 (L : List Nat) (sp : Int) (v : Value) (w : World) (hL : Fls.Reads w v L) (_ : L.length < 9223372036854775808) (h : L.length = 36) (h2 : inn sp 1 17 = false) :
    Calls Try.prog 16 #[v, .int .i64 sp] w fun e w' => ∃ x y, e = .returned (pr x y) ∧ cn x = qn ∧ cn y = qn ∧ Below w.heap.size w w' := by
  have D0 : Hid (∀ w, Calls Try.prog 34 #[.int .i64 sp, .int .i64 1, .int .i64 17] w fun e w' => e = .returned (.bool false) ∧ w' = w) := fun w => by have := sin_any sp 1 17 w; rw [h2] at this; exact this
  have C : Hid (∀ w, Calls Try.prog 23 #[] w fun e w' => ∃ b, e = .returned (.float .f64 b) ∧ cn b = qn ∧ b < 18446744073709551616 ∧ w' = w.drew) := fun w => none_any w
  obtain ⟨W, hW⟩ : ∃ W, W = w.alloc (Obj.cells #[.float .f64 0, .float .f64 0] 35) := ⟨_, rfl⟩
  have HW : Hid (W = w.alloc (Obj.cells #[.float .f64 0, .float .f64 0] 35)) := hW
  have BW : Hid (Below w.heap.size w W) := (by rw [hW]; exact (Below.refl _ _).alloc (Nat.le_refl _) _)
  have XW : Hid (Bx W w.heap.size (.float .f64 0) (.float .f64 0)) := (by rw [hW]; exact Bx.new w _ _ _)
  obtain ⟨a, cap, rfl⟩ := hL.form
  rw [h]
  clear hL hW h h2
  go_enter Try.func16, Try.ntmps16
  go_wp2_with fail
  rw [← HW.out]
  refine (D0.out _).mono ?_
  rintro e w0 ⟨rfl, hw⟩
  have hw' := hw.symm
  subst hw'
  go_wp2_with fail
  refine (C.out _).mono ?_
  rintro e w1 ⟨b1, rfl, hb1, _, hw1⟩
  have N1 : Hid (cn b1 = qn) := hb1
  have hw1' := hw1
  subst hw1'
  clear hb1 hw1
  go_wp2_with fail
  refine (C.out _).mono ?_
  rintro e w2 ⟨b2, rfl, hb2, _, hw2⟩
  have N2 : Hid (cn b2 = qn) := hb2
  have X2 : Hid (Bx w2 w.heap.size (.float .f64 0) (.float .f64 0)) := (by rw [hw2]; exact XW.out.drewN 2)
  have B2 : Hid (Below w.heap.size w w2) := (by rw [hw2]; exact below_drewN BW.out 2)
  clear hb2 hw2
  obtain ⟨x0, x1, x2, x3, x4⟩ := X2.out
  go_wp2_with fail
  refine bodyPost_ret (v := pr b1 b2) (by simp [results, Try.results16, go_sem, x0, x1]) rfl ⟨_, _, rfl, N1.out, N2.out, ?_⟩
  exact (B2.out.setCell (p := ⟨w.heap.size, 0, none⟩) (Nat.le_refl _) _).setCell (p := ⟨w.heap.size, 1, none⟩) (Nat.le_refl _) _

set_option maxHeartbeats 1000000 in
theorem ian_no10 (L : List Nat) (sp : Int) (v : Value) (w : World) (hL : Fls.Reads w v L) (_ : L.length < 9223372036854775808) (h : ¬ L.length = 36) :
    Calls Try.prog 18 #[v, .int .i64 sp] w fun e w' => ∃ x y, e = .returned (pr x y) ∧ cn x = qn ∧ cn y = qn ∧ Below w.heap.size w w' := by
  have C : Hid (∀ w, Calls Try.prog 37 #[] w fun e w' => e = .returned (pr qn qn) ∧ Below w.heap.size w w') := fun w => imiss w
  obtain ⟨W, hW⟩ : ∃ W, W = w.alloc (Obj.cells #[.float .f64 0, .float .f64 0] 35) := ⟨_, rfl⟩
  have HW : Hid (W = w.alloc (Obj.cells #[.float .f64 0, .float .f64 0] 35)) := hW
  have BW : Hid (Below w.heap.size w W) := (by rw [hW]; exact (Below.refl _ _).alloc (Nat.le_refl _) _)
  have XW : Hid (Bx W w.heap.size (.float .f64 0) (.float .f64 0)) := (by rw [hW]; exact Bx.new w _ _ _)
  obtain ⟨a, cap, rfl⟩ := hL.form
  have e1 : (((L.length : Nat) : Int) != 36) = true := by simp; omega
  clear hL hW h
  generalize L.length = n at *
  go_enter Try.func18, Try.ntmps18
  go_wp2_with fail
  rw [← HW.out]
  refine (C.out _).mono ?_
  rintro e w1 ⟨rfl, hb⟩
  obtain ⟨x0, x1, x2, x3, x4⟩ := XW.out.on hb
  have B1 : Hid (Below w.heap.size w w1) := BW.out.trans (hb.mono BW.out.size)
  clear hb
  go_wp2_with fail
  refine bodyPost_ret (v := pr qn qn) (by simp [results, Try.results18, go_sem, x0, x1]) rfl ⟨_, _, rfl, cn_nan nan_qn, cn_nan nan_qn, ?_⟩
  exact (B1.out.setCell (p := ⟨w.heap.size, 0, none⟩) (Nat.le_refl _) _).setCell (p := ⟨w.heap.size, 1, none⟩) (Nat.le_refl _) _

set_option maxHeartbeats 1000000 in
theorem ian_no11 (L : List Nat) (sp : Int) (v : Value) (w : World) (hL : Fls.Reads w v L) (_ : L.length < 9223372036854775808) (h : L.length = 36) (h2 : inn sp 1 17 = false) :
    Calls Try.prog 18 #[v, .int .i64 sp] w fun e w' => ∃ x y, e = .returned (pr x y) ∧ cn x = qn ∧ cn y = qn ∧ Below w.heap.size w w' := by
  have D0 : Hid (∀ w, Calls Try.prog 36 #[.int .i64 sp, .int .i64 1, .int .i64 17] w fun e w' => e = .returned (.bool false) ∧ w' = w) := fun w => by have := win_any sp 1 17 w; rw [h2] at this; exact this
  have C : Hid (∀ w, Calls Try.prog 37 #[] w fun e w' => e = .returned (pr qn qn) ∧ Below w.heap.size w w') := fun w => imiss w
  obtain ⟨W, hW⟩ : ∃ W, W = w.alloc (Obj.cells #[.float .f64 0, .float .f64 0] 35) := ⟨_, rfl⟩
  have HW : Hid (W = w.alloc (Obj.cells #[.float .f64 0, .float .f64 0] 35)) := hW
  have BW : Hid (Below w.heap.size w W) := (by rw [hW]; exact (Below.refl _ _).alloc (Nat.le_refl _) _)
  have XW : Hid (Bx W w.heap.size (.float .f64 0) (.float .f64 0)) := (by rw [hW]; exact Bx.new w _ _ _)
  obtain ⟨a, cap, rfl⟩ := hL.form
  rw [h]
  clear hL hW h h2
  go_enter Try.func18, Try.ntmps18
  go_wp2_with fail
  rw [← HW.out]
  refine (D0.out _).mono ?_
  rintro e w0 ⟨rfl, hw⟩
  have hw' := hw.symm
  subst hw'
  go_wp2_with fail
  refine (C.out _).mono ?_
  rintro e w1 ⟨rfl, hb⟩
  obtain ⟨x0, x1, x2, x3, x4⟩ := XW.out.on hb
  have B1 : Hid (Below w.heap.size w w1) := BW.out.trans (hb.mono BW.out.size)
  clear hb
  go_wp2_with fail
  refine bodyPost_ret (v := pr qn qn) (by simp [results, Try.results18, go_sem, x0, x1]) rfl ⟨_, _, rfl, cn_nan nan_qn, cn_nan nan_qn, ?_⟩
  exact (B1.out.setCell (p := ⟨w.heap.size, 0, none⟩) (Nat.le_refl _) _).setCell (p := ⟨w.heap.size, 1, none⟩) (Nat.le_refl _) _

theorem san_any (L : List Nat) (sp : Int) (v : Value) (w : World) (hL : Fls.Reads w v L) (hf : L.length < 9223372036854775808) :
    Calls Try.prog 16 #[v, .int .i64 sp] w fun e w' => ∃ x y, e = .returned (pr x y) ∧ cn x = A0 L sp ∧ cn y = A1 L sp ∧ Below w.heap.size w w' := by
  unfold A0 A1 fit
  by_cases h : L.length = 36
  · cases h2 : inn sp 1 17
    · rw [h]; simpa using san_no11 L sp v w hL hf h h2
    · rw [h]; simpa using san_yes L sp v w hL h h2
  · simpa [h] using san_no10 L sp v w hL hf h

theorem ian_any (L : List Nat) (sp : Int) (v : Value) (w : World) (hL : Fls.Reads w v L) (hf : L.length < 9223372036854775808) :
    Calls Try.prog 18 #[v, .int .i64 sp] w fun e w' => ∃ x y, e = .returned (pr x y) ∧ cn x = A0 L sp ∧ cn y = A1 L sp ∧ Below w.heap.size w w' := by
  unfold A0 A1 fit
  by_cases h : L.length = 36
  · cases h2 : inn sp 1 17
    · rw [h]; simpa using ian_no11 L sp v w hL hf h h2
    · rw [h]; simpa using ian_yes L sp v w hL h h2
  · simpa [h] using ian_no10 L sp v w hL hf h

set_option maxRecDepth 20000 in
set_option maxHeartbeats 2000000 in
theorem analyseLaw (w : World) (v : Value) (L : List Nat) (hL : Fls.Reads w v L) (hf : L.length < 9223372036854775808) (sp : Int) :
    Calls Try.prog 5 #[v, .int .i64 sp] w fun e w' => e = .returned (.bool true) ∧ Below w.heap.size w w' := by
  obtain ⟨a, cap, rfl⟩ := hL.form
  by_cases g0 : 1048576 < L.length
  · have i1 : (1048576 : Int) < (L.length : Int) := by omega
    go_enter Try.func5, Try.ntmps5
    go_wp2_with fail
    go_ret
    exact ⟨rfl, Below.refl _ _⟩
  have j0 : ¬ (1048576 : Int) < (L.length : Int) := by omega
  have TO : Hid (∀ w', Below w.heap.size w w' → Calls Try.prog 17 #[.slice a L.length cap] w' fun e w'' => ∃ u, e = .returned u ∧ Fls.Reads w'' u L ∧ Below w'.heap.size w' w'') := fun w' hb => Fls.to_any w' _ L (hL.on hb) (by omega)
  have SU : Hid (∀ w' t, Fls.Reads w' t L → Calls Try.prog 16 #[t, .int .i64 sp] w' fun e w'' => ∃ x y, e = .returned (pr x y) ∧ cn x = A0 L sp ∧ cn y = A1 L sp ∧ Below w'.heap.size w' w'') := fun w' t h => san_any L sp t w' h hf
  have IU : Hid (∀ w' t, Fls.Reads w' t L → Calls Try.prog 18 #[t, .int .i64 sp] w' fun e w'' => ∃ x y, e = .returned (pr x y) ∧ cn x = A0 L sp ∧ cn y = A1 L sp ∧ Below w'.heap.size w' w'') := fun w' t h => ian_any L sp t w' h hf
  have EQ : Hid (∀ w' t u, Fls.Reads w' t L → Fls.Reads w' u L → Calls Try.prog 20 #[t, u] w' fun e w'' => e = .returned (.bool true) ∧ Below w'.heap.size w' w'') := fun w' t u h h' => by
    refine (Fls.eq_cn w' t u L L rfl h h').mono ?_
    rintro e w'' ⟨rfl, m, rfl⟩
    exact ⟨rfl, below_drewN (Below.refl _ _) m⟩
  have EP : Hid (∀ x y x' y' w', cn x = A0 L sp → cn y = A1 L sp → cn x' = A0 L sp → cn y' = A1 L sp → Calls Try.prog 19 #[pr x y, pr x' y'] w' fun e w'' => e = .returned (.bool true) ∧ Below w'.heap.size w' w'') := fun x y x' y' w' h1 h2 h3 h4 => eqPair_any x y x' y' w' (h1.trans h3.symm) (h2.trans h4.symm)
  have BW : Hid (Below w.heap.size w w) := Below.refl _ _
  clear hL
  go_enter Try.func5, Try.ntmps5
  go_wp2_with fail
  refine (TO.out w BW.out).mono ?_
  rintro e w1 ⟨u1, rfl, r1, b1⟩
  have R1 : Hid (Fls.Reads w1 u1 L) := r1
  have B1 : Hid (Below w.heap.size w w1) := b1
  clear r1 b1
  go_wp2_with fail
  refine (SU.out w1 _ R1.out).mono ?_
  rintro e w2 ⟨x, y, rfl, hx, hy, b2⟩
  have HX : Hid (cn x = A0 L sp ∧ cn y = A1 L sp) := ⟨hx, hy⟩
  have B2 : Below w.heap.size w w2 := B1.out.trans (b2.mono B1.out.size)
  clear hx hy b2
  obtain ⟨w3, h3⟩ : ∃ w3, w3 = w2.alloc (Obj.cells #[.float .f64 x, .float .f64 y] 35) := ⟨_, rfl⟩
  have H3 : Hid (w3 = w2.alloc (Obj.cells #[.float .f64 x, .float .f64 y] 35)) := h3
  have B3 : Hid (Below w.heap.size w w3) := (by rw [h3]; exact B2.alloc B2.size _)
  have X3 : Hid (Bx w3 w2.heap.size (.float .f64 x) (.float .f64 y)) := (by rw [h3]; exact Bx.new w2 _ _ _)
  clear h3 B2 R1
  go_wp2_with fail
  rw [← H3.out]
  refine (TO.out w3 B3.out).mono ?_
  rintro e w4 ⟨u4, rfl, r4, b4⟩
  have R4 : Hid (Fls.Reads w4 u4 L) := r4
  have B4 : Hid (Below w.heap.size w w4) := B3.out.trans (b4.mono B3.out.size)
  have X4 : Hid (Bx w4 w2.heap.size (.float .f64 x) (.float .f64 y)) := X3.out.on b4
  clear r4 b4 H3
  go_wp2_with fail
  refine (IU.out w4 _ R4.out).mono ?_
  rintro e w5 ⟨x', y', rfl, hx, hy, b5⟩
  have HX' : Hid (cn x' = A0 L sp ∧ cn y' = A1 L sp) := ⟨hx, hy⟩
  have B5 : Below w.heap.size w w5 := B4.out.trans (b5.mono B4.out.size)
  have R5 : Fls.Reads w5 u4 L := R4.out.on b5
  have X5 : Bx w5 w2.heap.size (.float .f64 x) (.float .f64 y) := X4.out.on b5
  clear hx hy b5
  obtain ⟨w6, h6⟩ : ∃ w6, w6 = w5.alloc (Obj.cells #[.float .f64 x', .float .f64 y'] 35) := ⟨_, rfl⟩
  have H6 : Hid (w6 = w5.alloc (Obj.cells #[.float .f64 x', .float .f64 y'] 35)) := h6
  have B56 : Below w5.heap.size w5 w6 := (by rw [h6]; exact (Below.refl _ _).alloc (Nat.le_refl _) _)
  have B6 : Hid (Below w.heap.size w w6) := B5.trans (B56.mono B5.size)
  have R6 : Hid (Fls.Reads w6 u4 L) := R5.on B56
  obtain ⟨p0, p1, _, _, p4⟩ := X5.on B56
  obtain ⟨q0, q1, _, _, q4⟩ : Bx w6 w5.heap.size (.float .f64 x') (.float .f64 y') := by rw [h6]; exact Bx.new w5 _ _ _
  have ne1 : w2.heap.size < w5.heap.size := X5.2.2.2.2
  have c50 := X5.1
  have c51 := X5.2.1
  clear h6 B5 B56 R5 X5 R4 X4
  go_wp2_with fail
  rw [← H6.out]
  refine (EP.out x' y' x y w6 HX'.out.1 HX'.out.2 HX.out.1 HX.out.2).mono ?_
  rintro e w7 ⟨rfl, b7⟩
  have B7 : Hid (Below w.heap.size w w7) := B6.out.trans (b7.mono B6.out.size)
  have R7 : Hid (Fls.Reads w7 u4 L) := R6.out.on b7
  clear b7 H6 p0 p1 p4 q0 q1 q4 c50 c51 ne1
  go_wp2_with fail
  refine (TO.out w7 B7.out).mono ?_
  rintro e w8 ⟨u8, rfl, r8, b8⟩
  have R8 : Hid (Fls.Reads w8 u8 L) := r8
  have S8 : Hid (Fls.Reads w8 u4 L) := R7.out.on b8
  have B8 : Hid (Below w.heap.size w w8) := B7.out.trans (b8.mono B7.out.size)
  clear r8 b8
  go_wp2_with fail
  refine (EQ.out w8 _ _ S8.out R8.out).mono ?_
  rintro e w9 ⟨rfl, b9⟩
  have B9 : Hid (Below w.heap.size w w9) := B8.out.trans (b9.mono B8.out.size)
  clear b9
  go_wp2_with fail
  go_ret
  exact ⟨rfl, B9.out⟩
theorem fits {w : World} {v : Value} {L : List Nat} (h : Fls.Reads w v L) : L.length < 9223372036854775808 := by
  rcases h with ⟨rfl, _⟩ | ⟨b, o, c, _, h1, h2, _⟩
  · decide
  · unfold maxLen at h2; omega
theorem analyseAll (w : World) (v : Value) (L : List Nat) (hL : Fls.Reads w v L) (_ : ∀ z ∈ L, z < 18446744073709551616) (sp : Int) :
    Calls Try.prog 5 #[v, .int .i64 sp] w fun e w' => e = .returned (.bool true) ∧ Below w.heap.size w w' := analyseLaw w v L hL (fits hL) sp
end Go.Proofs.Ytchglmmeejonjaa.An
