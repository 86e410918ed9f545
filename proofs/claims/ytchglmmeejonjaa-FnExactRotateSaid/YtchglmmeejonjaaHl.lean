/- Heights: what the model refuses; the law. -/
import Derived.Test.YtchglmmeejonjaaHm
import Derived.Test.YtchglmmeejonjaaCoArg
namespace Go.Proofs.Ytchglmmeejonjaa.Ho
open Go.ChangeShapes Go.WideShapes Go.ChangeAt Go.RowKit
open Go.Proofs.Ytchglmmeejonjaa.Flt Go.Proofs.Ytchglmmeejonjaa.Wa Go.Proofs.Ytchglmmeejonjaa.An Go.Proofs.Ytchglmmeejonjaa.Co

attribute [local go_sem] Flt.run_store_float
set_option maxHeartbeats 1000000 in
theorem shei_no (L : Co.Ls) (h : Int) (v : Value) (w : World) (hL : Co.Reads w v L) (hno : okP L = false ∨ (okP L = true ∧ inn h (-1000000) 1000000 = false)) :
    Calls Try.prog 7 #[v, .int .i64 h] w fun e w' => ∃ x, e = .returned (.float .f64 x) ∧ cn x = qn ∧ Below w.heap.size w w' := by
  have C : Hid (Calls Try.prog 21 #[v] w fun e w' => e = .returned (.bool (okP L)) ∧ Below w.heap.size w w') := sok_any L v w hL
  have C2 : Hid (∀ w, Calls Try.prog 22 #[.int .i64 h] w fun e w' => e = .returned (.bool (inn h (-1000000) 1000000)) ∧ w' = w) := fun w => shour h w
  have C3 : Hid (∀ w, Calls Try.prog 23 #[] w fun e w' => ∃ b, e = .returned (.float .f64 b) ∧ cn b = qn ∧ b < 18446744073709551616 ∧ w' = w.drew) := fun w => none_any w
  obtain ⟨a, cap, rfl⟩ := hL.form
  clear hL
  generalize L.length = n at *
  rcases hno with ho | ⟨ho, hi⟩
  · rw [ho] at C
    clear ho
    go_enter Try.func7, Try.ntmps7
    go_wp2_with fail
    refine C.out.mono ?_
    rintro e w1 ⟨rfl, hb⟩
    have B1 : Hid (Below w.heap.size w w1) := hb
    clear hb
    go_wp2_with fail
    refine (C3.out _).mono ?_
    rintro e w2 ⟨x, rfl, hx, _, hw⟩
    have HX : Hid (cn x = qn) := hx
    have B2 : Hid (Below w.heap.size w w2) := (by rw [hw]; exact B1.out.drew)
    clear hx hw
    go_wp2_with fail
    go_ret
    exact ⟨x, rfl, HX.out, B2.out⟩
  · rw [ho] at C
    rw [hi] at C2
    clear ho hi
    go_enter Try.func7, Try.ntmps7
    go_wp2_with fail
    refine C.out.mono ?_
    rintro e w1 ⟨rfl, hb⟩
    have B1 : Hid (Below w.heap.size w w1) := hb
    clear hb
    go_wp2_with fail
    refine (C2.out _).mono ?_
    rintro e w2 ⟨rfl, hw⟩
    have hw' := hw.symm
    subst hw'
    go_wp2_with fail
    refine (C3.out _).mono ?_
    rintro e w2 ⟨x, rfl, hx, _, hw⟩
    have HX : Hid (cn x = qn) := hx
    have B2 : Hid (Below w.heap.size w w2) := (by rw [hw]; exact B1.out.drew)
    clear hx hw
    go_wp2_with fail
    go_ret
    exact ⟨x, rfl, HX.out, B2.out⟩
theorem shei_any (L : Co.Ls) (h : Int) (v : Value) (w : World) (hL : Co.Reads w v L) :
    Calls Try.prog 7 #[v, .int .i64 h] w fun e w' => ∃ x, e = .returned (.float .f64 x) ∧ cn x = H0 L h ∧ Below w.heap.size w w' := by
  unfold H0
  cases ho : okP L
  · simpa using shei_no L h v w hL (Or.inl ho)
  · cases hi : inn h (-1000000) 1000000
    · simpa using shei_no L h v w hL (Or.inr ⟨ho, hi⟩)
    · simpa using shei_yes L h v w hL ho hi

set_option maxRecDepth 20000 in
set_option maxHeartbeats 2000000 in
theorem heightLaw (w : World) (v : Value) (L : Co.Ls) (hL : Co.Reads w v L) (h : Int) :
    Calls Try.prog 3 #[v, .int .i64 h] w fun e w' => e = .returned (.bool true) ∧ Below w.heap.size w w' := by
  have hf := hL.fits
  obtain ⟨a, cap, rfl⟩ := hL.form
  by_cases g0 : L.length ≤ 1048576
  · have Z : Hid (Calls Try.prog 6 #[.slice a L.length cap, .int .i64 1048576] w fun e w' => e = .returned (.int .i64 (1048576 - (L.length : Int))) ∧ w' = w) := Co.sz_near _ _ _ _ w (by omega) (by omega)
    have j0 : ¬ (1048576 : Int) - (L.length : Int) < 0 := by omega
    have TO : Hid (∀ w', Below w.heap.size w w' → Calls Try.prog 8 #[.slice a L.length cap] w' fun e w'' => ∃ u, e = .returned u ∧ Co.Reads w'' u L ∧ Below w'.heap.size w' w'') := fun w' hb => by
      refine (Co.to_own w' _ L (hL.on hb) g0).mono ?_
      rintro e w'' ⟨u, rfl, h1, h2⟩
      exact ⟨u, rfl, h1.reads, h2⟩
    have SU : Hid (∀ w' t, Co.Reads w' t L → Calls Try.prog 7 #[t, .int .i64 h] w' fun e w'' => ∃ x, e = .returned (.float .f64 x) ∧ cn x = H0 L h ∧ Below w'.heap.size w' w'') := fun w' t hr => shei_any L h t w' hr
    have IU : Hid (∀ w' t, Co.Reads w' t L → Calls Try.prog 9 #[t, .int .i64 h] w' fun e w'' => ∃ x, e = .returned (.float .f64 x) ∧ cn x = H0 L h ∧ Below w'.heap.size w' w'') := fun w' t hr => ihei_any L h t w' hr
    have EQ : Hid (∀ w' t u, Co.Reads w' t L → Co.Reads w' u L → Calls Try.prog 11 #[t, u] w' fun e w'' => e = .returned (.bool true) ∧ Below w'.heap.size w' w'') := fun w' t u h1 h2 => Co.eq_same w' t u L h1 h2
    have EP : Hid (∀ x y w', cn x = H0 L h → cn y = H0 L h → Calls Try.prog 10 #[.float .f64 x, .float .f64 y] w' fun e w'' => e = .returned (.bool true) ∧ w'' = w') := fun x y w' h1 h2 => sf_cn x y w' (h1.trans h2.symm)
    have BW : Hid (Below w.heap.size w w) := Below.refl _ _
    clear hL
    generalize L.length = n at *
    go_enter Try.func3, Try.ntmps3
    go_wp2_with fail
    refine Z.out.mono ?_
    rintro e w0 ⟨rfl, hw⟩
    have hw' := hw.symm
    subst hw'
    go_wp2_with fail
    refine (TO.out w BW.out).mono ?_
    rintro e w1 ⟨u1, rfl, r1, b1⟩
    have R1 : Hid (Co.Reads w1 u1 L) := r1
    have B1 : Hid (Below w.heap.size w w1) := b1
    clear r1 b1
    go_wp2_with fail
    refine (SU.out w1 _ R1.out).mono ?_
    rintro e w2 ⟨x, rfl, hx, b2⟩
    have HX : Hid (cn x = H0 L h) := hx
    have B2 : Hid (Below w.heap.size w w2) := B1.out.trans (b2.mono B1.out.size)
    clear hx b2 R1
    go_wp2_with fail
    refine (TO.out w2 B2.out).mono ?_
    rintro e w4 ⟨u4, rfl, r4, b4⟩
    have R4 : Hid (Co.Reads w4 u4 L) := r4
    have B4 : Hid (Below w.heap.size w w4) := B2.out.trans (b4.mono B2.out.size)
    clear r4 b4
    go_wp2_with fail
    refine (IU.out w4 _ R4.out).mono ?_
    rintro e w5 ⟨y, rfl, hy, b5⟩
    have HY : Hid (cn y = H0 L h) := hy
    have B5 : Hid (Below w.heap.size w w5) := B4.out.trans (b5.mono B4.out.size)
    have R5 : Hid (Co.Reads w5 u4 L) := R4.out.on b5
    clear hy b5 R4
    go_wp2_with fail
    refine (EP.out y x w5 HY.out HX.out).mono ?_
    rintro e w6 ⟨rfl, hw⟩
    have hw' := hw.symm
    subst hw'
    go_wp2_with fail
    refine (TO.out w5 B5.out).mono ?_
    rintro e w8 ⟨u8, rfl, r8, b8⟩
    have R8 : Hid (Co.Reads w8 u8 L) := r8
    have S8 : Hid (Co.Reads w8 u4 L) := R5.out.on b8
    have B8 : Hid (Below w.heap.size w w8) := B5.out.trans (b8.mono B5.out.size)
    clear r8 b8
    go_wp2_with fail
    refine (EQ.out w8 _ _ S8.out R8.out).mono ?_
    rintro e w9 ⟨rfl, b9⟩
    have B9 : Hid (Below w.heap.size w w9) := B8.out.trans (b9.mono B8.out.size)
    clear b9
    go_wp2_with fail
    go_ret
    exact ⟨rfl, B9.out⟩
  · have Z : Hid (Calls Try.prog 6 #[.slice a L.length cap, .int .i64 1048576] w fun e w' => e = .returned (.int .i64 (-1)) ∧ w' = w) := Co.sz_far _ _ _ _ w (by omega) (by omega) (by omega) hf
    clear hL
    generalize L.length = n at *
    go_enter Try.func3, Try.ntmps3
    go_wp2_with fail
    refine Z.out.mono ?_
    rintro e w0 ⟨rfl, hw⟩
    subst hw
    go_wp2_with fail
    go_ret
    exact ⟨rfl, Below.refl _ _⟩
theorem heightAll (w : World) (v : Value) (L : Co.Ls) (hL : Co.Reads w v L) (_ : Co.Fit L) (h : Int) :
    Calls Try.prog 3 #[v, .int .i64 h] w fun e w' => e = .returned (.bool true) ∧ Below w.heap.size w w' := heightLaw w v L hL h
end Go.Proofs.Ytchglmmeejonjaa.Ho
