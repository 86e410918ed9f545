/- At: the law, walked. -/
import Derived.Test.YtnnljjkooookoaaAtP
import Derived.Test.YtnnljjkooookoaaAtQ
namespace Go.Proofs.Ytnnljjkooookoaa.Gd
open Go.ChangeShapes Go.WideShapes Go.ChangeAt Go.RowKit
open Go.Proofs.Ytnnljjkooookoaa.Flt

theorem sat_any (r c s ws st : Int) (L : List Nat) (v : Value) (lat lon : Int) (w : World) (hL : Fls.Reads w v L) (hb : ∀ z ∈ L, z < 18446744073709551616) :
    Calls Try.prog 4 #[gv r c s ws st, v, .int .i64 lat, .int .i64 lon] w fun e w' => ∃ x, e = .returned (.float .f64 x) ∧ cn x = atC r c s ws st L lat lon ∧ Below w.heap.size w w' := by
  unfold atC
  cases h : okAt r c s ws st L.length lat lon
  · obtain ⟨a, cap, rfl⟩ := hL.form
    exact sat_no r c s ws st a L.length cap lat lon w h
  · exact sat_in r c s ws st L v lat lon w hL hb h
theorem iat_any (r c s ws st : Int) (L : List Nat) (v : Value) (lat lon : Int) (w : World) (hL : Fls.Reads w v L) (hb : ∀ z ∈ L, z < 18446744073709551616) :
    Calls Try.prog 7 #[gv r c s ws st, v, .int .i64 lat, .int .i64 lon] w fun e w' => ∃ x, e = .returned (.float .f64 x) ∧ cn x = atC r c s ws st L lat lon ∧ Below w.heap.size w w' := by
  unfold atC
  cases h : okAt r c s ws st L.length lat lon
  · obtain ⟨a, cap, rfl⟩ := hL.form
    exact iat_no r c s ws st a L.length cap lat lon w h
  · exact iat_in r c s ws st L v lat lon w hL hb h

set_option maxRecDepth 20000 in
set_option maxHeartbeats 2000000 in
theorem atLaw (W : World) (r c s ws st : Int) (v : Value) (L : List Nat) (hL : Fls.Reads W v L) (hb : ∀ z ∈ L, z < 18446744073709551616) (lat lon : Int) :
    Calls Try.prog 3 #[gv r c s ws st, v, .int .i64 lat, .int .i64 lon] W fun e w' => e = .returned (.bool true) ∧ Below W.heap.size W w' := by
  obtain ⟨a, cap, rfl⟩ := hL.form
  by_cases far : 1048576 < L.length
  · have i1 : (1048576 : Int) < (L.length : Int) := by omega
    go_enter Try.func3, Try.ntmps3
    go_wp2_with fail
    go_ret
    exact ⟨rfl, (Below.refl _ _).alloc (Nat.le_refl _) _⟩
  have TG : Hid (∀ w, Calls Try.prog 5 #[gv r c s ws st] w fun e w' => e = .returned (gv r c s ws st) ∧ Below w.heap.size w w') := fun w => to1_any r c s ws st w
  have TF : Hid (∀ w, Below W.heap.size W w → Calls Try.prog 6 #[.slice a L.length cap] w fun e w' => ∃ v', e = .returned v' ∧ Fls.Reads w' v' L ∧ Below w.heap.size w w') := fun w hw => Fls.to_any w _ L (hL.on hw) (by omega)
  have SA : Hid (∀ (v : Value) (w : World), Fls.Reads w v L → Calls Try.prog 4 #[gv r c s ws st, v, .int .i64 lat, .int .i64 lon] w fun e w' => ∃ x, e = .returned (.float .f64 x) ∧ cn x = atC r c s ws st L lat lon ∧ Below w.heap.size w w') := fun v w h => sat_any r c s ws st L v lat lon w h hb
  have IA : Hid (∀ (v : Value) (w : World), Fls.Reads w v L → Calls Try.prog 7 #[gv r c s ws st, v, .int .i64 lat, .int .i64 lon] w fun e w' => ∃ x, e = .returned (.float .f64 x) ∧ cn x = atC r c s ws st L lat lon ∧ Below w.heap.size w w') := fun v w h => iat_any r c s ws st L v lat lon w h hb
  have EQ : Hid (∀ (v1 v2 : Value) (w : World), Fls.Reads w v1 L → Fls.Reads w v2 L → Calls Try.prog 9 #[v1, v2] w fun e w' => e = .returned (.bool true) ∧ ∃ n, w' = w.drewN n) := fun v1 v2 w h1 h2 => Fls.eq_cn w v1 v2 L L rfl h1 h2
  have i1 : ¬ (1048576 : Int) < (L.length : Int) := by omega
  obtain ⟨w0, hw0⟩ : ∃ w0, w0 = W.alloc (Obj.cells #[.int .i64 r, .int .i64 c, .int .i64 s, .int .i64 ws, .int .i64 st] 23) := ⟨_, rfl⟩
  have HW : Hid (w0 = W.alloc (Obj.cells #[.int .i64 r, .int .i64 c, .int .i64 s, .int .i64 ws, .int .i64 st] 23)) := hw0
  have B0 : Hid (Below W.heap.size W w0) := (by show Below _ _ _; rw [hw0]; exact (Below.refl _ _).alloc (Nat.le_refl _) _)
  have G0 : Gx w0 W.heap.size r c s ws st := by rw [hw0]; unfold Gx; simp [go_sem]
  have S0 : Hid (W.heap.size < w0.heap.size) := (by show _ < _; rw [hw0]; simp)
  generalize atC r c s ws st L lat lon = A at *
  obtain ⟨n, hn⟩ : ∃ n, n = L.length := ⟨_, rfl⟩
  rw [← hn] at TF i1 ⊢
  clear hL hb far hw0 hn
  obtain ⟨g0, g1, g2, g3, g4⟩ := G0
  go_enter Try.func3, Try.ntmps3
  go_wp2_with fail
  rw [← HW.out]
  clear i1 HW
  refine (TG.out _).mono ?_
  rintro e w1 ⟨rfl, b1⟩
  have B1 : Hid (Below W.heap.size W w1) := B0.out.trans (b1.mono B0.out.size)
  have S1 : Hid (W.heap.size < w1.heap.size) := Nat.lt_of_lt_of_le S0.out b1.size
  obtain ⟨h0, h1, h2, h3, h4⟩ := Gx.on (b := W.heap.size) ⟨g0, g1, g2, g3, g4⟩ b1 S0.out
  clear g0 g1 g2 g3 g4 b1
  go_wp2_with fail
  refine (TF.out _ B1.out).mono ?_
  rintro e w2 ⟨t1, rfl, R1, b2⟩
  have RR : Hid (Fls.Reads w2 t1 L) := R1
  have B2 : Hid (Below W.heap.size W w2) := B1.out.trans (b2.mono B1.out.size)
  have S2 : Hid (W.heap.size < w2.heap.size) := Nat.lt_of_lt_of_le S1.out b2.size
  obtain ⟨g0, g1, g2, g3, g4⟩ := Gx.on (b := W.heap.size) ⟨h0, h1, h2, h3, h4⟩ b2 S1.out
  clear h0 h1 h2 h3 h4 b2 R1
  go_wp2_with fail
  refine (SA.out _ _ RR.out).mono ?_
  rintro e w3 ⟨z1, rfl, hz1, b3⟩
  have Z1 : Hid (cn z1 = A) := hz1
  have B3 : Hid (Below W.heap.size W w3) := B2.out.trans (b3.mono B2.out.size)
  have S3 : Hid (W.heap.size < w3.heap.size) := Nat.lt_of_lt_of_le S2.out b3.size
  obtain ⟨h0, h1, h2, h3, h4⟩ := Gx.on (b := W.heap.size) ⟨g0, g1, g2, g3, g4⟩ b3 S2.out
  clear g0 g1 g2 g3 g4 b3 RR hz1
  go_wp2_with fail
  refine (TF.out _ B3.out).mono ?_
  rintro e w4 ⟨t2, rfl, R2, b4⟩
  have RR : Hid (Fls.Reads w4 t2 L) := R2
  have B4 : Hid (Below W.heap.size W w4) := B3.out.trans (b4.mono B3.out.size)
  have S4 : Hid (W.heap.size < w4.heap.size) := Nat.lt_of_lt_of_le S3.out b4.size
  obtain ⟨g0, g1, g2, g3, g4⟩ := Gx.on (b := W.heap.size) ⟨h0, h1, h2, h3, h4⟩ b4 S3.out
  clear h0 h1 h2 h3 h4 b4 R2
  go_wp2_with fail
  refine (TG.out _).mono ?_
  rintro e w5 ⟨rfl, b5⟩
  have RS : Hid (Fls.Reads w5 t2 L) := RR.out.on b5
  have B5 : Hid (Below W.heap.size W w5) := B4.out.trans (b5.mono B4.out.size)
  clear g0 g1 g2 g3 g4 b5 RR
  go_wp2_with fail
  refine (IA.out _ _ RS.out).mono ?_
  rintro e w6 ⟨z2, rfl, hz2, b6⟩
  have Z2 : Hid (cn z2 = A) := hz2
  have RT : Hid (Fls.Reads w6 t2 L) := RS.out.on b6
  have B6 : Hid (Below W.heap.size W w6) := B5.out.trans (b6.mono B5.out.size)
  clear b6 hz2 RS
  go_wp2_with fail
  refine (sf_cn z2 z1 _ (Z2.out.trans Z1.out.symm)).mono ?_
  rintro e w7 ⟨rfl, hw⟩
  have hw' := hw.symm
  subst hw'
  go_wp2_with fail
  refine (TF.out _ B6.out).mono ?_
  rintro e w8 ⟨t3, rfl, R3, b8⟩
  have RU : Hid (Fls.Reads w8 t2 L) := RT.out.on b8
  have RV : Hid (Fls.Reads w8 t3 L) := R3
  have B8 : Hid (Below W.heap.size W w8) := B6.out.trans (b8.mono B6.out.size)
  clear b8 R3 RT
  go_wp2_with fail
  refine (EQ.out _ _ _ RU.out RV.out).mono ?_
  rintro e w9 ⟨rfl, m, hw⟩
  have B9 : Hid (Below W.heap.size W w9) := (by show Below _ _ _; rw [hw]; exact below_drewN B8.out _)
  clear hw
  go_wp2_with fail
  go_ret
  exact ⟨rfl, B9.out⟩
end Go.Proofs.Ytnnljjkooookoaa.Gd
