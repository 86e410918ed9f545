/- What a step keeps of a soil, and that it comes back from its text: the law, walked. -/
import Derived.Test.YtgimdhdioigmiaaDoorDt
import Derived.Test.YtgimdhdioigmiaaDoorRsL
namespace Go.Proofs.YtgimdhdioigmiaaDoor.Kl
open Go.ChangeShapes Go.WideShapes Go.ChangeAt Go.RowKit
open Go.Proofs.YtgimdhdioigmiaaDoor.So Go.Proofs.YtgimdhdioigmiaaDoor.Rd Go.Proofs.YtgimdhdioigmiaaDoor.Ds Go.Proofs.YtgimdhdioigmiaaDoor.Rs
theorem step_keeps {a b c d f t r : Int} (h : okT a b c d f t r = true) : ∃ x0 x1 x2 x3 x4 : Int, res a b c d f t r = sv x0 x1 x2 x3 x4 ∧ okB x0 x1 x2 x3 x4 = true ∧ x4 = f + r ∧ d ≤ x3 ∧ (0 ≤ r ∧ r ≤ 5000) ∧ (0 ≤ f ∧ f ≤ 1000000000000) := by
  obtain ⟨o0, o1, o2, o3⟩ := okT_parts h
  obtain ⟨p1, p2, p3, p4, p5, p6⟩ := okB_parts o0
  rw [inn_iff] at o1 o2
  refine ⟨_, _, _, _, _, rfl, ?_, rfl, ?_, o2, p5⟩
  · have ha := a1_bd (t := t) p1 o2
    have hb := b1_bd (t := t) p2 o2
    have hab : a1 a t r + b1 b t r = a + b + r := by unfold a1 b1; split <;> omega
    have hm : 0 ≤ ml1 a t r ∧ ml1 a t r ≤ a1 a t r := by
      unfold ml1
      split
      · have := ml_bd ha.1 (by assumption); omega
      · omega
    have hb2 : 0 ≤ b2 a b t r := by unfold b2; omega
    have hd : 0 ≤ dr1 a b t r ∧ dr1 a b t r ≤ b2 a b t r := by
      unfold dr1
      split
      · have := dr_bd hb2 (by assumption); omega
      · omega
    have e2 : b2 a b t r = b1 b t r + ml1 a t r := rfl
    have e3 : b3 a b t r = b2 a b t r - dr1 a b t r := rfl
    have ed : d3 a b d t r = d + dr1 a b t r := rfl
    generalize a1 a t r = A at *
    generalize b1 b t r = B at *
    generalize ml1 a t r = M at *
    generalize dr1 a b t r = D at *
    generalize b2 a b t r = B2 at *
    generalize b3 a b t r = B3 at *
    generalize d3 a b d t r = D3 at *
    have hn : 0 ≤ dn B3 c ∧ dn B3 c ≤ B3 ∧ c + dn B3 c ≤ 1500 := by unfold dn; omega
    generalize dn B3 c = Dn at *
    have ho : 0 ≤ ov (B3 - Dn) ∧ B3 - Dn - ov (B3 - Dn) ≤ 400 ∧ 0 ≤ B3 - Dn - ov (B3 - Dn) := by unfold ov; omega
    generalize ov (B3 - Dn) = Ov at *
    unfold okB inn
    simp only [Bool.and_eq_true, decide_eq_true_eq]
    omega
  · have hb := b1_bd (t := t) p2 o2
    have ha := a1_bd (t := t) p1 o2
    have hm : 0 ≤ ml1 a t r := by
      unfold ml1
      split
      · have := ml_bd ha.1 (by assumption); omega
      · omega
    have hb2 : 0 ≤ b2 a b t r := by unfold b2; omega
    have hd : 0 ≤ dr1 a b t r ∧ dr1 a b t r ≤ b2 a b t r := by
      unfold dr1
      split
      · have := dr_bd hb2 (by assumption); omega
      · omega
    have e3 : b3 a b t r = b2 a b t r - dr1 a b t r := rfl
    have ed : d3 a b d t r = d + dr1 a b t r := rfl
    generalize dr1 a b t r = D at *
    generalize b2 a b t r = B2 at *
    generalize b3 a b t r = B3 at *
    generalize d3 a b d t r = D3 at *
    have hn : 0 ≤ dn B3 c := by unfold dn; omega
    generalize dn B3 c = Dn at *
    have ho : 0 ≤ ov (B3 - Dn) := by unfold ov; omega
    generalize ov (B3 - Dn) = Ov at *
    omega
theorem held25 : Tryd.prog.stoodInHeld 25 = false := by kernel_rfl
theorem under25 : Tryd.prog.underlying 25 = some (.struct (Tryd.prog.fieldsOf 25)) := by kernel_rfl
theorem eq5 (a b c d f : Int) (w : World) : (binOp .eql 25 (sv a b c d f) (sv a b c d f)).run Tryd.prog w = .ok (.bool true) w := by
  rw [run_eql_struct, run_equalIn_struct w 9999 25 _ _ under25 held25]
  simp only [Program.fieldsOf, Tryd.underlying25]
  simp [go_sem, Op.eqFields, part]
theorem guard25 : Tryd.prog.eqGuardType Tryd.prog.depth 25 = false := by kernel_rfl
theorem itext_yes' (a b c d f : Int) (w : World) (hT : Tb w) (h : okB a b c d f = true) : Calls Tryd.prog 9 #[sv a b c d f] w fun e w' => e = .returned (.string ⟨(tx a b c d f).toArray⟩) ∧ Below w.heap.size w w' := itext_yes a b c d f w hT h
set_option maxRecDepth 20000 in
set_option maxHeartbeats 2000000 in
theorem keptLaw (ad : Option Addr) (n cap : Nat) (w : World) (hT : Tb3 w) (hc : Rd.Code w ad n cap) (hn : n < 9223372036854775808) : Calls Tryd.prog 3 #[.slice ad n cap] w fun e w' => e = .returned (.bool true) ∧ Below w.heap.size w w' := by
  by_cases far : 1048576 < n
  · have BY : Hid (∀ w, Calls Tryd.prog 4 #[.slice ad n cap] w fun e w' => e = .returned (.bool true) ∧ w' = w) := fun w => big_yes ad n cap w far hn
    go_enter Tryd.func3, Tryd.ntmps3
    go_wp2_with (go_at_call 4; refine (BY.out _).mono ?_; rintro e w' ⟨rfl, hw⟩; have hw2 := hw.symm; subst hw2)
    go_ret
    exact ⟨rfl, Below.refl _ _⟩
  have BN : Hid (∀ w, Calls Tryd.prog 4 #[.slice ad n cap] w fun e w' => e = .returned (.bool false) ∧ w' = w) := fun w => big_no ad n cap w (by omega)
  have DR : Hid (Calls Tryd.prog 5 #[.slice ad n cap] w fun e w' => (∃ a b c d f t p : Int, e = .returned (.tuple #[sv a b c d f, .int .i64 t, .int .i64 p])) ∧ Below w.heap.size w w') := drawStep_any ad n cap w hc (by omega)
  have HT : Hid (Tb3 w) := hT
  clear hT hc hn far
  go_enter Tryd.func3, Tryd.ntmps3
  go_wp2_with (go_at_call 4; refine (BN.out _).mono ?_; rintro e w' ⟨rfl, hw⟩; have hw2 := hw.symm; subst hw2)
  refine DR.out.mono ?_
  rintro e w1 ⟨⟨a, b, c, d, f, t, p, rfl⟩, b1⟩
  obtain ⟨w2, hw2⟩ : ∃ w2, w2 = w1.alloc (Obj.cells #[.int .i64 a, .int .i64 b, .int .i64 c, .int .i64 d, .int .i64 f] 25) := ⟨_, rfl⟩
  have HW2 : Hid (w2 = w1.alloc (Obj.cells #[.int .i64 a, .int .i64 b, .int .i64 c, .int .i64 d, .int .i64 f] 25)) := hw2
  have B2 : Hid (Below w.heap.size w w2) := (by show Below _ _ _; rw [hw2]; exact b1.alloc b1.size _)
  have X2 : Hid (Bq w1.heap.size a b c d f w2) := (by show Bq _ _ _ _ _ _ _; rw [hw2]; exact Bq.new w1 a b c d f)
  clear hw2 b1 BN DR
  obtain ⟨y0, y1, y2, y3, y4, B, HS, HI, HB⟩ : ∃ (y0 y1 y2 y3 y4 : Int) (B : Bool), Hid (∀ w, Calls Tryd.prog 6 #[sv a b c d f, .int .i64 t, .int .i64 p] w fun e w' => e = .returned (.tuple #[sv y0 y1 y2 y3 y4, .bool B]) ∧ Below w.heap.size w w') ∧ Hid (∀ w, Calls Tryd.prog 7 #[sv a b c d f, .int .i64 t, .int .i64 p] w fun e w' => e = .returned (.tuple #[sv y0 y1 y2 y3 y4, .bool B]) ∧ Below w.heap.size w w') ∧ Hid ((B = false ∧ y0 = 0 ∧ y1 = 0 ∧ y2 = 0 ∧ y3 = 0 ∧ y4 = 0) ∨ (B = true ∧ okB y0 y1 y2 y3 y4 = true ∧ y4 = f + p ∧ d ≤ y3 ∧ (0 ≤ p ∧ p ≤ 5000) ∧ (0 ≤ f ∧ f ≤ 1000000000000))) := by
    cases h : okT a b c d f t p
    · exact ⟨0, 0, 0, 0, 0, false, fun w => sstep_no a b c d f t p w h, fun w => istep_no a b c d f t p w h, .inl ⟨rfl, rfl, rfl, rfl, rfl, rfl⟩⟩
    · obtain ⟨x0, x1, x2, x3, x4, e, h1⟩ := step_keeps h
      exact ⟨x0, x1, x2, x3, x4, true, fun w => by have := sstep_yes a b c d f t p w h; rwa [e] at this, fun w => by have := istep_yes a b c d f t p w h; rwa [e] at this, .inr ⟨rfl, h1⟩⟩
  have ebb : (B != B) = false := by simp
  obtain ⟨c0, c1, c2, c3, c4⟩ := X2.out.r
  clear c0 c1 c2 c3 c4
  have hgd := guard25
  obtain ⟨c0, c1, c2, c3, c4⟩ := X2.out.r
  go_upto_region 4 with fail
  rw [← HW2.out]
  clear HW2
  generalize w1.heap.size = g at *
  go_wp2_with fail
  clear c0 c1 c2 c3 c4
  refine (HS.out w2).mono ?_
  rintro e w3 ⟨rfl, b3⟩
  have B3 : Hid (Below w.heap.size w w3) := B2.out.trans (b3.mono B2.out.size)
  have X3 : Hid (Bq g a b c d f w3) := X2.out.on b3
  clear b3 X2 B2
  obtain ⟨w4, hw4⟩ : ∃ q, q = w3.alloc (Obj.cells #[.int .i64 y0, .int .i64 y1, .int .i64 y2, .int .i64 y3, .int .i64 y4] 25) := ⟨_, rfl⟩
  have HW4 : Hid (w4 = w3.alloc (Obj.cells #[.int .i64 y0, .int .i64 y1, .int .i64 y2, .int .i64 y3, .int .i64 y4] 25)) := hw4
  have B4 : Hid (Below w.heap.size w w4) := (by show Below _ _ _; rw [hw4]; exact B3.out.alloc B3.out.size _)
  have bn : Below w3.heap.size w3 w4 := by rw [hw4]; exact (Below.refl _ _).alloc (Nat.le_refl _) _
  have X4 : Hid (Bq g a b c d f w4) := X3.out.on bn
  clear bn hw4 X3 B3
  obtain ⟨c0, c1, c2, c3, c4⟩ := X4.out.r
  go_upto_region 5 with fail
  rw [← HW4.out]
  clear HW4
  go_wp2_with fail
  clear c0 c1 c2 c3 c4
  refine (HI.out w4).mono ?_
  rintro e w5 ⟨rfl, b5⟩
  have B5 : Hid (Below w.heap.size w w5) := B4.out.trans (b5.mono B4.out.size)
  have X5 : Hid (Bq g a b c d f w5) := X4.out.on b5
  clear b5 X4 B4
  obtain ⟨w6, hw6⟩ : ∃ q, q = w5.alloc (Obj.cells #[.int .i64 y0, .int .i64 y1, .int .i64 y2, .int .i64 y3, .int .i64 y4] 25) := ⟨_, rfl⟩
  have HW6 : Hid (w6 = w5.alloc (Obj.cells #[.int .i64 y0, .int .i64 y1, .int .i64 y2, .int .i64 y3, .int .i64 y4] 25)) := hw6
  have B6 : Hid (Below w.heap.size w w6) := (by show Below _ _ _; rw [hw6]; exact B5.out.alloc B5.out.size _)
  have bn : Below w5.heap.size w5 w6 := by rw [hw6]; exact (Below.refl _ _).alloc (Nat.le_refl _) _
  have X6 : Hid (Bq g a b c d f w6) := X5.out.on bn
  have Y6 : Hid (Bq w5.heap.size y0 y1 y2 y3 y4 w6) := (by show Bq _ _ _ _ _ _ _; rw [hw6]; exact Bq.new w5 y0 y1 y2 y3 y4)
  clear bn hw6 X5 B5 HS HI
  go_upto_region 6 with fail
  rw [← HW6.out]
  clear HW6
  generalize w5.heap.size = h at *
  have EQ := eq5 y0 y1 y2 y3 y4
  obtain ⟨m0, m1, m2, m3, m4⟩ := Y6.out.r
  obtain ⟨c0, c1, c2, c3, c4⟩ := X6.out.r
  cases B
  · obtain ⟨_, rfl, rfl, rfl, rfl, rfl⟩ := HB.out.resolve_right (fun h => by cases h.1)
    go_wp2_with fail
    go_ret
    exact ⟨rfl, B6.out⟩
  · obtain ⟨_, ok, e4, hd, hp, hf⟩ := HB.out.resolve_left (fun h => by cases h.1)
    obtain ⟨p1, p2, p3, p4, p5, p6⟩ := okB_parts ok
    have OKH : Hid (okB y0 y1 y2 y3 y4 = true) := ok
    have q1 : IntKind.i64.wrap (f + p) = y4 := by rw [IntWalk.i64_in _ (by omega)]; omega
    have q2 : IntKind.i64.wrap (y0 + y1) = y0 + y1 := IntWalk.i64_in _ (by omega)
    have q3 : IntKind.i64.wrap (y0 + y1 + y2) = y0 + y1 + y2 := IntWalk.i64_in _ (by omega)
    have q4 : IntKind.i64.wrap (y0 + y1 + y2 + y3) = y4 := by rw [IntWalk.i64_in _ (by omega)]; omega
    have s1 : ¬ y0 < 0 := by omega
    have s2 : ¬ y1 < 0 := by omega
    have s3 : ¬ 400 < y1 := by omega
    have s4 : ¬ y2 < 0 := by omega
    have s5 : ¬ 1500 < y2 := by omega
    have s6 : ¬ y3 < d := by omega
    have s7 : (y4 != y4) = false := by simp
    have n1 : (f + p : Int) = y4 := by omega
    have n2 : (y0 + y1 + y2 + y3 : Int) = y4 := by omega
    clear e4 hd p6 ok
    go_wp2_with fail
    clear q1 q2 q3 q4 s1 s2 s3 s4 s5 s6 n1 n2 c0 c1 c2 c3 c4 m0 m1 m2 m3 m4 X6
    refine (itext_yes' y0 y1 y2 y3 y4 w6 (HT.out.keep B6.out).1 OKH.out).mono ?_
    rintro e w7 ⟨rfl, b7⟩
    have B7 : Hid (Below w.heap.size w w7) := B6.out.trans (b7.mono B6.out.size)
    have Y7 : Hid (Bq h y0 y1 y2 y3 y4 w7) := Y6.out.on b7
    clear b7 Y6 B6
    go_wp2_with fail
    refine (iback y0 y1 y2 y3 y4 w7 (HT.out.keep B7.out) OKH.out).mono ?_
    rintro e w8 ⟨rfl, b8⟩
    have B8 : Hid (Below w.heap.size w w8) := B7.out.trans (b8.mono B7.out.size)
    have Y8 : Hid (Bq h y0 y1 y2 y3 y4 w8) := Y7.out.on b8
    clear b8 Y7 B7
    obtain ⟨w9, hw9⟩ : ∃ q, q = w8.alloc (Obj.cells #[.int .i64 y0, .int .i64 y1, .int .i64 y2, .int .i64 y3, .int .i64 y4] 25) := ⟨_, rfl⟩
    have HW9 : Hid (w9 = w8.alloc (Obj.cells #[.int .i64 y0, .int .i64 y1, .int .i64 y2, .int .i64 y3, .int .i64 y4] 25)) := hw9
    have B9 : Hid (Below w.heap.size w w9) := (by show Below _ _ _; rw [hw9]; exact B8.out.alloc B8.out.size _)
    have bn : Below w8.heap.size w8 w9 := by rw [hw9]; exact (Below.refl _ _).alloc (Nat.le_refl _) _
    have Y9 : Hid (Bq h y0 y1 y2 y3 y4 w9) := Y8.out.on bn
    have Z9 : Hid (Bq w8.heap.size y0 y1 y2 y3 y4 w9) := (by show Bq _ _ _ _ _ _ _; rw [hw9]; exact Bq.new w8 y0 y1 y2 y3 y4)
    clear bn hw9 Y8 B8
    go_upto_region 13 with fail
    rw [← HW9.out]
    clear HW9
    generalize w8.heap.size = h2 at *
    obtain ⟨m0, m1, m2, m3, m4⟩ := Y9.out.r
    obtain ⟨c0, c1, c2, c3, c4⟩ := Z9.out.r
    go_wp2_with fail
    go_ret
    exact ⟨rfl, B9.out⟩
end Go.Proofs.YtgimdhdioigmiaaDoor.Kl
