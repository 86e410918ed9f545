/- Convert, in the program and in its model; the law FnExactConvert walked. -/
import Derived.Test.YtlibkdamfhlceaaUnitI
namespace Go.Proofs.Ytlibkdamfhlceaa.Flt
open Go.ChangeShapes Go.WideShapes Go.ChangeAt Go.RowKit
attribute [local go_sem] run_store_float

theorem un_kind (u : Int) : ((un u).1 = 0) ↔ isU u = false := by
  constructor
  · intro h
    cases e : isU u
    · rfl
    · rcases u_cases u e with rfl | rfl | rfl | rfl | rfl | rfl | rfl | rfl | rfl | rfl | rfl | rfl | rfl | rfl <;> exact absurd h (by decide)
  · intro h; rw [un_out u h]
theorem un_cn (u : Int) : cn (un u).2.1 = (un u).2.1 ∧ cn (un u).2.2 = (un u).2.2 := by
  cases e : isU u
  · rw [un_out u e]; exact ⟨by decide +kernel, by decide +kernel⟩
  · rcases u_cases u e with rfl | rfl | rfl | rfl | rfl | rfl | rfl | rfl | rfl | rfl | rfl | rfl | rfl | rfl <;> exact ⟨by decide +kernel, by decide +kernel⟩

/-- Whether the two are units of one kind. -/
def cvOk (f t : Int) : Bool := isU f && isU t && decide ((un f).1 = (un t).1)
/-- What Convert tells of a known x. -/
def cvF (x : Nat) (f t : Int) : Nat := opF .sub (opF .quo (opF .mul (opF .add x (un f).2.1) (un f).2.2) (un t).2.2) (un t).2.1
def cv (x : Nat) (f t : Int) : Nat := if cvOk f t then (if nan x || decide (f = t) then x else cvF x f t) else qn

theorem cv_of (x o b c d : Nat) (w1 w2 w3 w4 : World) (ho : cn o = o) (hb : cn b = b) (hc : cn c = c) (hd : cn d = d) :
    cn (opB .sub (opB .quo (opB .mul (opB .add x o w1) b w2) c w3) d w4) = opF .sub (opF .quo (opF .mul (opF .add (cn x) o) b) c) d := by
  rw [cn_op, cn_op, cn_op, cn_op, ho, hb, hc, hd]

/-- A block with three cells. -/
def B3 (w : World) (k : Nat) (x y z : Value) : Prop := w.cell? ⟨k, 0, none⟩ = some x ∧ w.cell? ⟨k, 1, none⟩ = some y ∧ w.cell? ⟨k, 2, none⟩ = some z ∧ k < w.heap.size
theorem B3.on {w w' : World} {k : Nat} {x y z : Value} (h : B3 w k x y z) (hb : Below w.heap.size w w') : B3 w' k x y z :=
  ⟨(hb.cell (p := ⟨k, 0, none⟩) h.2.2.2).trans h.1, (hb.cell (p := ⟨k, 1, none⟩) h.2.2.2).trans h.2.1, (hb.cell (p := ⟨k, 2, none⟩) h.2.2.2).trans h.2.2.1, Nat.lt_of_lt_of_le h.2.2.2 hb.size⟩
theorem B3.new (w : World) (x y z : Value) (t : TypeId) : B3 (w.alloc (.cells #[x, y, z] t)) w.heap.size x y z := by
  refine ⟨?_, ?_, ?_, ?_⟩ <;> simp [go_sem]

abbrev fb (x : Nat) (b : Bool) : Ending := .returned (.tuple #[.float .f64 x, .bool b])

theorem ne_of_dec {a b : Int} (h : decide (a = b) = false) : a ≠ b := by simpa using h

set_option maxHeartbeats 4000000 in
theorem scv_any (x : Nat) (f t : Int) (w : World) (hx : x < 18446744073709551616) : Calls Try.prog 9 #[.float .f64 x, .int .i64 f, .int .i64 t] w fun e w' => ∃ b, e = fb b (cvOk f t) ∧ cn b = cv (cn x) f t ∧ b < 18446744073709551616 ∧ Below w.heap.size w w' := by
  have ha : ∀ x y w, (binOp .add 22 (.float .f64 x) (.float .f64 y)).run Try.prog w = .ok (.float .f64 (opB .add x y w)) (w.drewN (opD .add x y)) := fun x y w => run_op Try.prog .add arAdd 22 x y w
  have hs : ∀ x y w, (binOp .sub 22 (.float .f64 x) (.float .f64 y)).run Try.prog w = .ok (.float .f64 (opB .sub x y w)) (w.drewN (opD .sub x y)) := fun x y w => run_op Try.prog .sub arSub 22 x y w
  have hm : ∀ x y w, (binOp .mul 22 (.float .f64 x) (.float .f64 y)).run Try.prog w = .ok (.float .f64 (opB .mul x y w)) (w.drewN (opD .mul x y)) := fun x y w => run_op Try.prog .mul arMul 22 x y w
  have hq : ∀ x y w, (binOp .quo 22 (.float .f64 x) (.float .f64 y)).run Try.prog w = .ok (.float .f64 (opB .quo x y w)) (w.drewN (opD .quo x y)) := fun x y w => run_op Try.prog .quo arQuo 22 x y w
  have HX : Hid (x < 18446744073709551616) := hx
  have n1 := self_ne x
  have UF : Hid (((un f).1 = 0 ↔ isU f = false) ∧ ((un t).1 = 0 ↔ isU t = false)) := ⟨un_kind f, un_kind t⟩
  have UC1 : Hid ((cn (un f).2.1 = (un f).2.1 ∧ cn (un f).2.2 = (un f).2.2) ∧ (cn (un t).2.1 = (un t).2.1 ∧ cn (un t).2.2 = (un t).2.2)) := ⟨un_cn f, un_cn t⟩
  have AF : Hid (∀ w, Calls Try.prog 24 #[.int .i64 f] w fun e w' => e = .returned (.agg #[.int .i64 (un f).1, .float .f64 (un f).2.1, .float .f64 (un f).2.2]) ∧ Below w.heap.size w w') := fun w => sunit f w
  have AT : Hid (∀ w, Calls Try.prog 24 #[.int .i64 t] w fun e w' => e = .returned (.agg #[.int .i64 (un t).1, .float .f64 (un t).2.1, .float .f64 (un t).2.2]) ∧ Below w.heap.size w w') := fun w => sunit t w
  have CO : Hid (cvOk f t = (isU f && isU t && decide ((un f).1 = (un t).1))) := rfl
  have CV : Hid (cv (cn x) f t = if cvOk f t then (if nan (cn x) || decide (f = t) then cn x else opF .sub (opF .quo (opF .mul (opF .add (cn x) (un f).2.1) (un f).2.2) (un t).2.2) (un t).2.1) else qn) := rfl
  clear hx
  generalize cv (cn x) f t = V at *
  generalize cvOk f t = B at *
  generalize isU f = uf at *
  generalize isU t = ut at *
  generalize un f = F at *
  generalize un t = T at *
  obtain ⟨k1, o1, b1⟩ := F
  obtain ⟨k2, o2, b2⟩ := T
  simp only at UF UC1 AF AT CO CV
  go_enter Try.func9, Try.ntmps9
  go_wp2_with fail
  refine (AF.out _).mono ?_
  rintro e w1 ⟨rfl, hb1⟩
  have Bw1 : Hid (Below w.heap.size w w1) := hb1
  clear hb1
  go_wp2_with fail
  refine (AT.out _).mono ?_
  rintro e w2 ⟨rfl, hb2⟩
  have X1 : Hid (B3 w2 w1.heap.size (.int .i64 k1) (.float .f64 o1) (.float .f64 b1)) := (B3.new w1 _ _ _ 40).on hb2
  have Bw2 : Hid (Below w.heap.size w w2) := (Bw1.out.alloc Bw1.out.size _).trans (hb2.mono (Bw1.out.alloc Bw1.out.size _).size)
  have nn : w1.heap.size ≠ w2.heap.size := (by have := X1.out.2.2.2; omega)
  obtain ⟨c0, c1, c2, c3⟩ := X1.out
  clear hb2
  by_cases hk0 : k1 = 0
  · obtain ⟨hV, hB⟩ : V = qn ∧ B = false := (by
      have h1 := UF.out.1.1 hk0
      have hB : B = false := by rw [CO.out, h1]; rfl
      exact ⟨by rw [CV.out, hB]; rfl, hB⟩)
    clear CV CO UF UC1
    subst hV hB
    go_wp2_with (go_at_call 25; refine (none_any _).mono ?_; rintro e w' ⟨b, rfl, hb, hl, rfl⟩; have HB : Hid (cn b = qn ∧ b < 18446744073709551616) := ⟨hb, hl⟩; clear hb hl)
    go_ret2
    exact ⟨b, rfl, HB.out.1, HB.out.2, below_drewN (Bw2.out.alloc Bw2.out.size _) 1⟩
  · have hk0' : (k1 == 0) = false := by simpa using hk0
    by_cases hk : k1 = k2
    · have hB : B = true := (by
        have h1 : uf = true := by cases h : uf; exact absurd (UF.out.1.2 h) hk0; rfl
        have h2 : ut = true := by cases h : ut; exact absurd (UF.out.2.2 h) (by omega); rfl
        rw [CO.out, h1, h2, decide_eq_true hk]; rfl)
      subst hB
      subst hk
      clear CO UF
      cases hn : nan x
      · rw [hn] at n1
        by_cases hft : f = t
        · have hV : V = cn x := (by rw [CV.out, nan_cn, hn, decide_eq_true hft]; rfl)
          clear CV UC1
          subst hV
          go_wp2_with fail
          go_ret2
          exact ⟨x, rfl, rfl, HX.out, Bw2.out.alloc Bw2.out.size _⟩
        · have hV : V = opF .sub (opF .quo (opF .mul (opF .add (cn x) o1) b1) b2) o2 := (by rw [CV.out, nan_cn, hn, decide_eq_false hft]; rfl)
          clear CV
          subst hV
          have hft' : (f == t) = false := by simpa using hft
          go_wp2_with fail
          go_ret2
          exact ⟨_, rfl, cv_of _ _ _ _ _ _ _ _ _ UC1.out.1.1 UC1.out.1.2 UC1.out.2.2 UC1.out.2.1, op_lt _ _ _ _, below_drewN (Bw2.out.alloc Bw2.out.size _) _⟩
      · rw [hn] at n1
        have hV : V = cn x := (by rw [CV.out, nan_cn, hn]; rfl)
        clear CV UC1
        subst hV
        go_wp2_with fail
        go_ret2
        exact ⟨x, rfl, rfl, HX.out, Bw2.out.alloc Bw2.out.size _⟩
    · obtain ⟨hV, hB⟩ : V = qn ∧ B = false := (by
        have hB : B = false := by rw [CO.out, decide_eq_false hk]; cases uf <;> cases ut <;> rfl
        exact ⟨by rw [CV.out, hB]; rfl, hB⟩)
      clear CV CO UF UC1
      subst hV hB
      have hk' : (k1 != k2) = true := by simpa using hk
      go_wp2_with (go_at_call 25; refine (none_any _).mono ?_; rintro e w' ⟨b, rfl, hb, hl, rfl⟩; have HB : Hid (cn b = qn ∧ b < 18446744073709551616) := ⟨hb, hl⟩; clear hb hl)
      go_ret2
      exact ⟨b, rfl, HB.out.1, HB.out.2, below_drewN (Bw2.out.alloc Bw2.out.size _) 1⟩

set_option maxHeartbeats 400000 in
theorem isnan_any (x : Nat) (w : World) : Calls Try.prog 28 #[.float .f64 x] w fun e w' => e = .returned (.bool (nan x)) ∧ w' = w := by
  have n1 := self_ne x
  go_enter Try.func28, Try.ntmps28
  go_wp2
  go_ret
  exact ⟨rfl, rfl⟩

set_option maxHeartbeats 4000000 in
theorem icv_any (x : Nat) (f t : Int) (w : World) (hx : x < 18446744073709551616) : Calls Try.prog 10 #[.float .f64 x, .int .i64 f, .int .i64 t] w fun e w' => ∃ b, e = fb b (cvOk f t) ∧ cn b = cv (cn x) f t ∧ b < 18446744073709551616 ∧ Below w.heap.size w w' := by
  have ha : ∀ x y w, (binOp .add 22 (.float .f64 x) (.float .f64 y)).run Try.prog w = .ok (.float .f64 (opB .add x y w)) (w.drewN (opD .add x y)) := fun x y w => run_op Try.prog .add arAdd 22 x y w
  have hs : ∀ x y w, (binOp .sub 22 (.float .f64 x) (.float .f64 y)).run Try.prog w = .ok (.float .f64 (opB .sub x y w)) (w.drewN (opD .sub x y)) := fun x y w => run_op Try.prog .sub arSub 22 x y w
  have hm : ∀ x y w, (binOp .mul 22 (.float .f64 x) (.float .f64 y)).run Try.prog w = .ok (.float .f64 (opB .mul x y w)) (w.drewN (opD .mul x y)) := fun x y w => run_op Try.prog .mul arMul 22 x y w
  have hq : ∀ x y w, (binOp .quo 22 (.float .f64 x) (.float .f64 y)).run Try.prog w = .ok (.float .f64 (opB .quo x y w)) (w.drewN (opD .quo x y)) := fun x y w => run_op Try.prog .quo arQuo 22 x y w
  have HX : Hid (x < 18446744073709551616) := hx
  have UC1 : Hid ((cn (un f).2.1 = (un f).2.1 ∧ cn (un f).2.2 = (un f).2.2) ∧ (cn (un t).2.1 = (un t).2.1 ∧ cn (un t).2.2 = (un t).2.2)) := ⟨un_cn f, un_cn t⟩
  have AF : Hid (∀ w, Calls Try.prog 26 #[.int .i64 f] w fun e w' => e = .returned (.tuple #[.agg #[.int .i64 (un f).1, .float .f64 (un f).2.1, .float .f64 (un f).2.2], .bool (isU f)]) ∧ Below w.heap.size w w') := fun w => iunit f w
  have AT : Hid (∀ w, Calls Try.prog 26 #[.int .i64 t] w fun e w' => e = .returned (.tuple #[.agg #[.int .i64 (un t).1, .float .f64 (un t).2.1, .float .f64 (un t).2.2], .bool (isU t)]) ∧ Below w.heap.size w w') := fun w => iunit t w
  have CO : Hid (cvOk f t = (isU f && isU t && decide ((un f).1 = (un t).1))) := rfl
  have CV : Hid (cv (cn x) f t = if cvOk f t then (if nan (cn x) || decide (f = t) then cn x else opF .sub (opF .quo (opF .mul (opF .add (cn x) (un f).2.1) (un f).2.2) (un t).2.2) (un t).2.1) else qn) := rfl
  clear hx
  generalize cv (cn x) f t = V at *
  generalize cvOk f t = B at *
  generalize isU f = uf at *
  generalize isU t = ut at *
  generalize un f = F at *
  generalize un t = T at *
  obtain ⟨k1, o1, b1⟩ := F
  obtain ⟨k2, o2, b2⟩ := T
  simp only at UC1 AF AT CO CV
  go_enter Try.func10, Try.ntmps10
  go_wp2_with fail
  refine (AF.out _).mono ?_
  rintro e w1 ⟨rfl, hb1⟩
  have Bw1 : Hid (Below w.heap.size w w1) := hb1
  clear hb1
  go_wp2_with fail
  refine (AT.out _).mono ?_
  rintro e w2 ⟨rfl, hb2⟩
  have X1 : Hid (B3 w2 w1.heap.size (.int .i64 k1) (.float .f64 o1) (.float .f64 b1)) := (B3.new w1 _ _ _ 44).on hb2
  have Bw2 : Hid (Below w.heap.size w w2) := (Bw1.out.alloc Bw1.out.size _).trans (hb2.mono (Bw1.out.alloc Bw1.out.size _).size)
  have nn : w1.heap.size ≠ w2.heap.size := (by have := X1.out.2.2.2; omega)
  obtain ⟨c0, c1, c2, c3⟩ := X1.out
  clear hb2
  by_cases hbad : uf = false ∨ ut = false ∨ k1 ≠ k2
  · obtain ⟨hV, hB⟩ : V = qn ∧ B = false := (by
      have hB : B = false := by
        rw [CO.out]
        rcases hbad with h | h | h
        · rw [h]; rfl
        · rw [h]; cases uf <;> rfl
        · rw [decide_eq_false h]; cases uf <;> cases ut <;> rfl
      exact ⟨by rw [CV.out, hB]; rfl, hB⟩)
    clear CV CO UC1
    subst hV hB
    cases uf
    · clear hbad
      go_wp2_with (go_at_call 27; refine (nan_any _).mono ?_; rintro e w' ⟨rfl, hw'⟩; subst hw')
      go_ret2
      exact ⟨qn, rfl, rfl, by decide, Bw2.out.alloc Bw2.out.size _⟩
    · cases ut
      · clear hbad
        go_wp2_with (go_at_call 27; refine (nan_any _).mono ?_; rintro e w' ⟨rfl, hw'⟩; subst hw')
        go_ret2
        exact ⟨qn, rfl, rfl, by decide, Bw2.out.alloc Bw2.out.size _⟩
      · have hk : k1 ≠ k2 := by simpa using hbad
        have hk' : (k1 != k2) = true := by simpa using hk
        clear hbad
        go_wp2_with (go_at_call 27; refine (nan_any _).mono ?_; rintro e w' ⟨rfl, hw'⟩; subst hw')
        go_ret2
        exact ⟨qn, rfl, rfl, by decide, Bw2.out.alloc Bw2.out.size _⟩
  · obtain ⟨h1, h2, hk⟩ : uf = true ∧ ut = true ∧ k1 = k2 := by
      refine ⟨?_, ?_, ?_⟩
      · cases uf; exact absurd (.inl rfl) hbad; rfl
      · cases ut; exact absurd (.inr (.inl rfl)) hbad; rfl
      · by_cases h : k1 = k2; exact h; exact absurd (.inr (.inr h)) hbad
    have hB : B = true := (by rw [CO.out, h1, h2, decide_eq_true hk]; rfl)
    clear CO hbad
    subst hB h1 h2 hk
    cases hn : nan x
    · by_cases hft : f = t
      · have hV : V = cn x := (by rw [CV.out, nan_cn, hn, decide_eq_true hft]; rfl)
        clear CV UC1
        subst hV
        go_wp2_with (go_at_call 28; refine (isnan_any _ _).mono ?_; rintro e w' ⟨rfl, hw'⟩; subst hw')
        go_ret2
        exact ⟨x, rfl, rfl, HX.out, Bw2.out.alloc Bw2.out.size _⟩
      · have hV : V = opF .sub (opF .quo (opF .mul (opF .add (cn x) o1) b1) b2) o2 := (by rw [CV.out, nan_cn, hn, decide_eq_false hft]; rfl)
        clear CV
        subst hV
        have hft' : (f == t) = false := by simpa using hft
        go_wp2_with (go_at_call 28; refine (isnan_any _ _).mono ?_; rintro e w' ⟨rfl, hw'⟩; subst hw')
        go_ret2
        exact ⟨_, rfl, cv_of _ _ _ _ _ _ _ _ _ UC1.out.1.1 UC1.out.1.2 UC1.out.2.2 UC1.out.2.1, op_lt _ _ _ _, below_drewN (Bw2.out.alloc Bw2.out.size _) _⟩
    · have hV : V = cn x := (by rw [CV.out, nan_cn, hn]; rfl)
      clear CV UC1
      subst hV
      go_wp2_with (go_at_call 28; refine (isnan_any _ _).mono ?_; rintro e w' ⟨rfl, hw'⟩; subst hw')
      go_ret2
      exact ⟨x, rfl, rfl, HX.out, Bw2.out.alloc Bw2.out.size _⟩

set_option maxHeartbeats 1000000 in
theorem cvLaw (x : Nat) (f t : Int) (w : World) (hx : x < 18446744073709551616) (_ : -9223372036854775808 ≤ f ∧ f < 9223372036854775808) (_ : -9223372036854775808 ≤ t ∧ t < 9223372036854775808) :
    Calls Try.prog 3 #[.float .f64 x, .int .i64 f, .int .i64 t] w fun e w' => e = .returned (.bool true) ∧ Below w.heap.size w w' := by
  have HX : Hid (x < 18446744073709551616) := hx
  have S : Hid (∀ w, Calls Try.prog 9 #[.float .f64 x, .int .i64 f, .int .i64 t] w fun e w' => ∃ b, e = fb b (cvOk f t) ∧ cn b = cv (cn x) f t ∧ b < 18446744073709551616 ∧ Below w.heap.size w w') := fun w => scv_any x f t w hx
  have I : Hid (∀ w, Calls Try.prog 10 #[.float .f64 x, .int .i64 f, .int .i64 t] w fun e w' => ∃ b, e = fb b (cvOk f t) ∧ cn b = cv (cn x) f t ∧ b < 18446744073709551616 ∧ Below w.heap.size w w') := fun w => icv_any x f t w hx
  clear hx
  generalize cv (cn x) f t = V at *
  generalize cvOk f t = B at *
  have hBB : (B != B) = false := by simp
  go_enter Try.func3, Try.ntmps3
  go_wp2_with fail
  refine (S.out _).mono ?_
  rintro e w1 ⟨b1, rfl, c1, _, bel1⟩
  have C1 : Hid (cn b1 = V) := c1
  have B1 : Hid (Below w.heap.size w w1) := bel1
  clear c1 bel1
  go_wp2_with fail
  refine (I.out _).mono ?_
  rintro e w2 ⟨b2, rfl, c2, _, bel2⟩
  have C2 : Hid (cn b2 = V) := c2
  have B2 : Hid (Below w.heap.size w w2) := B1.out.trans (bel2.mono B1.out.size)
  clear c2 bel2
  go_wp2_with fail
  refine (sf_cn _ _ _ (C2.out.trans C1.out.symm)).mono ?_
  rintro e w3 ⟨rfl, rfl⟩
  go_wp2_with fail
  go_ret
  exact ⟨rfl, B2.out⟩
end Go.Proofs.Ytlibkdamfhlceaa.Flt
