/- The law FnExactSignif walked. -/
import Derived.Test.YtgjimjgdbnicoaaSgH
import Derived.Test.YtgjimjgdbnicoaaRowsOf
namespace Go.Proofs.Ytgjimjgdbnicoaa.Flt
open Go.ChangeShapes Go.WideShapes Go.ChangeAt Go.RowKit
attribute [local go_sem] run_store_float

theorem row_form {w : World} {base n k : Nat} {e : TypeId} {v : Value} {xs : List Value} (h : w.ownsRow base e k v n xs) : ∃ a c, v = .slice a n c := by
  rcases row_cases h with ⟨rfl, rfl⟩ | ⟨g, cap, rfl, _⟩
  · exact ⟨_, _, rfl⟩
  · exact ⟨_, _, rfl⟩
theorem sgs_len (L : Lv) (tol : Nat) : (sgs L tol).length ≤ 1000000 := by
  cases hk : lok L
  · rw [sgs_no1 hk]; exact Nat.zero_le _
  · cases h2 : kn tol
    · rw [sgs_no2 h2]; exact Nat.zero_le _
    · cases h3 : (ord tol 0 == some .lt)
      · rw [sgs_yes hk h2 h3]
        obtain ⟨l2, l4, _⟩ := lok_size hk
        have := sg2_len L tol (tol_key h2 h3).2 (L.length - 1) 0 (L.length - 1) (by omega)
        simp only [List.length_append, List.length_cons, List.length_nil]
        omega
      · rw [sgs_no3 h3]; exact Nat.zero_le _
theorem eqs (w : World) (b1 b2 m : Nat) (v1 v2 : Value) (C : List Int) (hm : C.length = m) (h1 : w.ownsRow b1 2 1 v1 m (ints C)) (h2 : w.ownsRow b2 2 1 v2 m (ints C)) : Calls Try.prog 8 #[v1, v2] w fun e w' => e = .returned (.bool true) ∧ Below w.heap.size w w' := by
  subst hm
  exact (Lists.eq_same w b1 b2 v1 v2 C h1 h2).mono fun e w' ⟨he, n, hn⟩ => ⟨he, by rw [hn]; exact below_drewN (Below.refl _ _) n⟩
theorem marks (w : World) (base m : Nat) (v : Value) (C : List Int) (hm : C.length = m) (hn : m ≤ 1000000) (h : w.ownsRow base 2 1 v m (ints C)) : Calls Try.prog 11 #[v, .int .i64 1] w fun e w' => e = .returned (.int .i64 (1 + (m : Int))) ∧ w'.ownsRow base 2 1 v m (ints (Lists.sq 1 m)) ∧ w.grownBy w' v.ownBlock := by
  subst hm
  exact Lists.mark_any w base v C 1 (by decide) (by decide) hn h
theorem helds (w : World) (base m : Nat) (v : Value) (hn : m ≤ 1000000) (h : w.ownsRow base 2 1 v m (ints (Lists.sq 1 m))) : Calls Try.prog 12 #[v, .int .i64 1] w fun e w' => e = .returned (.int .i64 (1 + (m : Int))) ∧ w' = w :=
  Lists.held_any w base v m 1 (by decide) (by decide) hn h

theorem apart_rows {w w' : World} {base base' n n' k k' : Nat} {e e' : TypeId} {v v' : Value} {xs xs' : List Value} (h : w.ownsRow base e k v n xs) (h' : w'.ownsRow base' e' k' v' n' xs') (hb : w.heap.size ≤ base') : (∀ g, v.ownBlock = some g → v'.ownBlock ≠ some g) ∧ (∀ g, v'.ownBlock = some g → v.ownBlock ≠ some g) := by
  constructor
  · intro g h1 h2
    have a := (h.lt g h1).2
    have b := (h'.lt g h2).1
    omega
  · intro g h1 h2
    have a := (h.lt g h2).2
    have b := (h'.lt g h1).1
    omega

set_option maxHeartbeats 2000000 in
theorem sigLaw (w : World) (v : Value) (L : Lv) (tol : Nat) (h : Reads w v L) (hx : tol < 18446744073709551616) : Calls Try.prog 3 #[v, .float .f64 tol] w fun e w' => e = .returned (.bool true) ∧ Below w.heap.size w w' := by
  have HF := h.fits
  obtain ⟨a, cap, rfl⟩ := h.form
  have H0 : Hid (Reads w (.slice a L.length cap) L) := h
  clear h
  by_cases hl : 1048576 < L.length
  · go_enter Try.func3, Try.ntmps3
    go_wp2_with fail
    refine (sz_far _ _ _ _ hl HF).mono ?_
    rintro e w1 ⟨rfl, hw1⟩
    subst hw1
    go_wp2_with fail
    go_ret
    exact ⟨rfl, Below.refl _ _⟩
  have hl' : L.length ≤ 1048576 := by omega
  have HL : Hid (L.length ≤ 1048576) := hl'
  have i1 : ¬ (1048576 : Int) - (L.length : Int) < 0 := by omega
  have SI : Hid (∀ w v, Reads w v L → Calls Try.prog 5 #[v, .float .f64 tol] w fun e w' => ∃ v', e = .returned v' ∧ w'.ownsRow w.heap.size 2 1 v' ((sgs L tol).length) (ints (sgs L tol)) ∧ Below w.heap.size w w') := fun w v h => ssig_any w v L tol h
  have II : Hid (∀ w v, Reads w v L → Calls Try.prog 7 #[v, .float .f64 tol] w fun e w' => ∃ v', e = .returned v' ∧ w'.ownsRow w.heap.size 2 1 v' ((sgs L tol).length) (ints (sgs L tol)) ∧ Below w.heap.size w w') := fun w v h => isig_any w v L tol h hl' hx
  have ML : (sgs L tol).length ≤ 1000000 := sgs_len L tol
  generalize hC : sgs L tol = C at SI II ML
  obtain ⟨m, hm⟩ : ∃ m, C.length = m := ⟨_, rfl⟩
  rw [hm] at SI II ML
  have HC : Hid (C.length = m) := hm
  clear hC hm hx
  have HML : Hid (m ≤ 1000000) := ML
  have i2 : ¬ 1 + (L.length : Int) * 2 < 0 := by omega
  have i3 : ¬ 1 + (m : Int) < 0 := by omega
  go_enter Try.func3, Try.ntmps3
  go_wp2_with fail
  refine (sz_near _ _ _ _ hl').mono ?_
  rintro e w1 ⟨rfl, hw1⟩
  subst hw1
  go_wp2_with fail
  refine (to_any _ _ L H0.out HL.out).mono ?_
  rintro e w2 ⟨v2, rfl, r2, b2⟩
  obtain ⟨a2, c2, rfl⟩ := r2.form
  have R2 : Hid (Reads w2 (.slice a2 L.length c2) L) := r2
  have B2 : Hid (Below w1.heap.size w1 w2) := b2
  clear r2 b2
  go_wp2_with fail
  refine (SI.out _ _ R2.out).mono ?_
  rintro e w3 ⟨v3, rfl, r3, b3⟩
  obtain ⟨a3, c3, rfl⟩ := row_form r3
  have R3 : Hid (w3.ownsRow w2.heap.size 2 1 (.slice a3 m c3) m (ints C)) := r3
  have B3 : Hid (Below w1.heap.size w1 w3) := B2.out.trans (b3.mono B2.out.size)
  clear r3 b3
  go_wp2_with fail
  refine (to_own _ _ L (H0.out.on B3.out) HL.out).mono ?_
  rintro e w4 ⟨v4, xs, rfl, o4, r4, b4⟩
  obtain ⟨a4, c4, rfl⟩ := r4.form
  have R4 : Hid (Reads w4 (.slice a4 L.length c4) L) := r4
  have O4 : Hid (w4.ownsRow w3.heap.size 38 2 (.slice a4 L.length c4) L.length xs) := o4
  have S4 : Hid (w4.ownsRow w2.heap.size 2 1 (.slice a3 m c3) m (ints C)) := row_below R3.out b4
  have B4 : Hid (Below w1.heap.size w1 w4) := B3.out.trans (b4.mono B3.out.size)
  have SZ : Hid (w3.heap.size ≤ w4.heap.size) := b4.size
  have SW : Hid (w1.heap.size ≤ w3.heap.size) := B3.out.size
  clear r4 b4 o4
  go_wp2_with fail
  refine (II.out _ _ R4.out).mono ?_
  rintro e w5 ⟨v5, rfl, r5, b5⟩
  obtain ⟨a5, c5, rfl⟩ := row_form r5
  have R5 : Hid (w5.ownsRow w4.heap.size 2 1 (.slice a5 m c5) m (ints C)) := r5
  have S5 : Hid (w5.ownsRow w2.heap.size 2 1 (.slice a3 m c3) m (ints C)) := row_below S4.out b5
  have X5 : Hid (Reads w5 (.slice a4 L.length c4) L) := R4.out.on b5
  have O5 : Hid (w5.ownsRow w3.heap.size 38 2 (.slice a4 L.length c4) L.length xs) := row_below O4.out b5
  have B5 : Hid (Below w1.heap.size w1 w5) := B4.out.trans (b5.mono B4.out.size)
  have N34 : Hid _ := apart_rows R3.out O4.out (Nat.le_refl _)
  have N45 : Hid _ := apart_rows O4.out R5.out (Nat.le_refl _)
  have N35 : Hid _ := apart_rows R3.out R5.out SZ.out
  have G4 : Hid (∀ g, (Value.slice a4 L.length c4).ownBlock = some g → w1.heap.size ≤ g) := fun g hg => Nat.le_trans SW.out (O4.out.lt g hg).1
  have G5 : Hid (∀ g, (Value.slice a5 m c5).ownBlock = some g → w1.heap.size ≤ g) := fun g hg => Nat.le_trans (Nat.le_trans SW.out SZ.out) (R5.out.lt g hg).1
  clear r5 b5
  go_wp2_with fail
  refine (eqs _ _ _ m _ _ C HC.out R5.out S5.out).mono ?_
  rintro e w6 ⟨rfl, b6⟩
  have R6 : Hid (w6.ownsRow w4.heap.size 2 1 (.slice a5 m c5) m (ints C)) := row_below R5.out b6
  have S6 : Hid (w6.ownsRow w2.heap.size 2 1 (.slice a3 m c3) m (ints C)) := row_below S5.out b6
  have X6 : Hid (Reads w6 (.slice a4 L.length c4) L) := X5.out.on b6
  have O6 : Hid (w6.ownsRow w3.heap.size 38 2 (.slice a4 L.length c4) L.length xs) := row_below O5.out b6
  have B6 : Hid (Below w1.heap.size w1 w6) := B5.out.trans (b6.mono B5.out.size)
  clear b6
  go_wp2_with fail
  refine (to_any _ _ L (H0.out.on B6.out) HL.out).mono ?_
  rintro e w7 ⟨v7, rfl, r7, b7⟩
  obtain ⟨a7, c7, rfl⟩ := r7.form
  have T7 : Hid (Reads w7 (.slice a7 L.length c7) L) := r7
  have R7 : Hid (w7.ownsRow w4.heap.size 2 1 (.slice a5 m c5) m (ints C)) := row_below R6.out b7
  have S7 : Hid (w7.ownsRow w2.heap.size 2 1 (.slice a3 m c3) m (ints C)) := row_below S6.out b7
  have X7 : Hid (Reads w7 (.slice a4 L.length c4) L) := X6.out.on b7
  have O7 : Hid (w7.ownsRow w3.heap.size 38 2 (.slice a4 L.length c4) L.length xs) := row_below O6.out b7
  have B7 : Hid (Below w1.heap.size w1 w7) := B6.out.trans (b7.mono B6.out.size)
  clear r7 b7
  go_wp2_with fail
  refine (eq_same _ _ _ L X7.out T7.out).mono ?_
  rintro e w8 ⟨rfl, b8⟩
  have R8 : Hid (w8.ownsRow w4.heap.size 2 1 (.slice a5 m c5) m (ints C)) := row_below R7.out b8
  have S8 : Hid (w8.ownsRow w2.heap.size 2 1 (.slice a3 m c3) m (ints C)) := row_below S7.out b8
  have O8 : Hid (w8.ownsRow w3.heap.size 38 2 (.slice a4 L.length c4) L.length xs) := row_below O7.out b8
  have B8 : Hid (Below w1.heap.size w1 w8) := B7.out.trans (b8.mono B7.out.size)
  clear b8
  go_wp2_with fail
  refine (markL _ _ _ _ xs HL.out O8.out).mono ?_
  rintro e w9 ⟨rfl, g9⟩
  have R9 : Hid (w9.ownsRow w4.heap.size 2 1 (.slice a5 m c5) m (ints C)) := row_grown R8.out g9 N45.out.2
  have S9 : Hid (w9.ownsRow w2.heap.size 2 1 (.slice a3 m c3) m (ints C)) := row_grown S8.out g9 N34.out.1
  have B9 : Hid (Below w1.heap.size w1 w9) := B8.out.grown g9 B8.out.size G4.out
  clear g9
  go_wp2_with fail
  refine (eqs _ _ _ m _ _ C HC.out R9.out S9.out).mono ?_
  rintro e w10 ⟨rfl, b10⟩
  have R10 : Hid (w10.ownsRow w4.heap.size 2 1 (.slice a5 m c5) m (ints C)) := row_below R9.out b10
  have S10 : Hid (w10.ownsRow w2.heap.size 2 1 (.slice a3 m c3) m (ints C)) := row_below S9.out b10
  have B10 : Hid (Below w1.heap.size w1 w10) := B9.out.trans (b10.mono B9.out.size)
  clear b10
  go_wp2_with fail
  refine (marks _ _ m _ C HC.out HML.out R10.out).mono ?_
  rintro e w11 ⟨rfl, r11, g11⟩
  have R11 : Hid (w11.ownsRow w4.heap.size 2 1 (.slice a5 m c5) m (ints (Lists.sq 1 m))) := r11
  have S11 : Hid (w11.ownsRow w2.heap.size 2 1 (.slice a3 m c3) m (ints C)) := row_grown S10.out g11 N35.out.1
  have B11 : Hid (Below w1.heap.size w1 w11) := B10.out.grown g11 B10.out.size G5.out
  clear r11 g11
  go_wp2_with fail
  refine (helds _ _ m _ HML.out R11.out).mono ?_
  rintro e wx ⟨rfl, hwx⟩
  subst hwx
  go_wp2_with fail
  refine (to_any _ _ L (H0.out.on B11.out) HL.out).mono ?_
  rintro e w12 ⟨v12, rfl, r12, b12⟩
  obtain ⟨a12, c12, rfl⟩ := r12.form
  have T12 : Hid (Reads w12 (.slice a12 L.length c12) L) := r12
  have R12 : Hid (w12.ownsRow w4.heap.size 2 1 (.slice a5 m c5) m (ints (Lists.sq 1 m))) := row_below R11.out b12
  have S12 : Hid (w12.ownsRow w2.heap.size 2 1 (.slice a3 m c3) m (ints C)) := row_below S11.out b12
  have B12 : Hid (Below w1.heap.size w1 w12) := B11.out.trans (b12.mono B11.out.size)
  clear r12 b12
  go_wp2_with fail
  refine (II.out _ _ T12.out).mono ?_
  rintro e w13 ⟨v13, rfl, r13, b13⟩
  obtain ⟨a13, c13, rfl⟩ := row_form r13
  have T13 : Hid (w13.ownsRow w12.heap.size 2 1 (.slice a13 m c13) m (ints C)) := r13
  have R13 : Hid (w13.ownsRow w4.heap.size 2 1 (.slice a5 m c5) m (ints (Lists.sq 1 m))) := row_below R12.out b13
  have S13 : Hid (w13.ownsRow w2.heap.size 2 1 (.slice a3 m c3) m (ints C)) := row_below S12.out b13
  have B13 : Hid (Below w1.heap.size w1 w13) := B12.out.trans (b13.mono B12.out.size)
  clear r13 b13
  go_wp2_with fail
  refine (eqs _ _ _ m _ _ C HC.out T13.out S13.out).mono ?_
  rintro e w14 ⟨rfl, b14⟩
  have R14 : Hid (w14.ownsRow w4.heap.size 2 1 (.slice a5 m c5) m (ints (Lists.sq 1 m))) := row_below R13.out b14
  have B14 : Hid (Below w1.heap.size w1 w14) := B13.out.trans (b14.mono B13.out.size)
  clear b14
  go_wp2_with fail
  refine (helds _ _ m _ HML.out R14.out).mono ?_
  rintro e wy ⟨rfl, hwy⟩
  subst hwy
  go_wp2_with fail
  go_ret
  exact ⟨rfl, B14.out⟩
end Go.Proofs.Ytgjimjgdbnicoaa.Flt
