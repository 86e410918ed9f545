/- The law FnExactInversions walked. -/
import Derived.Test.YtpcgnahjibfphaaIvD
import Derived.Test.YtpcgnahjibfphaaIvE
namespace Go.Proofs.Ytpcgnahjibfphaa.Flt
open Go.ChangeShapes Go.WideShapes Go.ChangeAt Go.RowKit
attribute [local go_sem] run_store_float

set_option maxHeartbeats 1000000 in
theorem sinv_no (w : World) (v : Value) (L : Lv) (h : Reads w v L) (hk : lok L = false) :
    Calls Try.prog 19 #[v] w fun e w' => ∃ v', e = .returned v' ∧ w'.ownsRow w.heap.size 51 2 v' (([] : List Int).length / 2) (ints []) ∧ Below w.heap.size w w' := by
  have HA : Hid (Reads (w.alloc (.cells #[] 51)) v L) := h.on ((Below.refl _ _).alloc (Nat.le_refl _) _)
  obtain ⟨a, cap, rfl⟩ := h.form
  clear h
  go_enter Try.func19, Try.ntmps19
  go_wp2_with fail
  refine (sok_any _ _ L HA.out).mono ?_
  rintro e w1 ⟨rfl, b1⟩
  rw [hk]
  have B1 : Hid (Below w.heap.size w w1) := ((Below.refl _ _).alloc (Nat.le_refl _) _).trans (b1.mono (by simp))
  have R1 : Hid (w1.ownsRow w.heap.size 51 2 (.slice (some ⟨w.heap.size, 0, none⟩) 0 0) 0 []) := row_below (World.ownsRow_lit w #[] 0 (Nat.le_refl _) (Nat.zero_le _) rfl) b1
  clear b1
  go_wp2_with fail
  go_ret
  exact ⟨_, rfl, R1.out, B1.out⟩
set_option maxHeartbeats 1000000 in
theorem iinv_no (w : World) (v : Value) (L : Lv) (h : Reads w v L) (hk : lok L = false) (hm : L.length ≤ 1048576) :
    Calls Try.prog 20 #[v] w fun e w' => ∃ v', e = .returned v' ∧ w'.ownsRow w.heap.size 51 2 v' (([] : List Int).length / 2) (ints []) ∧ Below w.heap.size w w' := by
  have HA : Hid (Reads w v L) := h
  have HM : Hid (L.length ≤ 1048576) := hm
  obtain ⟨a, cap, rfl⟩ := h.form
  clear h hm
  go_enter Try.func20, Try.ntmps20
  go_wp2_with fail
  refine (iok_any _ _ L HA.out HM.out).mono ?_
  rintro e w1 ⟨rfl, b1⟩
  rw [hk]
  have B1 : Hid (Below w.heap.size w w1) := b1
  clear b1
  go_wp2_with fail
  go_ret
  exact ⟨_, rfl, ⟨rfl, .inl ⟨rfl, rfl⟩⟩, B1.out⟩
theorem sinv_any (w : World) (v : Value) (L : Lv) (h : Reads w v L) : Calls Try.prog 19 #[v] w fun e w' => ∃ v', e = .returned v' ∧ w'.ownsRow w.heap.size 51 2 v' ((invs L).length / 2) (ints (invs L)) ∧ Below w.heap.size w w' := by
  unfold invs
  cases hk : lok L
  · exact sinv_no w v L h hk
  · exact sinv_yes w v L h hk
theorem iinv_any (w : World) (v : Value) (L : Lv) (h : Reads w v L) (hm : L.length ≤ 1048576) : Calls Try.prog 20 #[v] w fun e w' => ∃ v', e = .returned v' ∧ w'.ownsRow w.heap.size 51 2 v' ((invs L).length / 2) (ints (invs L)) ∧ Below w.heap.size w w' := by
  unfold invs
  cases hk : lok L
  · exact iinv_no w v L h hk hm
  · exact iinv_yes w v L h hk
theorem invs_le (L : Lv) : (invs L).length / 2 ≤ L.length := by
  unfold invs
  cases hk : lok L
  · simp
  · have := (ist_le L L.length).2.2
    simp only [if_true]
    omega

theorem apart_rows {w w' : World} {base base' n n' k k' : Nat} {e e' : TypeId} {v v' : Value} {xs xs' : List Value} (h : w.ownsRow base e k v n xs) (h' : w'.ownsRow base' e' k' v' n' xs') (hb : w.heap.size ≤ base') : (∀ g, v.ownBlock = some g → v'.ownBlock ≠ some g) ∧ (∀ g, v'.ownBlock = some g → v.ownBlock ≠ some g) := by
  constructor
  · intro g h1 h2
    have a := (h.lt g h1).2
    have b := (h'.lt g h2).1
    omega
  · intro g h1 h2
    have a := (h.lt g h2).2
    have b := (h'.lt g h1).1
    omega

set_option maxHeartbeats 2000000 in
theorem invLaw (w : World) (v : Value) (L : Lv) (h : Reads w v L) : Calls Try.prog 6 #[v] w fun e w' => e = .returned (.bool true) ∧ Below w.heap.size w w' := by
  have HF := h.fits
  obtain ⟨a, cap, rfl⟩ := h.form
  have H0 : Hid (Reads w (.slice a L.length cap) L) := h
  clear h
  by_cases hl : 1048576 < L.length
  · go_enter Try.func6, Try.ntmps6
    go_wp2_with fail
    refine (sz_far _ _ _ _ hl HF).mono ?_
    rintro e w1 ⟨rfl, hw1⟩
    subst hw1
    go_wp2_with fail
    go_ret
    exact ⟨rfl, Below.refl _ _⟩
  have hl' : L.length ≤ 1048576 := by omega
  have HL : Hid (L.length ≤ 1048576) := hl'
  have i1 : ¬ (1048576 : Int) - (L.length : Int) < 0 := by omega
  have SI : Hid (∀ w v, Reads w v L → Calls Try.prog 19 #[v] w fun e w' => ∃ v', e = .returned v' ∧ w'.ownsRow w.heap.size 51 2 v' ((invs L).length / 2) (ints (invs L)) ∧ Below w.heap.size w w') := fun w v h => sinv_any w v L h
  have II : Hid (∀ w v, Reads w v L → Calls Try.prog 20 #[v] w fun e w' => ∃ v', e = .returned v' ∧ w'.ownsRow w.heap.size 51 2 v' ((invs L).length / 2) (ints (invs L)) ∧ Below w.heap.size w w') := fun w v h => iinv_any w v L h hl'
  have ML : (invs L).length / 2 ≤ 1048576 := Nat.le_trans (invs_le L) hl'
  generalize hC : invs L = C at SI II ML
  obtain ⟨m, hm⟩ : ∃ m, C.length / 2 = m := ⟨_, rfl⟩
  rw [hm] at SI II ML
  clear hC hm
  have HML : Hid (m ≤ 1048576) := ML
  have i2 : ¬ 1 + (L.length : Int) * 2 < 0 := by omega
  have i3 : ¬ 1 + (m : Int) * 2 < 0 := by omega
  go_enter Try.func6, Try.ntmps6
  go_wp2_with fail
  refine (sz_near _ _ _ _ hl').mono ?_
  rintro e w1 ⟨rfl, hw1⟩
  subst hw1
  go_wp2_with fail
  refine (to_any _ _ L H0.out HL.out).mono ?_
  rintro e w2 ⟨v2, rfl, r2, b2⟩
  obtain ⟨a2, c2, rfl⟩ := r2.form
  have R2 : Hid (Reads w2 (.slice a2 L.length c2) L) := r2
  have B2 : Hid (Below w1.heap.size w1 w2) := b2
  clear r2 b2
  go_wp2_with fail
  refine (SI.out _ _ R2.out).mono ?_
  rintro e w3 ⟨v3, rfl, r3, b3⟩
  obtain ⟨a3, c3, rfl⟩ := row_form r3
  have R3 : Hid (w3.ownsRow w2.heap.size 51 2 (.slice a3 m c3) m (ints C)) := r3
  have B3 : Hid (Below w1.heap.size w1 w3) := B2.out.trans (b3.mono B2.out.size)
  clear r3 b3
  go_wp2_with fail
  refine (to_own _ _ L (H0.out.on B3.out) HL.out).mono ?_
  rintro e w4 ⟨v4, xs, rfl, o4, r4, b4⟩
  obtain ⟨a4, c4, rfl⟩ := r4.form
  have R4 : Hid (Reads w4 (.slice a4 L.length c4) L) := r4
  have O4 : Hid (w4.ownsRow w3.heap.size 33 2 (.slice a4 L.length c4) L.length xs) := o4
  have S4 : Hid (w4.ownsRow w2.heap.size 51 2 (.slice a3 m c3) m (ints C)) := row_below R3.out b4
  have B4 : Hid (Below w1.heap.size w1 w4) := B3.out.trans (b4.mono B3.out.size)
  have SZ : Hid (w3.heap.size ≤ w4.heap.size) := b4.size
  have SW : Hid (w1.heap.size ≤ w3.heap.size) := B3.out.size
  clear r4 b4 o4
  go_wp2_with fail
  refine (II.out _ _ R4.out).mono ?_
  rintro e w5 ⟨v5, rfl, r5, b5⟩
  obtain ⟨a5, c5, rfl⟩ := row_form r5
  have R5 : Hid (w5.ownsRow w4.heap.size 51 2 (.slice a5 m c5) m (ints C)) := r5
  have S5 : Hid (w5.ownsRow w2.heap.size 51 2 (.slice a3 m c3) m (ints C)) := row_below S4.out b5
  have X5 : Hid (Reads w5 (.slice a4 L.length c4) L) := R4.out.on b5
  have O5 : Hid (w5.ownsRow w3.heap.size 33 2 (.slice a4 L.length c4) L.length xs) := row_below O4.out b5
  have B5 : Hid (Below w1.heap.size w1 w5) := B4.out.trans (b5.mono B4.out.size)
  have N34 : Hid _ := apart_rows R3.out O4.out (Nat.le_refl _)
  have N45 : Hid _ := apart_rows O4.out R5.out (Nat.le_refl _)
  have N35 : Hid _ := apart_rows R3.out R5.out SZ.out
  have G4 : Hid (∀ g, (Value.slice a4 L.length c4).ownBlock = some g → w1.heap.size ≤ g) := fun g hg => Nat.le_trans SW.out (O4.out.lt g hg).1
  have G5 : Hid (∀ g, (Value.slice a5 m c5).ownBlock = some g → w1.heap.size ≤ g) := fun g hg => Nat.le_trans (Nat.le_trans SW.out SZ.out) (R5.out.lt g hg).1
  clear r5 b5
  go_wp2_with fail
  refine (eqs _ _ _ m _ _ C R5.out S5.out).mono ?_
  rintro e w6 ⟨rfl, b6⟩
  have R6 : Hid (w6.ownsRow w4.heap.size 51 2 (.slice a5 m c5) m (ints C)) := row_below R5.out b6
  have S6 : Hid (w6.ownsRow w2.heap.size 51 2 (.slice a3 m c3) m (ints C)) := row_below S5.out b6
  have X6 : Hid (Reads w6 (.slice a4 L.length c4) L) := X5.out.on b6
  have O6 : Hid (w6.ownsRow w3.heap.size 33 2 (.slice a4 L.length c4) L.length xs) := row_below O5.out b6
  have B6 : Hid (Below w1.heap.size w1 w6) := B5.out.trans (b6.mono B5.out.size)
  clear b6
  go_wp2_with fail
  refine (to_any _ _ L (H0.out.on B6.out) HL.out).mono ?_
  rintro e w7 ⟨v7, rfl, r7, b7⟩
  obtain ⟨a7, c7, rfl⟩ := r7.form
  have T7 : Hid (Reads w7 (.slice a7 L.length c7) L) := r7
  have R7 : Hid (w7.ownsRow w4.heap.size 51 2 (.slice a5 m c5) m (ints C)) := row_below R6.out b7
  have S7 : Hid (w7.ownsRow w2.heap.size 51 2 (.slice a3 m c3) m (ints C)) := row_below S6.out b7
  have X7 : Hid (Reads w7 (.slice a4 L.length c4) L) := X6.out.on b7
  have O7 : Hid (w7.ownsRow w3.heap.size 33 2 (.slice a4 L.length c4) L.length xs) := row_below O6.out b7
  have B7 : Hid (Below w1.heap.size w1 w7) := B6.out.trans (b7.mono B6.out.size)
  clear r7 b7
  go_wp2_with fail
  refine (eq_same _ _ _ L X7.out T7.out).mono ?_
  rintro e w8 ⟨rfl, b8⟩
  have R8 : Hid (w8.ownsRow w4.heap.size 51 2 (.slice a5 m c5) m (ints C)) := row_below R7.out b8
  have S8 : Hid (w8.ownsRow w2.heap.size 51 2 (.slice a3 m c3) m (ints C)) := row_below S7.out b8
  have O8 : Hid (w8.ownsRow w3.heap.size 33 2 (.slice a4 L.length c4) L.length xs) := row_below O7.out b8
  have B8 : Hid (Below w1.heap.size w1 w8) := B7.out.trans (b8.mono B7.out.size)
  clear b8
  go_wp2_with fail
  refine (markL _ _ _ _ xs HL.out O8.out).mono ?_
  rintro e w9 ⟨rfl, g9⟩
  have R9 : Hid (w9.ownsRow w4.heap.size 51 2 (.slice a5 m c5) m (ints C)) := row_grown R8.out g9 N45.out.2
  have S9 : Hid (w9.ownsRow w2.heap.size 51 2 (.slice a3 m c3) m (ints C)) := row_grown S8.out g9 N34.out.1
  have B9 : Hid (Below w1.heap.size w1 w9) := B8.out.grown g9 B8.out.size G4.out
  clear g9
  go_wp2_with fail
  refine (eqs _ _ _ m _ _ C R9.out S9.out).mono ?_
  rintro e w10 ⟨rfl, b10⟩
  have R10 : Hid (w10.ownsRow w4.heap.size 51 2 (.slice a5 m c5) m (ints C)) := row_below R9.out b10
  have S10 : Hid (w10.ownsRow w2.heap.size 51 2 (.slice a3 m c3) m (ints C)) := row_below S9.out b10
  have B10 : Hid (Below w1.heap.size w1 w10) := B9.out.trans (b10.mono B9.out.size)
  clear b10
  go_wp2_with fail
  refine (marks _ _ m _ C HML.out R10.out).mono ?_
  rintro e w11 ⟨rfl, r11, g11⟩
  have R11 : Hid (w11.ownsRow w4.heap.size 51 2 (.slice a5 m c5) m (ints (sq 1 (m * 2)))) := r11
  have S11 : Hid (w11.ownsRow w2.heap.size 51 2 (.slice a3 m c3) m (ints C)) := row_grown S10.out g11 N35.out.1
  have B11 : Hid (Below w1.heap.size w1 w11) := B10.out.grown g11 B10.out.size G5.out
  clear r11 g11
  go_wp2_with fail
  refine (helds _ _ m _ HML.out R11.out).mono ?_
  rintro e wx ⟨rfl, hwx⟩
  subst hwx
  go_wp2_with fail
  refine (to_any _ _ L (H0.out.on B11.out) HL.out).mono ?_
  rintro e w12 ⟨v12, rfl, r12, b12⟩
  obtain ⟨a12, c12, rfl⟩ := r12.form
  have T12 : Hid (Reads w12 (.slice a12 L.length c12) L) := r12
  have R12 : Hid (w12.ownsRow w4.heap.size 51 2 (.slice a5 m c5) m (ints (sq 1 (m * 2)))) := row_below R11.out b12
  have S12 : Hid (w12.ownsRow w2.heap.size 51 2 (.slice a3 m c3) m (ints C)) := row_below S11.out b12
  have B12 : Hid (Below w1.heap.size w1 w12) := B11.out.trans (b12.mono B11.out.size)
  clear r12 b12
  go_wp2_with fail
  refine (II.out _ _ T12.out).mono ?_
  rintro e w13 ⟨v13, rfl, r13, b13⟩
  obtain ⟨a13, c13, rfl⟩ := row_form r13
  have T13 : Hid (w13.ownsRow w12.heap.size 51 2 (.slice a13 m c13) m (ints C)) := r13
  have R13 : Hid (w13.ownsRow w4.heap.size 51 2 (.slice a5 m c5) m (ints (sq 1 (m * 2)))) := row_below R12.out b13
  have S13 : Hid (w13.ownsRow w2.heap.size 51 2 (.slice a3 m c3) m (ints C)) := row_below S12.out b13
  have B13 : Hid (Below w1.heap.size w1 w13) := B12.out.trans (b13.mono B12.out.size)
  clear r13 b13
  go_wp2_with fail
  refine (eqs _ _ _ m _ _ C T13.out S13.out).mono ?_
  rintro e w14 ⟨rfl, b14⟩
  have R14 : Hid (w14.ownsRow w4.heap.size 51 2 (.slice a5 m c5) m (ints (sq 1 (m * 2)))) := row_below R13.out b14
  have B14 : Hid (Below w1.heap.size w1 w14) := B13.out.trans (b14.mono B13.out.size)
  clear b14
  go_wp2_with fail
  refine (helds _ _ m _ HML.out R14.out).mono ?_
  rintro e wy ⟨rfl, hwy⟩
  subst hwy
  go_wp2_with fail
  go_ret
  exact ⟨rfl, B14.out⟩
end Go.Proofs.Ytpcgnahjibfphaa.Flt
