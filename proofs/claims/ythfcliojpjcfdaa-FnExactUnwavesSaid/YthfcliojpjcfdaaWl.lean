/- Lists of pairs alike but for which missing number: compared; the laws of Waves and Unwaves walked, what model and program answer as hypotheses. -/
import Derived.Test.YthfcliojpjcfdaaPr
namespace Go.Proofs.Ythfcliojpjcfdaa.Wl
open Go.ChangeShapes Go.WideShapes Go.ChangeAt Go.RowKit
open Go.Proofs.Ythfcliojpjcfdaa.Flt Go.Proofs.Ythfcliojpjcfdaa.Pr
attribute [local go_sem] Pr.run_store_float
theorem below_drewN {B : Nat} {a w : World} (h : Below B a w) (n : Nat) : Below B a (w.drewN n) := h.trans ⟨rfl, rfl, rfl, Nat.le_refl _, fun _ _ => rfl⟩
def Alike (L M : Ls) : Prop := L.length = M.length ∧ ∀ i, i < L.length → cn (c0 L i) = cn (c0 M i) ∧ cn (c1 L i) = cn (c1 M i)
/-- a list that tells these numbers, but for which missing number -/
def Tells (L : Ls) (f : Nat → Nat × Nat) (n : Nat) : Prop := L.length = n ∧ ∀ i, i < n → cn (c0 L i) = (f i).1 ∧ cn (c1 L i) = (f i).2
theorem Tells.alike {L M : Ls} {f : Nat → Nat × Nat} {n : Nat} (h : Tells L f n) (h' : Tells M f n) : Alike L M := ⟨h.1.trans h'.1.symm, fun i hi => by
  rw [h.1] at hi
  exact ⟨(h.2 i hi).1.trans (h'.2 i hi).1.symm, (h.2 i hi).2.trans (h'.2 i hi).2.symm⟩⟩
set_option maxHeartbeats 1000000 in
theorem eq1_cn (x0 x1 y0 y1 : Nat) (w : World) (h0 : cn x0 = cn y0) (h1 : cn x1 = cn y1) : Calls Try.prog 18 #[.agg #[.float .f64 x0, .float .f64 x1], .agg #[.float .f64 y0, .float .f64 y1]] w fun e w' => e = .returned (.bool true) ∧ Below w.heap.size w w' := by
  have H0 : Hid (cn x0 = cn y0) := h0
  have H1 : Hid (cn x1 = cn y1) := h1
  clear h0 h1
  go_enter Try.func18, Try.ntmps18
  go_wp2_with fail
  refine (sf_cn _ _ _ H0.out).mono ?_
  rintro e w1 ⟨rfl, rfl⟩
  go_wp2_with fail
  refine (sf_cn _ _ _ H1.out).mono ?_
  rintro e w1 ⟨rfl, rfl⟩
  go_wp2_with fail
  go_ret
  exact ⟨rfl, ((Below.refl _ _).alloc (Nat.le_refl _) _).alloc (by simp) _⟩

set_option maxHeartbeats 1000000 in
theorem eq_cn (w : World) (v1 v2 : Value) (L M : Ls) (h1 : Reads w v1 L) (h2 : Reads w v2 M) (hE : Alike L M) :
    Calls Try.prog 9 #[v1, v2] w fun e w' => e = .returned (.bool true) ∧ Below w.heap.size w w' := by
  by_cases hL : L = []
  · subst hL
    have hM : M = [] := List.eq_nil_of_length_eq_zero hE.1.symm
    subst hM
    obtain ⟨a, cap, rfl⟩ := h1.form
    obtain ⟨a2, cap2, rfl⟩ := h2.form
    exact eq_zero w _ _ _ _
  · rcases h1 with ⟨e, _⟩ | ⟨b1, o1, d1, rfl, x1, x2, x3, x4⟩
    · exact absurd e hL
    rcases h2 with ⟨e, _⟩ | ⟨b2, o2, d2, rfl, y1, y2, y3, y4⟩
    · exact absurd (List.eq_nil_of_length_eq_zero (by rw [hE.1, e]; rfl)) hL
    have K1 : Hid (b1 < w.heap.size ∧ ∀ i, i < L.length → Cs w b1 o1 L i) := ⟨x3, x4⟩
    have K2 : Hid (b2 < w.heap.size ∧ ∀ i, i < L.length → Cs w b2 o2 M i) := ⟨y3, fun i hi => y4 i (by rw [← hE.1]; exact hi)⟩
    have KE : Hid (∀ i, i < L.length → cn (c0 L i) = cn (c0 M i) ∧ cn (c1 L i) = cn (c1 M i)) := hE.2
    rw [← hE.1] at y1 ⊢
    obtain ⟨n, hn⟩ : ∃ n, n = L.length := ⟨_, rfl⟩
    rw [← hn] at x1 y1 ⊢
    have HN : Hid (n = L.length) := hn
    unfold maxLen at x2 y2
    clear x4 y4 hn hL hE
    go_enter Try.func9, Try.ntmps9
    go_wp2
    go_loopw [5] (fun i wr => ∃ k : Nat, k ≤ n ∧ i = .int .i64 k ∧ Hid (Below w.heap.size w wr)) (fun i _ => n - (intOf i).toNat)
    case atStart => exact ⟨0, Nat.zero_le _, rfl, Below.refl _ _⟩
    case round =>
      obtain ⟨k, hk, rfl, BR⟩ := hrel
      by_cases hlt : k < n
      · have i0 : (0 : Int) ≤ (k : Int) := by omega
        have i1 : (k : Int) < (n : Int) := by omega
        obtain ⟨q0, q1⟩ : Cs wr b1 o1 L k := (K1.out.2 k (by rw [← HN.out]; exact hlt)).below BR.out K1.out.1
        obtain ⟨r0, r1⟩ : Cs wr b2 o2 M k := (K2.out.2 k (by rw [← HN.out]; exact hlt)).below BR.out K2.out.1
        obtain ⟨ka, kb⟩ := KE.out k (by rw [← HN.out]; exact hlt)
        have KA : Hid (cn (c0 L k) = cn (c0 M k)) := ka
        have KB : Hid (cn (c1 L k) = cn (c1 M k)) := kb
        clear ka kb
        generalize c0 L k = u0 at *
        generalize c1 L k = u1 at *
        generalize c0 M k = m0 at *
        generalize c1 M k = m1 at *
        go_wp2_with fail
        go_region_held3 (fun w' => w'.cell? ⟨b1, o1 + k * 2, none⟩ = some (.float .f64 u0) ∧ w'.cell? ⟨b1, o1 + k * 2 + 1, none⟩ = some (.float .f64 u1) ∧ w'.cell? ⟨b2, o2 + k * 2, none⟩ = some (.float .f64 m0) ∧ w'.cell? ⟨b2, o2 + k * 2 + 1, none⟩ = some (.float .f64 m1)) (go_keep)
          (first
          | (go_at_call 18; refine (eq1_cn _ _ _ _ _ KA.out KB.out).mono ?_; rintro e w1 ⟨rfl, hb1⟩; have B1 := BR.out.drew.trans (hb1.mono BR.out.size); have k1 := K1.out.1; have k2 := K2.out.1; have s0 := (hb1.cell (p := ⟨b1, o1 + k * 2, none⟩) (Nat.lt_of_lt_of_le k1 BR.out.size)).trans q0; have s1 := (hb1.cell (p := ⟨b1, o1 + k * 2 + 1, none⟩) (Nat.lt_of_lt_of_le k1 BR.out.size)).trans q1; have t0 := (hb1.cell (p := ⟨b2, o2 + k * 2, none⟩) (Nat.lt_of_lt_of_le k2 BR.out.size)).trans r0; have t1 := (hb1.cell (p := ⟨b2, o2 + k * 2 + 1, none⟩) (Nat.lt_of_lt_of_le k2 BR.out.size)).trans r1))
        go_wp2_with fail
        go_roundw
        case rel => exact ⟨k + 1, by omega, by go_num, B1⟩
        case measure => simp [intOf]; omega
      · go_wp2
        go_ret
        exact ⟨rfl, BR.out⟩

set_option maxHeartbeats 1000000 in
theorem wavesLaw (w : World) (v : Value) (L : Pr.Ls) (h : Pr.Reads w v L) (f : Nat → Nat × Nat) (m : Nat) (ML : m ≤ 1000)
    (SA : ∀ w v, Pr.Reads w v L → Calls Try.prog 6 #[v] w fun e w' => ∃ v' C, e = .returned v' ∧ Tells C f m ∧ Pr.Row w' w.heap.size v' C ∧ Below w.heap.size w w')
    (IA : ∀ w v, Pr.Reads w v L → Calls Try.prog 8 #[v] w fun e w' => ∃ v' C, e = .returned v' ∧ Tells C f m ∧ Pr.Row w' w.heap.size v' C ∧ Below w.heap.size w w') : Calls Try.prog 3 #[v] w fun e w' => e = .returned (.bool true) ∧ Below w.heap.size w w' := by
  have HF := h.fits
  obtain ⟨a, cap, rfl⟩ := h.form
  have H0 : Hid (Pr.Reads w (.slice a L.length cap) L) := h
  clear h
  by_cases hl : 1048576 < L.length
  · go_enter Try.func3, Try.ntmps3
    go_wp2_with fail
    refine (Pr.sz_far _ _ _ _ _ (by omega) (by omega) (by omega) HF).mono ?_
    rintro e w1 ⟨rfl, hw1⟩
    subst hw1
    go_wp2_with fail
    go_ret
    exact ⟨rfl, Below.refl _ _⟩
  have hl' : L.length ≤ 1048576 := by omega
  have HL : Hid (L.length ≤ 1048576) := hl'
  have i1 : ¬ (1048576 : Int) - (L.length : Int) < 0 := by omega
  have SI : Hid (∀ w v, Pr.Reads w v L → Calls Try.prog 6 #[v] w fun e w' => ∃ v' C, e = .returned v' ∧ Tells C f m ∧ Pr.Row w' w.heap.size v' C ∧ Below w.heap.size w w') := SA
  have II : Hid (∀ w v, Pr.Reads w v L → Calls Try.prog 8 #[v] w fun e w' => ∃ v' C, e = .returned v' ∧ Tells C f m ∧ Pr.Row w' w.heap.size v' C ∧ Below w.heap.size w w') := IA
  have HML : Hid (m ≤ 1048576) := Nat.le_trans ML (by decide)
  clear SA IA
  have i2 : ¬ 1 + (L.length : Int) * 2 < 0 := by omega
  go_enter Try.func3, Try.ntmps3
  go_wp2_with fail
  refine (Pr.sz_near _ _ _ _ _ (by omega) (by omega)).mono ?_
  rintro e w1 ⟨rfl, hw1⟩
  subst hw1
  go_wp2_with fail
  refine (Pr.to_own _ _ L H0.out HL.out).mono ?_
  rintro e w2 ⟨v2, rfl, r2, b2⟩
  obtain ⟨a2, c2, rfl⟩ := r2.form
  have R2 : Hid (Pr.Reads w2 (.slice a2 L.length c2) L) := r2.reads
  have B2 : Hid (Below w1.heap.size w1 w2) := b2
  clear r2 b2
  go_wp2_with fail
  refine (SI.out _ _ R2.out).mono ?_
  rintro e w3 ⟨v3, C, rfl, tc, r3, b3⟩
  have TC : Hid (Tells C f m) := tc
  clear tc
  obtain ⟨a3, c3, rfl⟩ := r3.form
  have R3 : Hid (Pr.Row w3 w2.heap.size (.slice a3 C.length c3) C) := r3
  have B3 : Hid (Below w1.heap.size w1 w3) := B2.out.trans (b3.mono B2.out.size)
  clear r3 b3
  go_wp2_with fail
  refine (Pr.to_own _ _ L (H0.out.on B3.out) HL.out).mono ?_
  rintro e w4 ⟨v4, rfl, r4, b4⟩
  obtain ⟨a4, c4, rfl⟩ := r4.form
  have O4 : Hid (Pr.Row w4 w3.heap.size (.slice a4 L.length c4) L) := r4
  have S4 : Hid (Pr.Row w4 w2.heap.size (.slice a3 C.length c3) C) := R3.out.on b4
  have B4 : Hid (Below w1.heap.size w1 w4) := B3.out.trans (b4.mono B3.out.size)
  have SZ : Hid (w3.heap.size ≤ w4.heap.size) := b4.size
  have SW : Hid (w1.heap.size ≤ w3.heap.size) := B3.out.size
  clear r4 b4
  go_wp2_with fail
  refine (II.out _ _ O4.out.reads).mono ?_
  rintro e w5 ⟨v5, D, rfl, td, r5, b5⟩
  have TD : Hid (Tells D f m) := td
  have HMD : Hid (D.length ≤ 1048576) := (by show _ ≤ _; rw [td.1]; exact HML.out)
  have i3 : ¬ 1 + (D.length : Int) * 2 < 0 := by omega
  clear td
  obtain ⟨a5, c5, rfl⟩ := r5.form
  have R5 : Hid (Pr.Row w5 w4.heap.size (.slice a5 D.length c5) D) := r5
  have S5 : Hid (Pr.Row w5 w2.heap.size (.slice a3 C.length c3) C) := S4.out.on b5
  have O5 : Hid (Pr.Row w5 w3.heap.size (.slice a4 L.length c4) L) := O4.out.on b5
  have B5 : Hid (Below w1.heap.size w1 w5) := B4.out.trans (b5.mono B4.out.size)
  have N34 : Hid (∀ g, (Value.slice a3 C.length c3).ownBlock = some g → (Value.slice a4 L.length c4).ownBlock ≠ some g) := fun g x y => by
    have p := (R3.out.lt g x).2
    have q := (O4.out.lt g y).1
    omega
  have N54 : Hid (∀ g, (Value.slice a5 D.length c5).ownBlock = some g → (Value.slice a4 L.length c4).ownBlock ≠ some g) := fun g x y => by
    have p := (R5.out.lt g x).1
    have q := (O4.out.lt g y).2
    omega
  have N35 : Hid (∀ g, (Value.slice a3 C.length c3).ownBlock = some g → (Value.slice a5 D.length c5).ownBlock ≠ some g) := fun g x y => by
    have p := (R3.out.lt g x).2
    have q := (R5.out.lt g y).1
    have := SZ.out
    omega
  have G4 : Hid (∀ g, (Value.slice a4 L.length c4).ownBlock = some g → w1.heap.size ≤ g) := fun g hg => Nat.le_trans SW.out (O4.out.lt g hg).1
  have G5 : Hid (∀ g, (Value.slice a5 D.length c5).ownBlock = some g → w1.heap.size ≤ g) := fun g hg => Nat.le_trans (Nat.le_trans SW.out SZ.out) (R5.out.lt g hg).1
  clear r5 b5
  go_wp2_with fail
  refine (eq_cn _ _ _ D C R5.out.reads S5.out.reads (TD.out.alike TC.out)).mono ?_
  rintro e w6 ⟨rfl, b6⟩
  have R6 : Hid (Pr.Row w6 w4.heap.size (.slice a5 D.length c5) D) := R5.out.on b6
  have S6 : Hid (Pr.Row w6 w2.heap.size (.slice a3 C.length c3) C) := S5.out.on b6
  have O6 : Hid (Pr.Row w6 w3.heap.size (.slice a4 L.length c4) L) := O5.out.on b6
  have B6 : Hid (Below w1.heap.size w1 w6) := B5.out.trans (b6.mono B5.out.size)
  clear b6
  go_wp2_with fail
  refine (Pr.to_own _ _ L (H0.out.on B6.out) HL.out).mono ?_
  rintro e w7 ⟨v7, rfl, r7, b7⟩
  obtain ⟨a7, c7, rfl⟩ := r7.form
  have T7 : Hid (Pr.Reads w7 (.slice a7 L.length c7) L) := r7.reads
  have R7 : Hid (Pr.Row w7 w4.heap.size (.slice a5 D.length c5) D) := R6.out.on b7
  have S7 : Hid (Pr.Row w7 w2.heap.size (.slice a3 C.length c3) C) := S6.out.on b7
  have O7 : Hid (Pr.Row w7 w3.heap.size (.slice a4 L.length c4) L) := O6.out.on b7
  have B7 : Hid (Below w1.heap.size w1 w7) := B6.out.trans (b7.mono B6.out.size)
  clear r7 b7
  go_wp2_with fail
  refine (Pr.eq_same _ _ _ L O7.out.reads T7.out).mono ?_
  rintro e w8 ⟨rfl, b8⟩
  have R8 : Hid (Pr.Row w8 w4.heap.size (.slice a5 D.length c5) D) := R7.out.on b8
  have S8 : Hid (Pr.Row w8 w2.heap.size (.slice a3 C.length c3) C) := S7.out.on b8
  have O8 : Hid (Pr.Row w8 w3.heap.size (.slice a4 L.length c4) L) := O7.out.on b8
  have B8 : Hid (Below w1.heap.size w1 w8) := B7.out.trans (b8.mono B7.out.size)
  clear b8
  obtain ⟨xs8, o8, _⟩ := O8.out
  have O8' : Hid (w8.ownsRow w3.heap.size 34 2 (.slice a4 L.length c4) L.length xs8) := o8
  clear o8
  go_wp2_with fail
  refine (Pr.mark_any _ _ _ _ xs8 HL.out O8'.out).mono ?_
  rintro e w9 ⟨rfl, _, g9⟩
  have R9 : Hid (Pr.Row w9 w4.heap.size (.slice a5 D.length c5) D) := R8.out.grown g9 N54.out
  have S9 : Hid (Pr.Row w9 w2.heap.size (.slice a3 C.length c3) C) := S8.out.grown g9 N34.out
  have B9 : Hid (Below w1.heap.size w1 w9) := B8.out.grown g9 B8.out.size G4.out
  clear g9
  go_wp2_with fail
  refine (eq_cn _ _ _ D C R9.out.reads S9.out.reads (TD.out.alike TC.out)).mono ?_
  rintro e w10 ⟨rfl, b10⟩
  have R10 : Hid (Pr.Row w10 w4.heap.size (.slice a5 D.length c5) D) := R9.out.on b10
  have S10 : Hid (Pr.Row w10 w2.heap.size (.slice a3 C.length c3) C) := S9.out.on b10
  have B10 : Hid (Below w1.heap.size w1 w10) := B9.out.trans (b10.mono B9.out.size)
  clear b10
  obtain ⟨xs10, o10, _⟩ := R10.out
  have R10' : Hid (w10.ownsRow w4.heap.size 34 2 (.slice a5 D.length c5) D.length xs10) := o10
  clear o10
  go_wp2_with fail
  refine (Pr.mark_any _ _ _ _ xs10 HMD.out R10'.out).mono ?_
  rintro e w11 ⟨rfl, r11, g11⟩
  have R11 : Hid (Pr.Row w11 w4.heap.size (.slice a5 D.length c5) (Pr.mks D.length)) := r11
  have S11 : Hid (Pr.Row w11 w2.heap.size (.slice a3 C.length c3) C) := S10.out.grown g11 N35.out
  have B11 : Hid (Below w1.heap.size w1 w11) := B10.out.grown g11 B10.out.size G5.out
  clear r11 g11
  go_wp2_with fail
  refine (Pr.held_any _ _ D.length HMD.out R11.out.reads).mono ?_
  rintro e wx ⟨rfl, mx, hwx⟩
  have RX : Hid (Pr.Row wx w4.heap.size (.slice a5 D.length c5) (Pr.mks D.length)) := (by show Pr.Row _ _ _ _; rw [hwx]; exact R11.out)
  have SX : Hid (Pr.Row wx w2.heap.size (.slice a3 C.length c3) C) := (by show Pr.Row _ _ _ _; rw [hwx]; exact S11.out)
  have BX : Hid (Below w1.heap.size w1 wx) := (by show Below _ _ _; rw [hwx]; exact below_drewN B11.out _)
  clear hwx
  go_wp2_with fail
  refine (Pr.to_own _ _ L (H0.out.on BX.out) HL.out).mono ?_
  rintro e w12 ⟨v12, rfl, r12, b12⟩
  obtain ⟨a12, c12, rfl⟩ := r12.form
  have T12 : Hid (Pr.Reads w12 (.slice a12 L.length c12) L) := r12.reads
  have R12 : Hid (Pr.Row w12 w4.heap.size (.slice a5 D.length c5) (Pr.mks D.length)) := RX.out.on b12
  have S12 : Hid (Pr.Row w12 w2.heap.size (.slice a3 C.length c3) C) := SX.out.on b12
  have B12 : Hid (Below w1.heap.size w1 w12) := BX.out.trans (b12.mono BX.out.size)
  clear r12 b12
  go_wp2_with fail
  refine (II.out _ _ T12.out).mono ?_
  rintro e w13 ⟨v13, E, rfl, te, r13, b13⟩
  have TE : Hid (Tells E f m) := te
  clear te
  obtain ⟨a13, c13, rfl⟩ := r13.form
  have T13 : Hid (Pr.Row w13 w12.heap.size (.slice a13 E.length c13) E) := r13
  have R13 : Hid (Pr.Row w13 w4.heap.size (.slice a5 D.length c5) (Pr.mks D.length)) := R12.out.on b13
  have S13 : Hid (Pr.Row w13 w2.heap.size (.slice a3 C.length c3) C) := S12.out.on b13
  have B13 : Hid (Below w1.heap.size w1 w13) := B12.out.trans (b13.mono B12.out.size)
  clear r13 b13
  go_wp2_with fail
  refine (eq_cn _ _ _ E C T13.out.reads S13.out.reads (TE.out.alike TC.out)).mono ?_
  rintro e w14 ⟨rfl, b14⟩
  have R14 : Hid (Pr.Row w14 w4.heap.size (.slice a5 D.length c5) (Pr.mks D.length)) := R13.out.on b14
  have B14 : Hid (Below w1.heap.size w1 w14) := B13.out.trans (b14.mono B13.out.size)
  clear b14
  go_wp2_with fail
  refine (Pr.held_any _ _ D.length HMD.out R14.out.reads).mono ?_
  rintro e wy ⟨rfl, my, hwy⟩
  have BY : Hid (Below w1.heap.size w1 wy) := (by show Below _ _ _; rw [hwy]; exact below_drewN B14.out _)
  clear hwy
  go_wp2_with fail
  go_ret
  exact ⟨rfl, BY.out⟩
set_option maxHeartbeats 1000000 in
theorem unwavesLaw (w : World) (v : Value) (L : Pr.Ls) (h : Pr.Reads w v L) (f : Nat → Nat × Nat) (m : Nat) (ML : m ≤ 1000)
    (SA : ∀ w v, Pr.Reads w v L → Calls Try.prog 12 #[v] w fun e w' => ∃ v' C, e = .returned v' ∧ Tells C f m ∧ Pr.Row w' w.heap.size v' C ∧ Below w.heap.size w w')
    (IA : ∀ w v, Pr.Reads w v L → Calls Try.prog 13 #[v] w fun e w' => ∃ v' C, e = .returned v' ∧ Tells C f m ∧ Pr.Row w' w.heap.size v' C ∧ Below w.heap.size w w') : Calls Try.prog 4 #[v] w fun e w' => e = .returned (.bool true) ∧ Below w.heap.size w w' := by
  have HF := h.fits
  obtain ⟨a, cap, rfl⟩ := h.form
  have H0 : Hid (Pr.Reads w (.slice a L.length cap) L) := h
  clear h
  by_cases hl : 1048576 < L.length
  · go_enter Try.func4, Try.ntmps4
    go_wp2_with fail
    refine (Pr.sz_far _ _ _ _ _ (by omega) (by omega) (by omega) HF).mono ?_
    rintro e w1 ⟨rfl, hw1⟩
    subst hw1
    go_wp2_with fail
    go_ret
    exact ⟨rfl, Below.refl _ _⟩
  have hl' : L.length ≤ 1048576 := by omega
  have HL : Hid (L.length ≤ 1048576) := hl'
  have i1 : ¬ (1048576 : Int) - (L.length : Int) < 0 := by omega
  have SI : Hid (∀ w v, Pr.Reads w v L → Calls Try.prog 12 #[v] w fun e w' => ∃ v' C, e = .returned v' ∧ Tells C f m ∧ Pr.Row w' w.heap.size v' C ∧ Below w.heap.size w w') := SA
  have II : Hid (∀ w v, Pr.Reads w v L → Calls Try.prog 13 #[v] w fun e w' => ∃ v' C, e = .returned v' ∧ Tells C f m ∧ Pr.Row w' w.heap.size v' C ∧ Below w.heap.size w w') := IA
  have HML : Hid (m ≤ 1048576) := Nat.le_trans ML (by decide)
  clear SA IA
  have i2 : ¬ 1 + (L.length : Int) * 2 < 0 := by omega
  go_enter Try.func4, Try.ntmps4
  go_wp2_with fail
  refine (Pr.sz_near _ _ _ _ _ (by omega) (by omega)).mono ?_
  rintro e w1 ⟨rfl, hw1⟩
  subst hw1
  go_wp2_with fail
  refine (Pr.to_own _ _ L H0.out HL.out).mono ?_
  rintro e w2 ⟨v2, rfl, r2, b2⟩
  obtain ⟨a2, c2, rfl⟩ := r2.form
  have R2 : Hid (Pr.Reads w2 (.slice a2 L.length c2) L) := r2.reads
  have B2 : Hid (Below w1.heap.size w1 w2) := b2
  clear r2 b2
  go_wp2_with fail
  refine (SI.out _ _ R2.out).mono ?_
  rintro e w3 ⟨v3, C, rfl, tc, r3, b3⟩
  have TC : Hid (Tells C f m) := tc
  clear tc
  obtain ⟨a3, c3, rfl⟩ := r3.form
  have R3 : Hid (Pr.Row w3 w2.heap.size (.slice a3 C.length c3) C) := r3
  have B3 : Hid (Below w1.heap.size w1 w3) := B2.out.trans (b3.mono B2.out.size)
  clear r3 b3
  go_wp2_with fail
  refine (Pr.to_own _ _ L (H0.out.on B3.out) HL.out).mono ?_
  rintro e w4 ⟨v4, rfl, r4, b4⟩
  obtain ⟨a4, c4, rfl⟩ := r4.form
  have O4 : Hid (Pr.Row w4 w3.heap.size (.slice a4 L.length c4) L) := r4
  have S4 : Hid (Pr.Row w4 w2.heap.size (.slice a3 C.length c3) C) := R3.out.on b4
  have B4 : Hid (Below w1.heap.size w1 w4) := B3.out.trans (b4.mono B3.out.size)
  have SZ : Hid (w3.heap.size ≤ w4.heap.size) := b4.size
  have SW : Hid (w1.heap.size ≤ w3.heap.size) := B3.out.size
  clear r4 b4
  go_wp2_with fail
  refine (II.out _ _ O4.out.reads).mono ?_
  rintro e w5 ⟨v5, D, rfl, td, r5, b5⟩
  have TD : Hid (Tells D f m) := td
  have HMD : Hid (D.length ≤ 1048576) := (by show _ ≤ _; rw [td.1]; exact HML.out)
  have i3 : ¬ 1 + (D.length : Int) * 2 < 0 := by omega
  clear td
  obtain ⟨a5, c5, rfl⟩ := r5.form
  have R5 : Hid (Pr.Row w5 w4.heap.size (.slice a5 D.length c5) D) := r5
  have S5 : Hid (Pr.Row w5 w2.heap.size (.slice a3 C.length c3) C) := S4.out.on b5
  have O5 : Hid (Pr.Row w5 w3.heap.size (.slice a4 L.length c4) L) := O4.out.on b5
  have B5 : Hid (Below w1.heap.size w1 w5) := B4.out.trans (b5.mono B4.out.size)
  have N34 : Hid (∀ g, (Value.slice a3 C.length c3).ownBlock = some g → (Value.slice a4 L.length c4).ownBlock ≠ some g) := fun g x y => by
    have p := (R3.out.lt g x).2
    have q := (O4.out.lt g y).1
    omega
  have N54 : Hid (∀ g, (Value.slice a5 D.length c5).ownBlock = some g → (Value.slice a4 L.length c4).ownBlock ≠ some g) := fun g x y => by
    have p := (R5.out.lt g x).1
    have q := (O4.out.lt g y).2
    omega
  have N35 : Hid (∀ g, (Value.slice a3 C.length c3).ownBlock = some g → (Value.slice a5 D.length c5).ownBlock ≠ some g) := fun g x y => by
    have p := (R3.out.lt g x).2
    have q := (R5.out.lt g y).1
    have := SZ.out
    omega
  have G4 : Hid (∀ g, (Value.slice a4 L.length c4).ownBlock = some g → w1.heap.size ≤ g) := fun g hg => Nat.le_trans SW.out (O4.out.lt g hg).1
  have G5 : Hid (∀ g, (Value.slice a5 D.length c5).ownBlock = some g → w1.heap.size ≤ g) := fun g hg => Nat.le_trans (Nat.le_trans SW.out SZ.out) (R5.out.lt g hg).1
  clear r5 b5
  go_wp2_with fail
  refine (eq_cn _ _ _ D C R5.out.reads S5.out.reads (TD.out.alike TC.out)).mono ?_
  rintro e w6 ⟨rfl, b6⟩
  have R6 : Hid (Pr.Row w6 w4.heap.size (.slice a5 D.length c5) D) := R5.out.on b6
  have S6 : Hid (Pr.Row w6 w2.heap.size (.slice a3 C.length c3) C) := S5.out.on b6
  have O6 : Hid (Pr.Row w6 w3.heap.size (.slice a4 L.length c4) L) := O5.out.on b6
  have B6 : Hid (Below w1.heap.size w1 w6) := B5.out.trans (b6.mono B5.out.size)
  clear b6
  go_wp2_with fail
  refine (Pr.to_own _ _ L (H0.out.on B6.out) HL.out).mono ?_
  rintro e w7 ⟨v7, rfl, r7, b7⟩
  obtain ⟨a7, c7, rfl⟩ := r7.form
  have T7 : Hid (Pr.Reads w7 (.slice a7 L.length c7) L) := r7.reads
  have R7 : Hid (Pr.Row w7 w4.heap.size (.slice a5 D.length c5) D) := R6.out.on b7
  have S7 : Hid (Pr.Row w7 w2.heap.size (.slice a3 C.length c3) C) := S6.out.on b7
  have O7 : Hid (Pr.Row w7 w3.heap.size (.slice a4 L.length c4) L) := O6.out.on b7
  have B7 : Hid (Below w1.heap.size w1 w7) := B6.out.trans (b7.mono B6.out.size)
  clear r7 b7
  go_wp2_with fail
  refine (Pr.eq_same _ _ _ L O7.out.reads T7.out).mono ?_
  rintro e w8 ⟨rfl, b8⟩
  have R8 : Hid (Pr.Row w8 w4.heap.size (.slice a5 D.length c5) D) := R7.out.on b8
  have S8 : Hid (Pr.Row w8 w2.heap.size (.slice a3 C.length c3) C) := S7.out.on b8
  have O8 : Hid (Pr.Row w8 w3.heap.size (.slice a4 L.length c4) L) := O7.out.on b8
  have B8 : Hid (Below w1.heap.size w1 w8) := B7.out.trans (b8.mono B7.out.size)
  clear b8
  obtain ⟨xs8, o8, _⟩ := O8.out
  have O8' : Hid (w8.ownsRow w3.heap.size 34 2 (.slice a4 L.length c4) L.length xs8) := o8
  clear o8
  go_wp2_with fail
  refine (Pr.mark_any _ _ _ _ xs8 HL.out O8'.out).mono ?_
  rintro e w9 ⟨rfl, _, g9⟩
  have R9 : Hid (Pr.Row w9 w4.heap.size (.slice a5 D.length c5) D) := R8.out.grown g9 N54.out
  have S9 : Hid (Pr.Row w9 w2.heap.size (.slice a3 C.length c3) C) := S8.out.grown g9 N34.out
  have B9 : Hid (Below w1.heap.size w1 w9) := B8.out.grown g9 B8.out.size G4.out
  clear g9
  go_wp2_with fail
  refine (eq_cn _ _ _ D C R9.out.reads S9.out.reads (TD.out.alike TC.out)).mono ?_
  rintro e w10 ⟨rfl, b10⟩
  have R10 : Hid (Pr.Row w10 w4.heap.size (.slice a5 D.length c5) D) := R9.out.on b10
  have S10 : Hid (Pr.Row w10 w2.heap.size (.slice a3 C.length c3) C) := S9.out.on b10
  have B10 : Hid (Below w1.heap.size w1 w10) := B9.out.trans (b10.mono B9.out.size)
  clear b10
  obtain ⟨xs10, o10, _⟩ := R10.out
  have R10' : Hid (w10.ownsRow w4.heap.size 34 2 (.slice a5 D.length c5) D.length xs10) := o10
  clear o10
  go_wp2_with fail
  refine (Pr.mark_any _ _ _ _ xs10 HMD.out R10'.out).mono ?_
  rintro e w11 ⟨rfl, r11, g11⟩
  have R11 : Hid (Pr.Row w11 w4.heap.size (.slice a5 D.length c5) (Pr.mks D.length)) := r11
  have S11 : Hid (Pr.Row w11 w2.heap.size (.slice a3 C.length c3) C) := S10.out.grown g11 N35.out
  have B11 : Hid (Below w1.heap.size w1 w11) := B10.out.grown g11 B10.out.size G5.out
  clear r11 g11
  go_wp2_with fail
  refine (Pr.held_any _ _ D.length HMD.out R11.out.reads).mono ?_
  rintro e wx ⟨rfl, mx, hwx⟩
  have RX : Hid (Pr.Row wx w4.heap.size (.slice a5 D.length c5) (Pr.mks D.length)) := (by show Pr.Row _ _ _ _; rw [hwx]; exact R11.out)
  have SX : Hid (Pr.Row wx w2.heap.size (.slice a3 C.length c3) C) := (by show Pr.Row _ _ _ _; rw [hwx]; exact S11.out)
  have BX : Hid (Below w1.heap.size w1 wx) := (by show Below _ _ _; rw [hwx]; exact below_drewN B11.out _)
  clear hwx
  go_wp2_with fail
  refine (Pr.to_own _ _ L (H0.out.on BX.out) HL.out).mono ?_
  rintro e w12 ⟨v12, rfl, r12, b12⟩
  obtain ⟨a12, c12, rfl⟩ := r12.form
  have T12 : Hid (Pr.Reads w12 (.slice a12 L.length c12) L) := r12.reads
  have R12 : Hid (Pr.Row w12 w4.heap.size (.slice a5 D.length c5) (Pr.mks D.length)) := RX.out.on b12
  have S12 : Hid (Pr.Row w12 w2.heap.size (.slice a3 C.length c3) C) := SX.out.on b12
  have B12 : Hid (Below w1.heap.size w1 w12) := BX.out.trans (b12.mono BX.out.size)
  clear r12 b12
  go_wp2_with fail
  refine (II.out _ _ T12.out).mono ?_
  rintro e w13 ⟨v13, E, rfl, te, r13, b13⟩
  have TE : Hid (Tells E f m) := te
  clear te
  obtain ⟨a13, c13, rfl⟩ := r13.form
  have T13 : Hid (Pr.Row w13 w12.heap.size (.slice a13 E.length c13) E) := r13
  have R13 : Hid (Pr.Row w13 w4.heap.size (.slice a5 D.length c5) (Pr.mks D.length)) := R12.out.on b13
  have S13 : Hid (Pr.Row w13 w2.heap.size (.slice a3 C.length c3) C) := S12.out.on b13
  have B13 : Hid (Below w1.heap.size w1 w13) := B12.out.trans (b13.mono B12.out.size)
  clear r13 b13
  go_wp2_with fail
  refine (eq_cn _ _ _ E C T13.out.reads S13.out.reads (TE.out.alike TC.out)).mono ?_
  rintro e w14 ⟨rfl, b14⟩
  have R14 : Hid (Pr.Row w14 w4.heap.size (.slice a5 D.length c5) (Pr.mks D.length)) := R13.out.on b14
  have B14 : Hid (Below w1.heap.size w1 w14) := B13.out.trans (b14.mono B13.out.size)
  clear b14
  go_wp2_with fail
  refine (Pr.held_any _ _ D.length HMD.out R14.out.reads).mono ?_
  rintro e wy ⟨rfl, my, hwy⟩
  have BY : Hid (Below w1.heap.size w1 wy) := (by show Below _ _ _; rw [hwy]; exact below_drewN B14.out _)
  clear hwy
  go_wp2_with fail
  go_ret
  exact ⟨rfl, BY.out⟩
end Go.Proofs.Ythfcliojpjcfdaa.Wl
