/- The law FnExactBias walked. -/
import Derived.Test.YtkgciiabehlpfaaBiT
namespace Go.Proofs.Ytkgciiabehlpfaa.Bi
open Go.ChangeShapes Go.WideShapes Go.ChangeAt Go.RowKit
open Go.Proofs.Ytkgciiabehlpfaa.Flt

set_option maxHeartbeats 1000000 in
theorem biasLaw (w : World) (v : Value) (L : Rd.Ls) (h : Rd.Reads w v L) (hk : Oks L) (u : Value) (B : Rd.Ls) (h' : Rd.Reads w u B) (hk' : Oks B) : Calls Try.prog 4 #[v, u] w fun e w' => e = .returned (.bool true) ∧ Below w.heap.size w w' := by
  have HF := h.fits
  have HF' := h'.fits
  obtain ⟨a, cap, rfl⟩ := h.form
  obtain ⟨a', cap', rfl⟩ := h'.form
  have H0 : Hid (Rd.Reads w (.slice a L.length cap) L) := h
  have H1 : Hid (Rd.Reads w (.slice a' B.length cap') B) := h'
  have SB : Hid (∀ w v u, Rd.Reads w v L → Rd.Reads w u B → Calls Try.prog 15 #[v, u] w fun e w' => ∃ r, e = .returned (.tuple #[.float .f64 r, .int .i64 (bias L B).2]) ∧ cn r = (bias L B).1 ∧ Below w.heap.size w w') := fun w v u h h' => sbias_any w v u L B h h'
  have IB : Hid (∀ w v u, Rd.Reads w v L → Rd.Reads w u B → Calls Try.prog 17 #[v, u] w fun e w' => ∃ r, e = .returned (.tuple #[.float .f64 r, .int .i64 (bias L B).2]) ∧ cn r = (bias L B).1 ∧ Below w.heap.size w w') := fun w v u h h' => ibias_any w v u L B h h' hk hk'
  clear h h' hk hk'
  by_cases hl : 1048576 < L.length
  · go_enter Try.func4, Try.ntmps4
    go_wp2_with fail
    refine (Rd.sz_far _ _ _ _ _ (by omega) (by omega) (by omega) HF).mono ?_
    rintro e w1 ⟨rfl, hw1⟩
    subst hw1
    go_wp2_with fail
    go_ret
    exact ⟨rfl, Below.refl _ _⟩
  have i1 : ¬ (1048576 : Int) - (L.length : Int) < 0 := by omega
  by_cases hm : (1048576 : Int) - (L.length : Int) < (B.length : Int)
  · go_enter Try.func4, Try.ntmps4
    go_wp2_with fail
    refine (Rd.sz_near _ _ _ _ _ (by omega) (by omega)).mono ?_
    rintro e w1 ⟨rfl, hw1⟩
    subst hw1
    go_wp2_with fail
    refine (Rd.sz_far _ _ _ _ _ (by omega) (by omega) (by omega) HF').mono ?_
    rintro e w2 ⟨rfl, hw2⟩
    subst hw2
    go_wp2_with fail
    go_ret
    exact ⟨rfl, Below.refl _ _⟩
  have i2 : ¬ (1048576 : Int) - (L.length : Int) - (B.length : Int) < 0 := by omega
  have HL : Hid (L.length ≤ 1048576) := (by show _ ≤ _; omega)
  have HM : Hid (B.length ≤ 1048576) := (by show _ ≤ _; omega)
  obtain ⟨c, hc⟩ : ∃ c, c = (bias L B).2 := ⟨_, rfl⟩
  rw [← hc] at SB IB
  have hcc : (c != c) = false := by simp
  clear hc
  go_enter Try.func4, Try.ntmps4
  go_wp2_with fail
  refine (Rd.sz_near _ _ _ _ _ (by omega) (by omega)).mono ?_
  rintro e w1 ⟨rfl, hw1⟩
  subst hw1
  go_wp2_with fail
  refine (Rd.sz_near _ _ _ _ _ (by omega) (by omega)).mono ?_
  rintro e w2 ⟨rfl, hw2⟩
  subst hw2
  go_wp2_with fail
  refine (Rd.to_own _ _ L H0.out HL.out).mono ?_
  rintro e w3 ⟨v3, rfl, r3, b3⟩
  obtain ⟨a3, c3, rfl⟩ := r3.form
  have R3 : Hid (Rd.Reads w3 (.slice a3 L.length c3) L) := r3.reads
  have B3 : Hid (Below w2.heap.size w2 w3) := b3
  clear r3 b3
  go_wp2_with fail
  refine (Rd.to_own _ _ B (H1.out.on B3.out) HM.out).mono ?_
  rintro e w4 ⟨v4, rfl, r4, b4⟩
  obtain ⟨a4, c4, rfl⟩ := r4.form
  have R4 : Hid (Rd.Reads w4 (.slice a3 L.length c3) L) := R3.out.on b4
  have S4 : Hid (Rd.Reads w4 (.slice a4 B.length c4) B) := r4.reads
  have B4 : Hid (Below w2.heap.size w2 w4) := B3.out.trans (b4.mono B3.out.size)
  clear r4 b4 R3 B3
  go_wp2_with fail
  refine (SB.out _ _ _ R4.out S4.out).mono ?_
  rintro e w5 ⟨r5, rfl, hr5, b5⟩
  have HR5 : Hid (cn r5 = (bias L B).1) := hr5
  have B5 : Hid (Below w2.heap.size w2 w5) := B4.out.trans (b5.mono B4.out.size)
  clear hr5 b5 R4 S4 B4
  go_wp2_with fail
  refine (Rd.to_own _ _ L (H0.out.on B5.out) HL.out).mono ?_
  rintro e w6 ⟨v6, rfl, r6, b6⟩
  obtain ⟨a6, c6, rfl⟩ := r6.form
  have X6 : Hid (Rd.Reads w6 (.slice a6 L.length c6) L) := r6.reads
  have B6 : Hid (Below w2.heap.size w2 w6) := B5.out.trans (b6.mono B5.out.size)
  clear r6 b6 B5
  go_wp2_with fail
  refine (Rd.to_own _ _ B (H1.out.on B6.out) HM.out).mono ?_
  rintro e w7 ⟨v7, rfl, r7, b7⟩
  obtain ⟨a7, c7, rfl⟩ := r7.form
  have X7 : Hid (Rd.Reads w7 (.slice a6 L.length c6) L) := X6.out.on b7
  have Y7 : Hid (Rd.Reads w7 (.slice a7 B.length c7) B) := r7.reads
  have B7 : Hid (Below w2.heap.size w2 w7) := B6.out.trans (b7.mono B6.out.size)
  clear r7 b7 X6 B6
  go_wp2_with fail
  refine (IB.out _ _ _ X7.out Y7.out).mono ?_
  rintro e w8 ⟨r8, rfl, hr8, b8⟩
  have HR8 : Hid (cn r8 = cn r5) := hr8.trans HR5.out.symm
  have X8 : Hid (Rd.Reads w8 (.slice a6 L.length c6) L) := X7.out.on b8
  have Y8 : Hid (Rd.Reads w8 (.slice a7 B.length c7) B) := Y7.out.on b8
  have B8 : Hid (Below w2.heap.size w2 w8) := B7.out.trans (b8.mono B7.out.size)
  clear hr8 b8 X7 Y7 B7 HR5
  go_wp2_with fail
  refine (sf_cn _ _ _ HR8.out).mono ?_
  rintro e w9 ⟨rfl, hw9⟩
  have hw9' := hw9.symm
  subst hw9'
  go_wp2_with fail
  refine (Rd.to_own _ _ L (H0.out.on B8.out) HL.out).mono ?_
  rintro e w10 ⟨v10, rfl, r10, b10⟩
  obtain ⟨a10, c10, rfl⟩ := r10.form
  have T10 : Hid (Rd.Reads w10 (.slice a10 L.length c10) L) := r10.reads
  have X10 : Hid (Rd.Reads w10 (.slice a6 L.length c6) L) := X8.out.on b10
  have Y10 : Hid (Rd.Reads w10 (.slice a7 B.length c7) B) := Y8.out.on b10
  have B10 : Hid (Below w2.heap.size w2 w10) := B8.out.trans (b10.mono B8.out.size)
  clear r10 b10 X8 Y8 B8
  go_wp2_with fail
  refine (Rd.eq_same _ _ _ L X10.out T10.out).mono ?_
  rintro e w11 ⟨rfl, b11⟩
  have Y11 : Hid (Rd.Reads w11 (.slice a7 B.length c7) B) := Y10.out.on b11
  have B11 : Hid (Below w2.heap.size w2 w11) := B10.out.trans (b11.mono B10.out.size)
  clear b11 X10 Y10 B10 T10
  go_wp2_with fail
  refine (Rd.to_own _ _ B (H1.out.on B11.out) HM.out).mono ?_
  rintro e w12 ⟨v12, rfl, r12, b12⟩
  obtain ⟨a12, c12, rfl⟩ := r12.form
  have T12 : Hid (Rd.Reads w12 (.slice a12 B.length c12) B) := r12.reads
  have Y12 : Hid (Rd.Reads w12 (.slice a7 B.length c7) B) := Y11.out.on b12
  have B12 : Hid (Below w2.heap.size w2 w12) := B11.out.trans (b12.mono B11.out.size)
  clear r12 b12 Y11 B11
  go_wp2_with fail
  refine (Rd.eq_same _ _ _ B Y12.out T12.out).mono ?_
  rintro e w13 ⟨rfl, b13⟩
  have B13 : Hid (Below w2.heap.size w2 w13) := B12.out.trans (b13.mono B12.out.size)
  clear b13
  go_wp2_with fail
  go_ret
  exact ⟨rfl, B13.out⟩
end Go.Proofs.Ytkgciiabehlpfaa.Bi
