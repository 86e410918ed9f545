/- The law FnExactReliable walked; what model and program answer comes in as hypotheses. -/
import Derived.Test.YtbpkmgcgiegfeaaPm
import Derived.Test.YtbpkmgcgiegfeaaBn
import Derived.Test.YtbpkmgcgiegfeaaBr
namespace Go.Proofs.Ytbpkmgcgiegfeaa.Rl
open Go.ChangeShapes Go.WideShapes Go.ChangeAt Go.RowKit
open Go.Proofs.Ytbpkmgcgiegfeaa.Al

set_option maxHeartbeats 1000000 in
theorem relLaw (w : World) (v : Value) (L : Pb.Ls) (h : Pb.Reads w v L) (C : Bn.Ls) (ML : C.length ≤ 1048576)
    (SA : ∀ w v, Pb.Reads w v L → Calls Try.prog 14 #[v] w fun e w' => ∃ v', e = .returned v' ∧ Bn.Row w' w.heap.size v' C ∧ Below w.heap.size w w')
    (IA : ∀ w v, Pb.Reads w v L → Calls Try.prog 15 #[v] w fun e w' => ∃ v', e = .returned v' ∧ Bn.Row w' w.heap.size v' C ∧ Below w.heap.size w w') :
    Calls Try.prog 5 #[v] w fun e w' => e = .returned (.bool true) ∧ Below w.heap.size w w' := by
  have HF := h.fits
  obtain ⟨a, cap, rfl⟩ := h.form
  have H0 : Hid (Pb.Reads w (.slice a L.length cap) L) := h
  clear h
  by_cases hl : 1048576 < L.length
  · go_enter Try.func5, Try.ntmps5
    go_wp2_with fail
    refine (Pb.sz_far _ _ _ _ _ (by omega) (by omega) (by omega) HF).mono ?_
    rintro e w1 ⟨rfl, hw1⟩
    subst hw1
    go_wp2_with fail
    go_ret
    exact ⟨rfl, Below.refl _ _⟩
  have hl' : L.length ≤ 1048576 := by omega
  have HL : Hid (L.length ≤ 1048576) := hl'
  have i1 : ¬ (1048576 : Int) - (L.length : Int) < 0 := by omega
  have SI : Hid (∀ w v, Pb.Reads w v L → Calls Try.prog 14 #[v] w fun e w' => ∃ v', e = .returned v' ∧ Bn.Row w' w.heap.size v' C ∧ Below w.heap.size w w') := SA
  have II : Hid (∀ w v, Pb.Reads w v L → Calls Try.prog 15 #[v] w fun e w' => ∃ v', e = .returned v' ∧ Bn.Row w' w.heap.size v' C ∧ Below w.heap.size w w') := IA
  clear SA IA
  have HML : Hid (C.length ≤ 1048576) := ML
  have i2 : ¬ 1 + (L.length : Int) * 2 < 0 := by omega
  have i3 : ¬ 1 + (C.length : Int) * 2 < 0 := by omega
  go_enter Try.func5, Try.ntmps5
  go_wp2_with fail
  refine (Pb.sz_near _ _ _ _ _ (by omega) (by omega)).mono ?_
  rintro e w1 ⟨rfl, hw1⟩
  subst hw1
  go_wp2_with fail
  refine (Pb.to_own _ _ L H0.out HL.out).mono ?_
  rintro e w2 ⟨v2, rfl, r2, b2⟩
  obtain ⟨a2, c2, rfl⟩ := r2.form
  have R2 : Hid (Pb.Reads w2 (.slice a2 L.length c2) L) := r2.reads
  have B2 : Hid (Below w1.heap.size w1 w2) := b2
  clear r2 b2
  go_wp2_with fail
  refine (SI.out _ _ R2.out).mono ?_
  rintro e w3 ⟨v3, rfl, r3, b3⟩
  obtain ⟨a3, c3, rfl⟩ := r3.form
  have R3 : Hid (Bn.Row w3 w2.heap.size (.slice a3 C.length c3) C) := r3
  have B3 : Hid (Below w1.heap.size w1 w3) := B2.out.trans (b3.mono B2.out.size)
  clear r3 b3
  go_wp2_with fail
  refine (Pb.to_own _ _ L (H0.out.on B3.out) HL.out).mono ?_
  rintro e w4 ⟨v4, rfl, r4, b4⟩
  obtain ⟨a4, c4, rfl⟩ := r4.form
  have O4 : Hid (Pb.Row w4 w3.heap.size (.slice a4 L.length c4) L) := r4
  have S4 : Hid (Bn.Row w4 w2.heap.size (.slice a3 C.length c3) C) := R3.out.on b4
  have B4 : Hid (Below w1.heap.size w1 w4) := B3.out.trans (b4.mono B3.out.size)
  have SZ : Hid (w3.heap.size ≤ w4.heap.size) := b4.size
  have SW : Hid (w1.heap.size ≤ w3.heap.size) := B3.out.size
  clear r4 b4
  go_wp2_with fail
  refine (II.out _ _ O4.out.reads).mono ?_
  rintro e w5 ⟨v5, rfl, r5, b5⟩
  obtain ⟨a5, c5, rfl⟩ := r5.form
  have R5 : Hid (Bn.Row w5 w4.heap.size (.slice a5 C.length c5) C) := r5
  have S5 : Hid (Bn.Row w5 w2.heap.size (.slice a3 C.length c3) C) := S4.out.on b5
  have O5 : Hid (Pb.Row w5 w3.heap.size (.slice a4 L.length c4) L) := O4.out.on b5
  have B5 : Hid (Below w1.heap.size w1 w5) := B4.out.trans (b5.mono B4.out.size)
  have N34 : Hid (∀ g, (Value.slice a3 C.length c3).ownBlock = some g → (Value.slice a4 L.length c4).ownBlock ≠ some g) := fun g x y => by
    have p := (R3.out.lt g x).2
    have q := (O4.out.lt g y).1
    omega
  have N54 : Hid (∀ g, (Value.slice a5 C.length c5).ownBlock = some g → (Value.slice a4 L.length c4).ownBlock ≠ some g) := fun g x y => by
    have p := (R5.out.lt g x).1
    have q := (O4.out.lt g y).2
    omega
  have N35 : Hid (∀ g, (Value.slice a3 C.length c3).ownBlock = some g → (Value.slice a5 C.length c5).ownBlock ≠ some g) := fun g x y => by
    have p := (R3.out.lt g x).2
    have q := (R5.out.lt g y).1
    have := SZ.out
    omega
  have G4 : Hid (∀ g, (Value.slice a4 L.length c4).ownBlock = some g → w1.heap.size ≤ g) := fun g hg => Nat.le_trans SW.out (O4.out.lt g hg).1
  have G5 : Hid (∀ g, (Value.slice a5 C.length c5).ownBlock = some g → w1.heap.size ≤ g) := fun g hg => Nat.le_trans (Nat.le_trans SW.out SZ.out) (R5.out.lt g hg).1
  clear r5 b5
  go_wp2_with fail
  refine (Bn.eq_same _ _ _ C R5.out.reads S5.out.reads).mono ?_
  rintro e w6 ⟨rfl, b6⟩
  have R6 : Hid (Bn.Row w6 w4.heap.size (.slice a5 C.length c5) C) := R5.out.on b6
  have S6 : Hid (Bn.Row w6 w2.heap.size (.slice a3 C.length c3) C) := S5.out.on b6
  have O6 : Hid (Pb.Row w6 w3.heap.size (.slice a4 L.length c4) L) := O5.out.on b6
  have B6 : Hid (Below w1.heap.size w1 w6) := B5.out.trans (b6.mono B5.out.size)
  clear b6
  go_wp2_with fail
  refine (Pb.to_own _ _ L (H0.out.on B6.out) HL.out).mono ?_
  rintro e w7 ⟨v7, rfl, r7, b7⟩
  obtain ⟨a7, c7, rfl⟩ := r7.form
  have T7 : Hid (Pb.Reads w7 (.slice a7 L.length c7) L) := r7.reads
  have R7 : Hid (Bn.Row w7 w4.heap.size (.slice a5 C.length c5) C) := R6.out.on b7
  have S7 : Hid (Bn.Row w7 w2.heap.size (.slice a3 C.length c3) C) := S6.out.on b7
  have O7 : Hid (Pb.Row w7 w3.heap.size (.slice a4 L.length c4) L) := O6.out.on b7
  have B7 : Hid (Below w1.heap.size w1 w7) := B6.out.trans (b7.mono B6.out.size)
  clear r7 b7
  go_wp2_with fail
  refine (Pb.eq_same _ _ _ L O7.out.reads T7.out).mono ?_
  rintro e w8 ⟨rfl, b8⟩
  have R8 : Hid (Bn.Row w8 w4.heap.size (.slice a5 C.length c5) C) := R7.out.on b8
  have S8 : Hid (Bn.Row w8 w2.heap.size (.slice a3 C.length c3) C) := S7.out.on b8
  have O8 : Hid (Pb.Row w8 w3.heap.size (.slice a4 L.length c4) L) := O7.out.on b8
  have B8 : Hid (Below w1.heap.size w1 w8) := B7.out.trans (b8.mono B7.out.size)
  clear b8
  obtain ⟨xs8, o8, _⟩ := O8.out
  have O8' : Hid (w8.ownsRow w3.heap.size 41 2 (.slice a4 L.length c4) L.length xs8) := o8
  clear o8
  go_wp2_with fail
  refine (Pb.mark_any _ _ _ _ xs8 HL.out O8'.out).mono ?_
  rintro e w9 ⟨rfl, _, g9⟩
  have R9 : Hid (Bn.Row w9 w4.heap.size (.slice a5 C.length c5) C) := R8.out.grown g9 N54.out
  have S9 : Hid (Bn.Row w9 w2.heap.size (.slice a3 C.length c3) C) := S8.out.grown g9 N34.out
  have B9 : Hid (Below w1.heap.size w1 w9) := B8.out.grown g9 B8.out.size G4.out
  clear g9
  go_wp2_with fail
  refine (Bn.eq_same _ _ _ C R9.out.reads S9.out.reads).mono ?_
  rintro e w10 ⟨rfl, b10⟩
  have R10 : Hid (Bn.Row w10 w4.heap.size (.slice a5 C.length c5) C) := R9.out.on b10
  have S10 : Hid (Bn.Row w10 w2.heap.size (.slice a3 C.length c3) C) := S9.out.on b10
  have B10 : Hid (Below w1.heap.size w1 w10) := B9.out.trans (b10.mono B9.out.size)
  clear b10
  obtain ⟨xs10, o10, _⟩ := R10.out
  have R10' : Hid (w10.ownsRow w4.heap.size 49 2 (.slice a5 C.length c5) C.length xs10) := o10
  clear o10
  go_wp2_with fail
  refine (Bn.mark_any _ _ _ _ xs10 HML.out R10'.out).mono ?_
  rintro e w11 ⟨rfl, r11, g11⟩
  have R11 : Hid (Bn.Row w11 w4.heap.size (.slice a5 C.length c5) (Bn.mks C.length)) := r11
  have S11 : Hid (Bn.Row w11 w2.heap.size (.slice a3 C.length c3) C) := S10.out.grown g11 N35.out
  have B11 : Hid (Below w1.heap.size w1 w11) := B10.out.grown g11 B10.out.size G5.out
  clear r11 g11
  go_wp2_with fail
  refine (Bn.held_any _ _ C.length HML.out R11.out.reads).mono ?_
  rintro e wx ⟨rfl, mx, hwx⟩
  have RX : Hid (Bn.Row wx w4.heap.size (.slice a5 C.length c5) (Bn.mks C.length)) := (by show Bn.Row _ _ _ _; rw [hwx]; exact R11.out)
  have SX : Hid (Bn.Row wx w2.heap.size (.slice a3 C.length c3) C) := (by show Bn.Row _ _ _ _; rw [hwx]; exact S11.out)
  have BX : Hid (Below w1.heap.size w1 wx) := (by show Below _ _ _; rw [hwx]; exact below_drewN B11.out _)
  clear hwx
  go_wp2_with fail
  refine (Pb.to_own _ _ L (H0.out.on BX.out) HL.out).mono ?_
  rintro e w12 ⟨v12, rfl, r12, b12⟩
  obtain ⟨a12, c12, rfl⟩ := r12.form
  have T12 : Hid (Pb.Reads w12 (.slice a12 L.length c12) L) := r12.reads
  have R12 : Hid (Bn.Row w12 w4.heap.size (.slice a5 C.length c5) (Bn.mks C.length)) := RX.out.on b12
  have S12 : Hid (Bn.Row w12 w2.heap.size (.slice a3 C.length c3) C) := SX.out.on b12
  have B12 : Hid (Below w1.heap.size w1 w12) := BX.out.trans (b12.mono BX.out.size)
  clear r12 b12
  go_wp2_with fail
  refine (II.out _ _ T12.out).mono ?_
  rintro e w13 ⟨v13, rfl, r13, b13⟩
  obtain ⟨a13, c13, rfl⟩ := r13.form
  have T13 : Hid (Bn.Row w13 w12.heap.size (.slice a13 C.length c13) C) := r13
  have R13 : Hid (Bn.Row w13 w4.heap.size (.slice a5 C.length c5) (Bn.mks C.length)) := R12.out.on b13
  have S13 : Hid (Bn.Row w13 w2.heap.size (.slice a3 C.length c3) C) := S12.out.on b13
  have B13 : Hid (Below w1.heap.size w1 w13) := B12.out.trans (b13.mono B12.out.size)
  clear r13 b13
  go_wp2_with fail
  refine (Bn.eq_same _ _ _ C T13.out.reads S13.out.reads).mono ?_
  rintro e w14 ⟨rfl, b14⟩
  have R14 : Hid (Bn.Row w14 w4.heap.size (.slice a5 C.length c5) (Bn.mks C.length)) := R13.out.on b14
  have B14 : Hid (Below w1.heap.size w1 w14) := B13.out.trans (b14.mono B13.out.size)
  clear b14
  go_wp2_with fail
  refine (Bn.held_any _ _ C.length HML.out R14.out.reads).mono ?_
  rintro e wy ⟨rfl, my, hwy⟩
  have BY : Hid (Below w1.heap.size w1 wy) := (by show Below _ _ _; rw [hwy]; exact below_drewN B14.out _)
  clear hwy
  go_wp2_with fail
  go_ret
  exact ⟨rfl, BY.out⟩
end Go.Proofs.Ytbpkmgcgiegfeaa.Rl
