/- The law of pairs, walked. -/
import Derived.Test.YthdhjinmjneenaaCj
namespace Go.Proofs.Ythdhjinmjneenaa.Flt
open Go.ChangeShapes Go.WideShapes Go.ChangeAt Go.RowKit
open Go.Proofs.Ythdhjinmjneenaa.Wa Go.Proofs.Ythdhjinmjneenaa.Rd
attribute [local go_sem] run_store_float

theorem heq {x y x' y' p1 p2 e1 e2 g1 g2 h1 h2 f1 f2 : Nat} (kx : kn x = true) (ky : kn y = true) (kx' : kn x' = true) (ky' : kn y' = true) (k1 : rng (mre (cn x) (cn y) (cn x') (cn y')) < 9218868437227405312) (k2 : rng (mim (cn x) (cn y) (cn x') (cn y')) < 9218868437227405312)
    (hp1 : cn p1 = mre (cn x) (cn y) (cn x') (cn y')) (hp2 : cn p2 = mim (cn x) (cn y) (cn x') (cn y')) (he1 : cn e1 = cn p1) (he2 : cn e2 = opF .sub 0 (cn p2)) (hg1 : cn g1 = cn x) (hg2 : cn g2 = opF .sub 0 (cn y)) (hh1 : cn h1 = cn x') (hh2 : cn h2 = opF .sub 0 (cn y'))
    (hf1 : cn f1 = mre (cn g1) (cn g2) (cn h1) (cn h2)) (hf2 : cn f2 = mim (cn g1) (cn g2) (cn h1) (cn h2)) : (ord e1 f1 == some .eq) = true ∧ (ord e2 f2 == some .eq) = true := by
  rw [hg1, hg2, hh1, hh2] at hf1 hf2
  rw [hp1] at he1
  rw [hp2] at he2
  rw [kn_cn kx, kn_cn ky, kn_cn kx', kn_cn ky'] at *
  have c := conj_mul x y x' y' ((kn_iff _).1 kx) ((kn_iff _).1 ky) ((kn_iff _).1 kx') ((kn_iff _).1 ky') k1 k2
  have n := neg_key _ k2
  have i1 := is_of he1 k1
  have i2 := is_of he2 (by rw [n.2.1]; exact k2)
  have i3 := is_of hf1 c.1
  have i4 := is_of hf2 c.2.1
  rw [i1, i2, i3, i4]
  exact ⟨eq_ord (Nat.le_of_lt k1) (Nat.le_of_lt c.1) c.2.2.1.symm, eq_ord (by rw [n.2.1]; exact Nat.le_of_lt k2) (Nat.le_of_lt c.2.1) c.2.2.2.symm⟩

set_option maxRecDepth 20000 in
set_option maxHeartbeats 4000000 in
theorem pairsLaw (a : Option Addr) (len cap : Nat) (w : World) (hc : Go.Proofs.Ythdhjinmjneenaa.Rd.Code w a len cap) (hn : len < 9223372036854775808) : Calls Try.prog 3 #[.slice a len cap] w fun e w' => e = .returned (.bool true) ∧ Below w.heap.size w w' := by
  by_cases hl : 1048576 < len
  · have C : Hid (Calls Try.prog 4 #[.slice a len cap] w fun e w' => e = .returned (.bool true) ∧ w' = w) := big_yes a len cap w hl hn
    clear hc
    go_enter Try.func3, Try.ntmps3
    go_wp2_with fail
    refine C.out.mono ?_
    rintro e w1 ⟨rfl, hw⟩
    subst hw
    go_wp2_with fail
    go_ret
    exact ⟨rfl, Below.refl _ _⟩
  have C : Hid (Calls Try.prog 4 #[.slice a len cap] w fun e w' => e = .returned (.bool false) ∧ w' = w) := big_no a len cap w (by omega)
  have D : Hid (Calls Try.prog 5 #[.slice a len cap] w fun e w' => (∃ x y x' y', e = .returned (.tuple #[pr x y, pr x' y'])) ∧ Below w.heap.size w w') := drawm_any a len cap w hc (by omega)
  clear hc
  go_enter Try.func3, Try.ntmps3
  go_wp2_with fail
  refine C.out.mono ?_
  rintro e w1 ⟨rfl, hw⟩
  have hw' := hw.symm
  subst hw'
  clear hw
  go_wp2_with fail
  refine D.out.mono ?_
  rintro e w1 ⟨⟨x, y, x', y', rfl⟩, hb⟩
  have B1 : Hid (Below w.heap.size w w1) := hb
  clear hb D C
  obtain ⟨w2, hw2⟩ : ∃ w2, w2 = (w1.alloc (.cells #[.float .f64 x, .float .f64 y] 26)).alloc (.cells #[.float .f64 x', .float .f64 y'] 26) := ⟨_, rfl⟩
  have HW2 : Hid (w2 = (w1.alloc (.cells #[.float .f64 x, .float .f64 y] 26)).alloc (.cells #[.float .f64 x', .float .f64 y'] 26)) := hw2
  have B2 : Hid (Below w.heap.size w w2) := (by show Below _ _ _; rw [hw2]; exact (B1.out.alloc B1.out.size _).alloc (by have := B1.out.size; simp; omega) _)
  have XA_2 : Hid (Bx w2 w1.heap.size (.float .f64 x) (.float .f64 y)) := (by show Bx _ _ _ _; rw [hw2]; exact (Bx.new w1 _ _ 26).alloc _)
  have XB_2 : Hid (Bx w2 (w1.heap.size + 1) (.float .f64 x') (.float .f64 y')) := (by show Bx _ _ _ _; rw [hw2]; have := Bx.new (w1.alloc (.cells #[.float .f64 x, .float .f64 y] 26)) (.float .f64 x') (.float .f64 y') 26; simpa using this)
  clear hw2
  obtain ⟨k0, k1, _, _, k4⟩ := XA_2.out
  obtain ⟨k2, k3, _, _, k5⟩ := XB_2.out
  go_wp2_with fail
  rw [← HW2.out]
  refine (imul_any x y x' y' _).mono ?_
  rintro e w3 ⟨P1, P2, rfl, hP1, hP2, hb⟩
  have HP1 : Hid (cn P1 = _) := hP1
  have HP2 : Hid (cn P2 = _) := hP2
  have B3 : Hid (Below w.heap.size w w3) := B2.out.trans (hb.mono B2.out.size)
  have XA_3 : Hid (Bx w3 w1.heap.size (.float .f64 x) (.float .f64 y)) := XA_2.out.on hb
  have XB_3 : Hid (Bx w3 (w1.heap.size + 1) (.float .f64 x') (.float .f64 y')) := XB_2.out.on hb
  clear hb hP1 hP2 k0 k1 k2 k3 k4 k5 HW2 XA_2 XB_2
  obtain ⟨w4, hw4⟩ : ∃ wz, wz = w3.alloc (.cells #[.float .f64 P1, .float .f64 P2] 26) := ⟨_, rfl⟩
  have HW4 : Hid (w4 = w3.alloc (.cells #[.float .f64 P1, .float .f64 P2] 26)) := hw4
  have B4 : Hid (Below w.heap.size w w4) := (by show Below _ _ _; rw [hw4]; exact B3.out.alloc B3.out.size _)
  have XA_4 : Hid (Bx w4 w1.heap.size (.float .f64 x) (.float .f64 y)) := (by show Bx _ _ _ _; rw [hw4]; exact XA_3.out.alloc _)
  have XB_4 : Hid (Bx w4 (w1.heap.size + 1) (.float .f64 x') (.float .f64 y')) := (by show Bx _ _ _ _; rw [hw4]; exact XB_3.out.alloc _)
  have XP_4 : Hid (Bx w4 w3.heap.size (.float .f64 P1) (.float .f64 P2)) := (by show Bx _ _ _ _; rw [hw4]; exact Bx.new w3 _ _ 26)
  clear hw4
  obtain ⟨k0, k1, _, _, k4⟩ := XB_3.out
  obtain ⟨k2, k3, _, _, k5⟩ := XA_3.out
  go_wp2_with fail
  rw [← HW4.out]
  refine (imul_any x' y' x y _).mono ?_
  rintro e w5 ⟨Q1, Q2, rfl, hQ1, hQ2, hb⟩
  have HQ1 : Hid (cn Q1 = _) := hQ1
  have HQ2 : Hid (cn Q2 = _) := hQ2
  have B5 : Hid (Below w.heap.size w w5) := B4.out.trans (hb.mono B4.out.size)
  have XA_5 : Hid (Bx w5 w1.heap.size (.float .f64 x) (.float .f64 y)) := XA_4.out.on hb
  have XB_5 : Hid (Bx w5 (w1.heap.size + 1) (.float .f64 x') (.float .f64 y')) := XB_4.out.on hb
  have XP_5 : Hid (Bx w5 w3.heap.size (.float .f64 P1) (.float .f64 P2)) := XP_4.out.on hb
  clear hb hQ1 hQ2 k0 k1 k2 k3 k4 k5 HW4 XA_4 XB_4 XP_4
  obtain ⟨w6, hw6⟩ : ∃ wz, wz = w5.alloc (.cells #[.float .f64 Q1, .float .f64 Q2] 26) := ⟨_, rfl⟩
  have HW6 : Hid (w6 = w5.alloc (.cells #[.float .f64 Q1, .float .f64 Q2] 26)) := hw6
  have B6 : Hid (Below w.heap.size w w6) := (by show Below _ _ _; rw [hw6]; exact B5.out.alloc B5.out.size _)
  have XA_6 : Hid (Bx w6 w1.heap.size (.float .f64 x) (.float .f64 y)) := (by show Bx _ _ _ _; rw [hw6]; exact XA_5.out.alloc _)
  have XB_6 : Hid (Bx w6 (w1.heap.size + 1) (.float .f64 x') (.float .f64 y')) := (by show Bx _ _ _ _; rw [hw6]; exact XB_5.out.alloc _)
  have XP_6 : Hid (Bx w6 w3.heap.size (.float .f64 P1) (.float .f64 P2)) := (by show Bx _ _ _ _; rw [hw6]; exact XP_5.out.alloc _)
  have XQ_6 : Hid (Bx w6 w5.heap.size (.float .f64 Q1) (.float .f64 Q2)) := (by show Bx _ _ _ _; rw [hw6]; exact Bx.new w5 _ _ 26)
  clear hw6
  obtain ⟨k0, k1, _, _, k4⟩ := XA_5.out
  obtain ⟨k2, k3, _, _, k5⟩ := XB_5.out
  go_wp2_with fail
  rw [← HW6.out]
  refine (iadd_any x y x' y' _).mono ?_
  rintro e w7 ⟨S1, S2, rfl, hS1, hS2, hb⟩
  have HS1 : Hid (cn S1 = _) := hS1
  have HS2 : Hid (cn S2 = _) := hS2
  have B7 : Hid (Below w.heap.size w w7) := B6.out.trans (hb.mono B6.out.size)
  have XA_7 : Hid (Bx w7 w1.heap.size (.float .f64 x) (.float .f64 y)) := XA_6.out.on hb
  have XB_7 : Hid (Bx w7 (w1.heap.size + 1) (.float .f64 x') (.float .f64 y')) := XB_6.out.on hb
  have XP_7 : Hid (Bx w7 w3.heap.size (.float .f64 P1) (.float .f64 P2)) := XP_6.out.on hb
  have XQ_7 : Hid (Bx w7 w5.heap.size (.float .f64 Q1) (.float .f64 Q2)) := XQ_6.out.on hb
  clear hb hS1 hS2 k0 k1 k2 k3 k4 k5 HW6 XA_6 XB_6 XP_6 XQ_6
  obtain ⟨w8, hw8⟩ : ∃ wz, wz = w7.alloc (.cells #[.float .f64 S1, .float .f64 S2] 26) := ⟨_, rfl⟩
  have HW8 : Hid (w8 = w7.alloc (.cells #[.float .f64 S1, .float .f64 S2] 26)) := hw8
  have B8 : Hid (Below w.heap.size w w8) := (by show Below _ _ _; rw [hw8]; exact B7.out.alloc B7.out.size _)
  have XA_8 : Hid (Bx w8 w1.heap.size (.float .f64 x) (.float .f64 y)) := (by show Bx _ _ _ _; rw [hw8]; exact XA_7.out.alloc _)
  have XB_8 : Hid (Bx w8 (w1.heap.size + 1) (.float .f64 x') (.float .f64 y')) := (by show Bx _ _ _ _; rw [hw8]; exact XB_7.out.alloc _)
  have XP_8 : Hid (Bx w8 w3.heap.size (.float .f64 P1) (.float .f64 P2)) := (by show Bx _ _ _ _; rw [hw8]; exact XP_7.out.alloc _)
  have XQ_8 : Hid (Bx w8 w5.heap.size (.float .f64 Q1) (.float .f64 Q2)) := (by show Bx _ _ _ _; rw [hw8]; exact XQ_7.out.alloc _)
  have XS_8 : Hid (Bx w8 w7.heap.size (.float .f64 S1) (.float .f64 S2)) := (by show Bx _ _ _ _; rw [hw8]; exact Bx.new w7 _ _ 26)
  clear hw8
  obtain ⟨k0, k1, _, _, k4⟩ := XB_7.out
  obtain ⟨k2, k3, _, _, k5⟩ := XA_7.out
  go_wp2_with fail
  rw [← HW8.out]
  refine (iadd_any x' y' x y _).mono ?_
  rintro e w9 ⟨T1, T2, rfl, hT1, hT2, hb⟩
  have HT1 : Hid (cn T1 = _) := hT1
  have HT2 : Hid (cn T2 = _) := hT2
  have B9 : Hid (Below w.heap.size w w9) := B8.out.trans (hb.mono B8.out.size)
  have XA_9 : Hid (Bx w9 w1.heap.size (.float .f64 x) (.float .f64 y)) := XA_8.out.on hb
  have XB_9 : Hid (Bx w9 (w1.heap.size + 1) (.float .f64 x') (.float .f64 y')) := XB_8.out.on hb
  have XP_9 : Hid (Bx w9 w3.heap.size (.float .f64 P1) (.float .f64 P2)) := XP_8.out.on hb
  have XQ_9 : Hid (Bx w9 w5.heap.size (.float .f64 Q1) (.float .f64 Q2)) := XQ_8.out.on hb
  have XS_9 : Hid (Bx w9 w7.heap.size (.float .f64 S1) (.float .f64 S2)) := XS_8.out.on hb
  clear hb hT1 hT2 k0 k1 k2 k3 k4 k5 HW8 XA_8 XB_8 XP_8 XQ_8 XS_8
  obtain ⟨w10, hw10⟩ : ∃ wz, wz = w9.alloc (.cells #[.float .f64 T1, .float .f64 T2] 26) := ⟨_, rfl⟩
  have HW10 : Hid (w10 = w9.alloc (.cells #[.float .f64 T1, .float .f64 T2] 26)) := hw10
  have B10 : Hid (Below w.heap.size w w10) := (by show Below _ _ _; rw [hw10]; exact B9.out.alloc B9.out.size _)
  have XA_10 : Hid (Bx w10 w1.heap.size (.float .f64 x) (.float .f64 y)) := (by show Bx _ _ _ _; rw [hw10]; exact XA_9.out.alloc _)
  have XB_10 : Hid (Bx w10 (w1.heap.size + 1) (.float .f64 x') (.float .f64 y')) := (by show Bx _ _ _ _; rw [hw10]; exact XB_9.out.alloc _)
  have XP_10 : Hid (Bx w10 w3.heap.size (.float .f64 P1) (.float .f64 P2)) := (by show Bx _ _ _ _; rw [hw10]; exact XP_9.out.alloc _)
  have XQ_10 : Hid (Bx w10 w5.heap.size (.float .f64 Q1) (.float .f64 Q2)) := (by show Bx _ _ _ _; rw [hw10]; exact XQ_9.out.alloc _)
  have XS_10 : Hid (Bx w10 w7.heap.size (.float .f64 S1) (.float .f64 S2)) := (by show Bx _ _ _ _; rw [hw10]; exact XS_9.out.alloc _)
  have XT_10 : Hid (Bx w10 w9.heap.size (.float .f64 T1) (.float .f64 T2)) := (by show Bx _ _ _ _; rw [hw10]; exact Bx.new w9 _ _ 26)
  clear hw10
  obtain ⟨k0, k1, _, _, k4⟩ := XA_9.out
  obtain ⟨k2, k3, _, _, k5⟩ := XB_9.out
  go_wp2_with fail
  rw [← HW10.out]
  refine (smul x y x' y' _).mono ?_
  rintro e w11 ⟨W1, W2, rfl, hW1, hW2, hb⟩
  have HW1q : Hid (cn W1 = _) := hW1
  have HW2q : Hid (cn W2 = _) := hW2
  have B11 : Hid (Below w.heap.size w w11) := B10.out.trans (hb.mono B10.out.size)
  have XA_11 : Hid (Bx w11 w1.heap.size (.float .f64 x) (.float .f64 y)) := XA_10.out.on hb
  have XB_11 : Hid (Bx w11 (w1.heap.size + 1) (.float .f64 x') (.float .f64 y')) := XB_10.out.on hb
  have XP_11 : Hid (Bx w11 w3.heap.size (.float .f64 P1) (.float .f64 P2)) := XP_10.out.on hb
  have XQ_11 : Hid (Bx w11 w5.heap.size (.float .f64 Q1) (.float .f64 Q2)) := XQ_10.out.on hb
  have XS_11 : Hid (Bx w11 w7.heap.size (.float .f64 S1) (.float .f64 S2)) := XS_10.out.on hb
  have XT_11 : Hid (Bx w11 w9.heap.size (.float .f64 T1) (.float .f64 T2)) := XT_10.out.on hb
  clear hb hW1 hW2 k0 k1 k2 k3 k4 k5 HW10 XA_10 XB_10 XP_10 XQ_10 XS_10 XT_10
  obtain ⟨w12, hw12⟩ : ∃ wz, wz = w11.alloc (.cells #[.float .f64 W1, .float .f64 W2] 26) := ⟨_, rfl⟩
  have HW12 : Hid (w12 = w11.alloc (.cells #[.float .f64 W1, .float .f64 W2] 26)) := hw12
  have B12 : Hid (Below w.heap.size w w12) := (by show Below _ _ _; rw [hw12]; exact B11.out.alloc B11.out.size _)
  have XA_12 : Hid (Bx w12 w1.heap.size (.float .f64 x) (.float .f64 y)) := (by show Bx _ _ _ _; rw [hw12]; exact XA_11.out.alloc _)
  have XB_12 : Hid (Bx w12 (w1.heap.size + 1) (.float .f64 x') (.float .f64 y')) := (by show Bx _ _ _ _; rw [hw12]; exact XB_11.out.alloc _)
  have XP_12 : Hid (Bx w12 w3.heap.size (.float .f64 P1) (.float .f64 P2)) := (by show Bx _ _ _ _; rw [hw12]; exact XP_11.out.alloc _)
  have XQ_12 : Hid (Bx w12 w5.heap.size (.float .f64 Q1) (.float .f64 Q2)) := (by show Bx _ _ _ _; rw [hw12]; exact XQ_11.out.alloc _)
  have XS_12 : Hid (Bx w12 w7.heap.size (.float .f64 S1) (.float .f64 S2)) := (by show Bx _ _ _ _; rw [hw12]; exact XS_11.out.alloc _)
  have XT_12 : Hid (Bx w12 w9.heap.size (.float .f64 T1) (.float .f64 T2)) := (by show Bx _ _ _ _; rw [hw12]; exact XT_11.out.alloc _)
  have XW_12 : Hid (Bx w12 w11.heap.size (.float .f64 W1) (.float .f64 W2)) := (by show Bx _ _ _ _; rw [hw12]; exact Bx.new w11 _ _ 26)
  clear hw12
  obtain ⟨k0, k1, _, _, k4⟩ := XA_11.out
  obtain ⟨k2, k3, _, _, k5⟩ := XB_11.out
  go_wp2_with fail
  rw [← HW12.out]
  refine (sadd x y x' y' _).mono ?_
  rintro e w13 ⟨V1, V2, rfl, hV1, hV2, hb⟩
  have HV1 : Hid (cn V1 = _) := hV1
  have HV2 : Hid (cn V2 = _) := hV2
  have B13 : Hid (Below w.heap.size w w13) := B12.out.trans (hb.mono B12.out.size)
  have XA_13 : Hid (Bx w13 w1.heap.size (.float .f64 x) (.float .f64 y)) := XA_12.out.on hb
  have XB_13 : Hid (Bx w13 (w1.heap.size + 1) (.float .f64 x') (.float .f64 y')) := XB_12.out.on hb
  have XP_13 : Hid (Bx w13 w3.heap.size (.float .f64 P1) (.float .f64 P2)) := XP_12.out.on hb
  have XQ_13 : Hid (Bx w13 w5.heap.size (.float .f64 Q1) (.float .f64 Q2)) := XQ_12.out.on hb
  have XS_13 : Hid (Bx w13 w7.heap.size (.float .f64 S1) (.float .f64 S2)) := XS_12.out.on hb
  have XT_13 : Hid (Bx w13 w9.heap.size (.float .f64 T1) (.float .f64 T2)) := XT_12.out.on hb
  have XW_13 : Hid (Bx w13 w11.heap.size (.float .f64 W1) (.float .f64 W2)) := XW_12.out.on hb
  clear hb hV1 hV2 k0 k1 k2 k3 k4 k5 HW12 XA_12 XB_12 XP_12 XQ_12 XS_12 XT_12 XW_12
  obtain ⟨w14, hw14⟩ : ∃ wz, wz = w13.alloc (.cells #[.float .f64 V1, .float .f64 V2] 26) := ⟨_, rfl⟩
  have HW14 : Hid (w14 = w13.alloc (.cells #[.float .f64 V1, .float .f64 V2] 26)) := hw14
  have B14 : Hid (Below w.heap.size w w14) := (by show Below _ _ _; rw [hw14]; exact B13.out.alloc B13.out.size _)
  have XA_14 : Hid (Bx w14 w1.heap.size (.float .f64 x) (.float .f64 y)) := (by show Bx _ _ _ _; rw [hw14]; exact XA_13.out.alloc _)
  have XB_14 : Hid (Bx w14 (w1.heap.size + 1) (.float .f64 x') (.float .f64 y')) := (by show Bx _ _ _ _; rw [hw14]; exact XB_13.out.alloc _)
  have XP_14 : Hid (Bx w14 w3.heap.size (.float .f64 P1) (.float .f64 P2)) := (by show Bx _ _ _ _; rw [hw14]; exact XP_13.out.alloc _)
  have XQ_14 : Hid (Bx w14 w5.heap.size (.float .f64 Q1) (.float .f64 Q2)) := (by show Bx _ _ _ _; rw [hw14]; exact XQ_13.out.alloc _)
  have XS_14 : Hid (Bx w14 w7.heap.size (.float .f64 S1) (.float .f64 S2)) := (by show Bx _ _ _ _; rw [hw14]; exact XS_13.out.alloc _)
  have XT_14 : Hid (Bx w14 w9.heap.size (.float .f64 T1) (.float .f64 T2)) := (by show Bx _ _ _ _; rw [hw14]; exact XT_13.out.alloc _)
  have XW_14 : Hid (Bx w14 w11.heap.size (.float .f64 W1) (.float .f64 W2)) := (by show Bx _ _ _ _; rw [hw14]; exact XW_13.out.alloc _)
  have XV_14 : Hid (Bx w14 w13.heap.size (.float .f64 V1) (.float .f64 V2)) := (by show Bx _ _ _ _; rw [hw14]; exact Bx.new w13 _ _ 26)
  clear hw14
  obtain ⟨cP0, cP1, _, _, cP2⟩ := XP_13.out
  obtain ⟨cW0, cW1, _, _, cW2⟩ := XW_13.out
  obtain ⟨cS0, cS1, _, _, cS2⟩ := XS_13.out
  obtain ⟨cQ0, cQ1, _, _, cQ2⟩ := XQ_13.out
  obtain ⟨cT0, cT1, _, _, cT2⟩ := XT_13.out
  have E_P1W1 : Hid (cn P1 = cn W1) := (HP1.out.trans HW1q.out.symm)
  have E_P2W2 : Hid (cn P2 = cn W2) := (HP2.out.trans HW2q.out.symm)
  have E_S1V1 : Hid (cn S1 = cn V1) := (HS1.out.trans HV1.out.symm)
  have E_S2V2 : Hid (cn S2 = cn V2) := (HS2.out.trans HV2.out.symm)
  have E_P1Q1 : Hid (cn P1 = cn Q1) := (HP1.out.trans ((mre_comm _ _ _ _).trans HQ1.out.symm))
  have E_P2Q2 : Hid (cn P2 = cn Q2) := (HP2.out.trans ((mim_comm _ _ _ _).trans HQ2.out.symm))
  have E_S1T1 : Hid (cn S1 = cn T1) := (HS1.out.trans ((add_comm _ _).trans HT1.out.symm))
  have E_S2T2 : Hid (cn S2 = cn T2) := (HS2.out.trans ((add_comm _ _).trans HT2.out.symm))
  go_wp2_with fail
  rw [← HW14.out]
  refine (sameT P1 W1 E_P1W1.out _).mono ?_
  rintro e wq ⟨rfl, hq⟩
  have hq := hq.symm
  subst hq
  clear cP0 cP1 cP2 cW0 cW1 cW2 cS0 cS1 cS2 cQ0 cQ1 cQ2 cT0 cT1 cT2
  obtain ⟨cP0, cP1, _, _, _⟩ := XP_14.out
  obtain ⟨cW0, cW1, _, _, _⟩ := XW_14.out
  obtain ⟨cS0, cS1, _, _, _⟩ := XS_14.out
  obtain ⟨cQ0, cQ1, _, _, _⟩ := XQ_14.out
  obtain ⟨cT0, cT1, _, _, _⟩ := XT_14.out
  obtain ⟨cV0, cV1, _, _, _⟩ := XV_14.out
  go_wp2_with fail
  refine (sameT P2 W2 E_P2W2.out _).mono ?_
  rintro e wq ⟨rfl, hq⟩
  have hq := hq.symm
  subst hq
  go_wp2_with fail
  refine (sameT S1 V1 E_S1V1.out _).mono ?_
  rintro e wq ⟨rfl, hq⟩
  have hq := hq.symm
  subst hq
  go_wp2_with fail
  refine (sameT S2 V2 E_S2V2.out _).mono ?_
  rintro e wq ⟨rfl, hq⟩
  have hq := hq.symm
  subst hq
  go_wp2_with fail
  refine (sameT P1 Q1 E_P1Q1.out _).mono ?_
  rintro e wq ⟨rfl, hq⟩
  have hq := hq.symm
  subst hq
  go_wp2_with fail
  refine (sameT P2 Q2 E_P2Q2.out _).mono ?_
  rintro e wq ⟨rfl, hq⟩
  have hq := hq.symm
  subst hq
  go_wp2_with fail
  refine (sameT S1 T1 E_S1T1.out _).mono ?_
  rintro e wq ⟨rfl, hq⟩
  have hq := hq.symm
  subst hq
  go_wp2_with fail
  refine (sameT S2 T2 E_S2T2.out _).mono ?_
  rintro e wq ⟨rfl, hq⟩
  have hq := hq.symm
  subst hq
  clear cS0 cS1 cQ0 cQ1 cT0 cT1 cV0 cV1
  obtain ⟨cA0, cA1, _, _, _⟩ := XA_14.out
  obtain ⟨cB0, cB1, _, _, _⟩ := XB_14.out
  have KB : Hid (∀ w', Below w14.heap.size w14 w' → (w'.cell? ⟨w3.heap.size, 0, none⟩ = some (.float .f64 P1) ∧ w'.cell? ⟨w3.heap.size, 1, none⟩ = some (.float .f64 P2)) ∧ (w'.cell? ⟨w1.heap.size, 0, none⟩ = some (.float .f64 x) ∧ w'.cell? ⟨w1.heap.size, 1, none⟩ = some (.float .f64 y)) ∧ (w'.cell? ⟨w1.heap.size + 1, 0, none⟩ = some (.float .f64 x') ∧ w'.cell? ⟨w1.heap.size + 1, 1, none⟩ = some (.float .f64 y')) ∧ (w'.cell? ⟨w11.heap.size, 0, none⟩ = some (.float .f64 W1) ∧ w'.cell? ⟨w11.heap.size, 1, none⟩ = some (.float .f64 W2))) := fun w' hb => (by
    have p := XP_14.out.on hb
    have q := XA_14.out.on hb
    have r := XB_14.out.on hb
    have s := XW_14.out.on hb
    exact ⟨⟨p.1, p.2.1⟩, ⟨q.1, q.2.1⟩, ⟨r.1, r.2.1⟩, s.1, s.2.1⟩)
  have BK : Hid (∀ w', Below w14.heap.size w14 w' → Below w.heap.size w w') := fun w' hb => B14.out.trans (hb.mono B14.out.size)
  obtain ⟨qa, hqa⟩ : ∃ q, q = (kn x && kn y) := ⟨_, rfl⟩
  obtain ⟨qb, hqb⟩ : ∃ q, q = (kn x' && kn y') := ⟨_, rfl⟩
  obtain ⟨qw, hqw⟩ : ∃ q, q = (kn W1 && kn W2) := ⟨_, rfl⟩
  have KA : Hid (∀ w : World, Calls Try.prog 11 #[.agg #[.float .f64 x, .float .f64 y]] w fun e w' => e = .returned (.bool qa) ∧ Below w.heap.size w w') := fun w => hqa ▸ known_any x y w
  have KC : Hid (∀ w : World, Calls Try.prog 11 #[.agg #[.float .f64 x', .float .f64 y']] w fun e w' => e = .returned (.bool qb) ∧ Below w.heap.size w w') := fun w => hqb ▸ known_any x' y' w
  have KW : Hid (∀ w : World, Calls Try.prog 11 #[.agg #[.float .f64 W1, .float .f64 W2]] w fun e w' => e = .returned (.bool qw) ∧ Below w.heap.size w w') := fun w => hqw ▸ known_any W1 W2 w
  have HQA : Hid (qa = (kn x && kn y)) := hqa
  have HQB : Hid (qb = (kn x' && kn y')) := hqb
  have HQW : Hid (qw = (kn W1 && kn W2)) := hqw
  clear hqa hqb hqw
  go_wp2_with fail
  refine (KA.out _).mono ?_
  rintro e v1 ⟨rfl, hb⟩
  have D1 : Hid (Below w14.heap.size w14 v1) := hb
  clear hb cP0 cP1 cW0 cW1 cA0 cA1 cB0 cB1
  obtain ⟨⟨e0, e1⟩, ⟨e2, e3⟩, ⟨e4, e5⟩, e6, e7⟩ := KB.out v1 D1.out
  cases qa
  · go_wp2_with fail
    go_ret
    exact ⟨rfl, BK.out _ D1.out⟩
  go_wp2_with fail
  refine (KC.out _).mono ?_
  rintro e v2 ⟨rfl, hb⟩
  have D2 : Hid (Below w14.heap.size w14 v2) := D1.out.trans (hb.mono D1.out.size)
  clear hb e0 e1 e2 e3 e4 e5 e6 e7
  obtain ⟨⟨e0, e1⟩, ⟨e2, e3⟩, ⟨e4, e5⟩, e6, e7⟩ := KB.out v2 D2.out
  cases qb
  · go_wp2_with fail
    go_ret
    exact ⟨rfl, BK.out _ D2.out⟩
  go_wp2_with fail
  refine (KW.out _).mono ?_
  rintro e v3 ⟨rfl, hb⟩
  have D3 : Hid (Below w14.heap.size w14 v3) := D2.out.trans (hb.mono D2.out.size)
  clear hb e0 e1 e2 e3 e4 e5 e6 e7
  obtain ⟨⟨e0, e1⟩, ⟨e2, e3⟩, ⟨e4, e5⟩, e6, e7⟩ := KB.out v3 D3.out
  cases qw
  · go_wp2_with fail
    go_ret
    exact ⟨rfl, BK.out _ D3.out⟩
  have HEQ : Hid (∀ e1 e2 g1 g2 h1 h2 f1 f2 : Nat, cn e1 = cn P1 → cn e2 = opF .sub 0 (cn P2) → cn g1 = cn x → cn g2 = opF .sub 0 (cn y) → cn h1 = cn x' → cn h2 = opF .sub 0 (cn y') → cn f1 = mre (cn g1) (cn g2) (cn h1) (cn h2) → cn f2 = mim (cn g1) (cn g2) (cn h1) (cn h2) → (ord e1 f1 == some .eq) = true ∧ (ord e2 f2 == some .eq) = true) := fun e1 e2 g1 g2 h1 h2 f1 f2 a1 a2 a3 a4 a5 a6 a7 a8 => (by
    have k1 := HQA.out.symm
    have k2 := HQB.out.symm
    have k3 := HQW.out.symm
    simp only [Bool.and_eq_true] at k1 k2 k3
    have r1 : rng (mre (cn x) (cn y) (cn x') (cn y')) < 9218868437227405312 := by rw [← HW1q.out, kn_cn k3.1]; exact (kn_iff _).1 k3.1
    have r2 : rng (mim (cn x) (cn y) (cn x') (cn y')) < 9218868437227405312 := by rw [← HW2q.out, kn_cn k3.2]; exact (kn_iff _).1 k3.2
    exact heq k1.1 k1.2 k2.1 k2.2 r1 r2 HP1.out HP2.out a1 a2 a3 a4 a5 a6 a7 a8)
  go_wp2_with fail
  go_region_held3 (fun w' => (w'.cell? ⟨w3.heap.size, 0, none⟩ = some (.float .f64 P1) ∧ w'.cell? ⟨w3.heap.size, 1, none⟩ = some (.float .f64 P2)) ∧ (w'.cell? ⟨w1.heap.size, 0, none⟩ = some (.float .f64 x) ∧ w'.cell? ⟨w1.heap.size, 1, none⟩ = some (.float .f64 y)) ∧ (w'.cell? ⟨w1.heap.size + 1, 0, none⟩ = some (.float .f64 x') ∧ w'.cell? ⟨w1.heap.size + 1, 1, none⟩ = some (.float .f64 y'))) (go_keep)
    (first
    | (go_at_call_of 13 (Value.agg #[Value.float FloatKind.f64 P1, Value.float FloatKind.f64 P2]); (with_reducible refine (iconj_any P1 P2 _).mono ?_); rintro e u1 ⟨p1, p2, rfl, hp1, hp2, hb⟩; have D4 : Hid (Below w14.heap.size w14 u1) := D3.out.drew.trans (hb.mono D3.out.drew.size); obtain ⟨⟨a0, a1⟩, ⟨a2, a3⟩, ⟨a4, a5⟩, _, _⟩ := KB.out u1 D4.out; have HP3 : Hid (cn p1 = cn P1) := hp1; have HP4 : Hid (cn p2 = opF .sub 0 (cn P2)) := hp2; clear hb hp1 hp2)
    | (go_at_call_of 13 (Value.agg #[Value.float FloatKind.f64 x, Value.float FloatKind.f64 y]); (with_reducible refine (iconj_any x y _).mono ?_); rintro e u2 ⟨g1, g2, rfl, hg1, hg2, hb⟩; have D5 : Hid (Below w14.heap.size w14 u2) := D4.out.trans (hb.mono D4.out.size); obtain ⟨⟨b0, b1⟩, ⟨b2, b3⟩, ⟨b4, b5⟩, _, _⟩ := KB.out u2 D5.out; have HG1 : Hid (cn g1 = cn x) := hg1; have HG2 : Hid (cn g2 = opF .sub 0 (cn y)) := hg2; clear hb hg1 hg2)
    | (go_at_call_of 13 (Value.agg #[Value.float FloatKind.f64 x', Value.float FloatKind.f64 y']); (with_reducible refine (iconj_any x' y' _).mono ?_); rintro e u3 ⟨h1, h2, rfl, hh1, hh2, hb⟩; have D6 : Hid (Below w14.heap.size w14 u3) := D5.out.trans (hb.mono D5.out.size); obtain ⟨⟨l0, l1⟩, ⟨l2, l3⟩, ⟨l4, l5⟩, _, _⟩ := KB.out u3 D6.out; have HH1 : Hid (cn h1 = cn x') := hh1; have HH2 : Hid (cn h2 = opF .sub 0 (cn y')) := hh2; clear hb hh1 hh2)
    | (go_at_call 6; (with_reducible refine (imul_any g1 g2 h1 h2 _).mono ?_); rintro e u4 ⟨f1, f2, rfl, hf1, hf2, hb⟩; have D7 : Hid (Below w14.heap.size w14 u4) := D6.out.trans (hb.mono D6.out.size); obtain ⟨⟨m0, m1⟩, ⟨m2, m3⟩, ⟨m4, m5⟩, _, _⟩ := KB.out u4 D7.out; have HF : Hid ((ord p1 f1 == some .eq) = true ∧ (ord p2 f2 == some .eq) = true) := HEQ.out p1 p2 g1 g2 h1 h2 f1 f2 HP3.out HP4.out HG1.out HG2.out HH1.out HH2.out hf1 hf2; clear hb hf1 hf2)
    | (go_at_call 12; (with_reducible refine (equal_any p1 p2 f1 f2 HF.out.1 HF.out.2 _).mono ?_); rintro e u5 ⟨rfl, hb⟩; have D8 : Hid (Below w14.heap.size w14 u5) := D7.out.trans (hb.mono D7.out.size); obtain ⟨⟨o0, o1⟩, ⟨o2, o3⟩, ⟨o4, o5⟩, _, _⟩ := KB.out u5 D8.out; clear hb))
  go_wp2_with fail
  go_ret
  exact ⟨rfl, BK.out _ D8.out⟩
end Go.Proofs.Ythdhjinmjneenaa.Flt
