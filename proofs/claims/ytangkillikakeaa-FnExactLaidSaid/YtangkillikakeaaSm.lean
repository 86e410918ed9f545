/- Laid and SkyOk: the laws. -/
import Derived.Test.YtangkillikakeaaSl
import Derived.Deep.RegionWith
import Derived.Deep.RegionHeld3
import Derived.Deep.DrawnRows
import Derived.Deep.DeepMust
namespace Go.Proofs.Ytangkillikakeaa.Sk
open Go.ChangeShapes Go.WideShapes Go.ChangeAt Go.RowKit
open Go.Proofs.Ytangkillikakeaa.Al

theorem sb_new {W w' : World} (hb : Below (W.alloc (.cells #[.int .i64 0, .int .i64 0, .int .i64 0, .string E, .string E, .int .i64 0] 26)).heap.size (W.alloc (.cells #[.int .i64 0, .int .i64 0, .int .i64 0, .string E, .string E, .int .i64 0] 26)) w') : SB w' W.heap.size 0 0 0 E E 0 := (SB.new W 0 0 0 E E 0).on hb (by simp)
theorem sb_newd {W w' : World} (hb : Below (W.alloc (.cells #[.int .i64 0, .int .i64 0, .int .i64 0, .string E, .string E, .int .i64 0] 26)).drew.heap.size (W.alloc (.cells #[.int .i64 0, .int .i64 0, .int .i64 0, .string E, .string E, .int .i64 0] 26)).drew w') : SB w' W.heap.size 0 0 0 E E 0 := (SB.new W 0 0 0 E E 0).on ⟨hb.os, hb.tape, hb.output, hb.size, hb.block⟩ (by simp)

set_option maxRecDepth 20000 in
set_option maxHeartbeats 2000000 in
theorem skyOkAll (w : World) (d p v : Int) (W C : ByteArray) (b : Int) (hW : W.size < 9223372036854775808) (hC : C.size < 9223372036854775808) :
    Calls Try.prog 3 #[sk d p v W C b] w fun e w' => e = .returned (.bool true) ∧ Below w.heap.size w w' := by
  have T1 : Hid (∀ w, Calls Try.prog 7 #[sk d p v W C b] w fun e w' => e = .returned (sk d p v W C b) ∧ Below w.heap.size w w') := fun w => to_any d p v W C b w
  have SA : Hid (∀ w, Calls Try.prog 6 #[sk d p v W C b] w fun e w' => e = .returned (.bool (ok d p v W C b)) ∧ Below w.heap.size w w') := fun w => sok_any d p v W C b w
  have IA : Hid (∀ w, Calls Try.prog 8 #[sk d p v W C b] w fun e w' => e = .returned (.bool (ok d p v W C b)) ∧ Below w.heap.size w w') := fun w => iok_any d p v W C b w
  have SZ : Hid (∀ w : World, Calls Try.prog 5 #[sk d p v W C b, .int .i64 1048576] w fun e w' => (∃ r : Int, e = .returned (.int .i64 r) ∧ (0 ≤ r → W.size ≤ 1048576 ∧ C.size ≤ 1048576) ∧ r ≤ 1048576) ∧ Below w.heap.size w w') := fun w => sz_any d p v W C b _ w (by omega) (by omega) hW hC
  clear hW hC
  generalize ok d p v W C b = bo at *
  have ebo : (bo != bo) = false := by cases bo <;> rfl
  obtain ⟨wb, hwb⟩ : ∃ wb, wb = w.alloc (.cells #[.int .i64 d, .int .i64 p, .int .i64 v, .string W, .string C, .int .i64 b] 23) := ⟨_, rfl⟩
  have HW : Hid (wb = w.alloc (.cells #[.int .i64 d, .int .i64 p, .int .i64 v, .string W, .string C, .int .i64 b] 23)) := hwb
  have BW : Hid (Below w.heap.size w wb) := (by show Below _ _ _; rw [hwb]; exact (Below.refl _ _).alloc (Nat.le_refl _) _)
  have ZW : Hid (wb.heap.size = w.heap.size + 1) := (by show _ = _; rw [hwb]; simp)
  have KW : Hid (∀ w', Below wb.heap.size wb w' → w'.cell? ⟨w.heap.size, 0, none⟩ = some (.int .i64 d) ∧ w'.cell? ⟨w.heap.size, 1, none⟩ = some (.int .i64 p) ∧ w'.cell? ⟨w.heap.size, 2, none⟩ = some (.int .i64 v) ∧ w'.cell? ⟨w.heap.size, 3, none⟩ = some (.string W) ∧ w'.cell? ⟨w.heap.size, 4, none⟩ = some (.string C) ∧ w'.cell? ⟨w.heap.size, 5, none⟩ = some (.int .i64 b)) := fun w' hb => (by
    have hlt : w.heap.size < wb.heap.size := by rw [ZW.out]; omega
    have K : ∀ j, w'.cell? ⟨w.heap.size, j, none⟩ = wb.cell? ⟨w.heap.size, j, none⟩ := fun j => hb.cell (p := ⟨w.heap.size, j, none⟩) hlt
    rw [K, K, K, K, K, K, hwb]
    simp [go_sem])
  clear hwb
  obtain ⟨k0, k1, k2, k3, k4, k5⟩ := KW.out wb (Below.refl _ _)
  go_enter Try.func3, Try.ntmps3
  go_wp2_with fail
  rw [← HW.out]
  refine (SZ.out _).mono ?_
  rintro e w1 ⟨⟨z, rfl, _, _⟩, hb⟩
  have Q1 : Hid (Below wb.heap.size wb w1) := hb
  have B1 : Hid (Below w.heap.size w w1) := BW.out.trans (hb.mono BW.out.size)
  clear hb k0 k1 k2 k3 k4 k5 HW
  by_cases hneg : z < 0
  · go_wp2_with fail
    go_ret
    exact ⟨rfl, B1.out⟩
  obtain ⟨k0, k1, k2, k3, k4, k5⟩ := KW.out w1 Q1.out
  go_wp2_with fail
  refine (T1.out _).mono ?_
  rintro e w2 ⟨rfl, hb⟩
  have Q2 : Hid (Below wb.heap.size wb w2) := Q1.out.trans (hb.mono Q1.out.size)
  clear hb k0 k1 k2 k3 k4 k5 Q1
  go_wp2_with fail
  refine (SA.out _).mono ?_
  rintro e w3 ⟨rfl, hb⟩
  have Q3 : Hid (Below wb.heap.size wb w3) := Q2.out.trans (hb.mono Q2.out.size)
  clear hb Q2
  obtain ⟨k0, k1, k2, k3, k4, k5⟩ := KW.out w3 Q3.out
  go_wp2_with fail
  refine (T1.out _).mono ?_
  rintro e w4 ⟨rfl, hb⟩
  have Q4 : Hid (Below wb.heap.size wb w4) := Q3.out.trans (hb.mono Q3.out.size)
  clear hb k0 k1 k2 k3 k4 k5 Q3
  go_wp2_with fail
  refine (IA.out _).mono ?_
  rintro e w5 ⟨rfl, hb⟩
  have B5 : Hid (Below w.heap.size w w5) := BW.out.trans ((Q4.out.trans (hb.mono Q4.out.size)).mono (by have := ZW.out; omega))
  clear hb Q4
  go_wp2_with fail
  go_ret
  exact ⟨rfl, B5.out⟩

set_option maxRecDepth 20000 in
set_option maxHeartbeats 4000000 in
theorem laidAll (w : World) (d p v : Int) (W C : ByteArray) (b : Int) (hW : W.size < 9223372036854775808) (hC : C.size < 9223372036854775808) (d2 p2 v2 : Int) (W2 C2 : ByteArray) (b2 : Int) (hW2 : W2.size < 9223372036854775808) (hC2 : C2.size < 9223372036854775808) :
    Calls Try.prog 4 #[sk d p v W C b, sk d2 p2 v2 W2 C2 b2] w fun e w' => e = .returned (.bool true) ∧ Below w.heap.size w w' := by
  have TA : Hid (∀ w, Calls Try.prog 7 #[sk d p v W C b] w fun e w' => e = .returned (sk d p v W C b) ∧ Below w.heap.size w w') := fun w => to_any d p v W C b w
  have TB : Hid (∀ w, Calls Try.prog 7 #[sk d2 p2 v2 W2 C2 b2] w fun e w' => e = .returned (sk d2 p2 v2 W2 C2 b2) ∧ Below w.heap.size w w') := fun w => to_any d2 p2 v2 W2 C2 b2 w
  obtain ⟨r, hr⟩ : ∃ r, r = laid (d, p, v, W, C, b) (d2, p2, v2, W2, C2, b2) := ⟨_, rfl⟩
  have SA : Hid (∀ w, Calls Try.prog 9 #[sk d p v W C b, sk d2 p2 v2 W2 C2 b2] w fun e w' => e = .returned (sv r) ∧ Below w.heap.size w w') := (by rw [hr]; exact fun w => slaid_any d p v W C b d2 p2 v2 W2 C2 b2 w)
  have IA : Hid (∀ w, Calls Try.prog 10 #[sk d p v W C b, sk d2 p2 v2 W2 C2 b2] w fun e w' => e = .returned (sv r) ∧ Below w.heap.size w w') := (by rw [hr]; exact fun w => ilaid_any d p v W C b d2 p2 v2 W2 C2 b2 w)
  clear hr
  obtain ⟨x0, x1, x2, x3, x4, x5⟩ := r
  have SA : Hid (∀ w, Calls Try.prog 9 #[sk d p v W C b, sk d2 p2 v2 W2 C2 b2] w fun e w' => e = .returned (sk x0 x1 x2 x3 x4 x5) ∧ Below w.heap.size w w') := SA
  have IA : Hid (∀ w, Calls Try.prog 10 #[sk d p v W C b, sk d2 p2 v2 W2 C2 b2] w fun e w' => e = .returned (sk x0 x1 x2 x3 x4 x5) ∧ Below w.heap.size w w') := IA
  have EA : Hid (∀ w, Calls Try.prog 11 #[sk x0 x1 x2 x3 x4 x5, sk x0 x1 x2 x3 x4 x5] w fun e w' => e = .returned (.bool true) ∧ Below w.heap.size w w') := fun w => eq_any x0 x1 x2 x3 x4 x5 w
  have S1 : Hid (∀ (w : World) (l : Int), 0 ≤ l → l ≤ 1048576 → Calls Try.prog 5 #[sk d p v W C b, .int .i64 l] w fun e w' => (∃ r : Int, e = .returned (.int .i64 r) ∧ (0 ≤ r → W.size ≤ 1048576 ∧ C.size ≤ 1048576) ∧ r ≤ 1048576) ∧ Below w.heap.size w w') := fun w l h0 h1 => sz_any d p v W C b _ w h0 h1 hW hC
  have S2 : Hid (∀ (w : World) (l : Int), 0 ≤ l → l ≤ 1048576 → Calls Try.prog 5 #[sk d2 p2 v2 W2 C2 b2, .int .i64 l] w fun e w' => (∃ r : Int, e = .returned (.int .i64 r) ∧ (0 ≤ r → W2.size ≤ 1048576 ∧ C2.size ≤ 1048576) ∧ r ≤ 1048576) ∧ Below w.heap.size w w') := fun w l h0 h1 => sz_any d2 p2 v2 W2 C2 b2 _ w h0 h1 hW2 hC2
  clear hW hC hW2 hC2
  obtain ⟨wb, hwb⟩ : ∃ wb, wb = (w.alloc (.cells #[.int .i64 d, .int .i64 p, .int .i64 v, .string W, .string C, .int .i64 b] 23)).alloc (.cells #[.int .i64 d2, .int .i64 p2, .int .i64 v2, .string W2, .string C2, .int .i64 b2] 23) := ⟨_, rfl⟩
  have HW : Hid (wb = (w.alloc (.cells #[.int .i64 d, .int .i64 p, .int .i64 v, .string W, .string C, .int .i64 b] 23)).alloc (.cells #[.int .i64 d2, .int .i64 p2, .int .i64 v2, .string W2, .string C2, .int .i64 b2] 23)) := hwb
  have BW : Hid (Below w.heap.size w wb) := (by show Below _ _ _; rw [hwb]; exact ((Below.refl _ _).alloc (Nat.le_refl _) _).alloc (by simp) _)
  have ZW : Hid (wb.heap.size = w.heap.size + 2) := (by show _ = _; rw [hwb]; simp)
  have KW : Hid (∀ w', Below wb.heap.size wb w' → w'.cell? ⟨w.heap.size, 0, none⟩ = some (.int .i64 d) ∧ w'.cell? ⟨w.heap.size, 1, none⟩ = some (.int .i64 p) ∧ w'.cell? ⟨w.heap.size, 2, none⟩ = some (.int .i64 v) ∧ w'.cell? ⟨w.heap.size, 3, none⟩ = some (.string W) ∧ w'.cell? ⟨w.heap.size, 4, none⟩ = some (.string C) ∧ w'.cell? ⟨w.heap.size, 5, none⟩ = some (.int .i64 b) ∧ w'.cell? ⟨w.heap.size + 1, 0, none⟩ = some (.int .i64 d2) ∧ w'.cell? ⟨w.heap.size + 1, 1, none⟩ = some (.int .i64 p2) ∧ w'.cell? ⟨w.heap.size + 1, 2, none⟩ = some (.int .i64 v2) ∧ w'.cell? ⟨w.heap.size + 1, 3, none⟩ = some (.string W2) ∧ w'.cell? ⟨w.heap.size + 1, 4, none⟩ = some (.string C2) ∧ w'.cell? ⟨w.heap.size + 1, 5, none⟩ = some (.int .i64 b2)) := fun w' hb => (by
    have hlt : w.heap.size + 1 < wb.heap.size := by rw [ZW.out]; omega
    have K : ∀ j, w'.cell? ⟨w.heap.size, j, none⟩ = wb.cell? ⟨w.heap.size, j, none⟩ := fun j => hb.cell (p := ⟨w.heap.size, j, none⟩) (by show w.heap.size < _; omega)
    have K' : ∀ j, w'.cell? ⟨w.heap.size + 1, j, none⟩ = wb.cell? ⟨w.heap.size + 1, j, none⟩ := fun j => hb.cell (p := ⟨w.heap.size + 1, j, none⟩) hlt
    rw [K, K, K, K, K, K, K', K', K', K', K', K', hwb]
    simp [go_sem])
  clear hwb
  obtain ⟨k0, k1, k2, k3, k4, k5, k6, k7, k8, k9, k10, k11⟩ := KW.out wb (Below.refl _ _)
  go_enter Try.func4, Try.ntmps4
  go_wp2_with fail
  rw [← HW.out]
  refine (S1.out _ 1048576 (by omega) (by omega)).mono ?_
  rintro e w1 ⟨⟨z, rfl, _, hz⟩, hb⟩
  have Q1 : Hid (Below wb.heap.size wb w1) := hb
  have B1 : Hid (Below w.heap.size w w1) := BW.out.trans (hb.mono BW.out.size)
  clear hb k0 k1 k2 k3 k4 k5 k6 k7 k8 k9 k10 k11 HW
  by_cases hneg : z < 0
  · go_wp2_with fail
    go_ret
    exact ⟨rfl, B1.out⟩
  obtain ⟨k0, k1, k2, k3, k4, k5, k6, k7, k8, k9, k10, k11⟩ := KW.out w1 Q1.out
  go_wp2_with fail
  refine (S2.out _ z (by omega) hz).mono ?_
  rintro e w2 ⟨⟨z2, rfl, _, hz2⟩, hb⟩
  have Q2 : Hid (Below wb.heap.size wb w2) := Q1.out.trans (hb.mono Q1.out.size)
  have B2 : Hid (Below w.heap.size w w2) := B1.out.trans (hb.mono B1.out.size)
  clear hb k0 k1 k2 k3 k4 k5 k6 k7 k8 k9 k10 k11
  by_cases hneg2 : z2 < 0
  · go_wp2_with fail
    go_ret
    exact ⟨rfl, B2.out⟩
  clear Q1 B1 S1 S2 hz hz2
  obtain ⟨k0, k1, k2, k3, k4, k5, k6, k7, k8, k9, k10, k11⟩ := KW.out w2 Q2.out
  have zq0 : w.heap.size + 1 < w2.heap.size := by have := ZW.out; have := Q2.out.size; omega
  have zq1 : w.heap.size < w2.heap.size := by omega
  have nq0 : ¬ w.heap.size = w2.heap.size := by omega
  have nq1 : ¬ w.heap.size + 1 = w2.heap.size := by omega
  have nq2 : ¬ w2.heap.size = w.heap.size := by omega
  have nq3 : ¬ w2.heap.size = w.heap.size + 1 := by omega
  go_upto_region 8 with fail
  go_cut [6] (fun q wx => ∃ k : Nat, q = .pointer (some ⟨k, 0, none⟩) ∧ Hid (SB wx k x0 x1 x2 x3 x4 x5) ∧ Hid (Below w2.heap.size w2 wx))
  case first =>
    go_region_held3 (fun w' => w'.cell? ⟨w.heap.size, 0, none⟩ = some (.int .i64 d) ∧ w'.cell? ⟨w.heap.size, 1, none⟩ = some (.int .i64 p) ∧ w'.cell? ⟨w.heap.size, 2, none⟩ = some (.int .i64 v) ∧ w'.cell? ⟨w.heap.size, 3, none⟩ = some (.string W) ∧ w'.cell? ⟨w.heap.size, 4, none⟩ = some (.string C) ∧ w'.cell? ⟨w.heap.size, 5, none⟩ = some (.int .i64 b) ∧ w'.cell? ⟨w.heap.size + 1, 0, none⟩ = some (.int .i64 d2) ∧ w'.cell? ⟨w.heap.size + 1, 1, none⟩ = some (.int .i64 p2) ∧ w'.cell? ⟨w.heap.size + 1, 2, none⟩ = some (.int .i64 v2) ∧ w'.cell? ⟨w.heap.size + 1, 3, none⟩ = some (.string W2) ∧ w'.cell? ⟨w.heap.size + 1, 4, none⟩ = some (.string C2) ∧ w'.cell? ⟨w.heap.size + 1, 5, none⟩ = some (.int .i64 b2)) (go_keep)
      (first
      | (go_at_call_of 7 (Value.agg #[Value.int IntKind.i64 d, Value.int IntKind.i64 p, Value.int IntKind.i64 v, Value.string W, Value.string C, Value.int IntKind.i64 b]); refine (TA.out _).mono ?_; rintro e w1_ ⟨rfl, hb1⟩; have P1 : Below wb.heap.size wb w1_ := (by first | exact (Q2.out.drew).trans (hb1.mono Q2.out.size) | exact ((Q2.out.alloc Q2.out.size _).drew).trans (hb1.mono (by simp; have := Q2.out.size; omega))); obtain ⟨k1_0, k1_1, k1_2, k1_3, k1_4, k1_5, k1_6, k1_7, k1_8, k1_9, k1_10, k1_11⟩ := KW.out w1_ P1; have Z1 := P1.size; have zw1 := ZW.out; have zz1 : w.heap.size + 1 < w1_.heap.size := (by omega); have za1 : w.heap.size < w1_.heap.size := (by omega); have na1 : ¬ w.heap.size = w1_.heap.size := (by omega); have nb1 : ¬ w.heap.size + 1 = w1_.heap.size := (by omega); have nc1 : ¬ w1_.heap.size = w.heap.size := (by omega); have nd1 : ¬ w1_.heap.size = w.heap.size + 1 := (by omega); (try (have tt := sb_newd hb1; have s10 := tt)))
      | (go_at_call_of 7 (Value.agg #[Value.int IntKind.i64 d2, Value.int IntKind.i64 p2, Value.int IntKind.i64 v2, Value.string W2, Value.string C2, Value.int IntKind.i64 b2]); refine (TB.out _).mono ?_; rintro e w2_ ⟨rfl, hb2⟩; have P2 : Below wb.heap.size wb w2_ := (by first | exact P1.trans (hb2.mono P1.size) | exact (P1.alloc P1.size _).trans (hb2.mono (by simp; have := P1.size; omega))); obtain ⟨k2_0, k2_1, k2_2, k2_3, k2_4, k2_5, k2_6, k2_7, k2_8, k2_9, k2_10, k2_11⟩ := KW.out w2_ P2; have Z2 := P2.size; have zw2 := ZW.out; have zz2 : w.heap.size + 1 < w2_.heap.size := (by omega); have za2 : w.heap.size < w2_.heap.size := (by omega); have na2 : ¬ w.heap.size = w2_.heap.size := (by omega); have nb2 : ¬ w.heap.size + 1 = w2_.heap.size := (by omega); have nc2 : ¬ w2_.heap.size = w.heap.size := (by omega); have nd2 : ¬ w2_.heap.size = w.heap.size + 1 := (by omega); (try (have tt := s10.on hb2 s10.lt; have s20 := tt)); (try (have tt := sb_new hb2; have s21 := tt)))
      | (go_at_call 9; refine (SA.out _).mono ?_; rintro e w3_ ⟨rfl, hb3⟩; have P3 : Below wb.heap.size wb w3_ := (by first | exact P2.trans (hb3.mono P2.size) | exact (P2.alloc P2.size _).trans (hb3.mono (by simp; have := P2.size; omega))); obtain ⟨k3_0, k3_1, k3_2, k3_3, k3_4, k3_5, k3_6, k3_7, k3_8, k3_9, k3_10, k3_11⟩ := KW.out w3_ P3; have Z3 := P3.size; have zw3 := ZW.out; have zz3 : w.heap.size + 1 < w3_.heap.size := (by omega); have za3 : w.heap.size < w3_.heap.size := (by omega); have na3 : ¬ w.heap.size = w3_.heap.size := (by omega); have nb3 : ¬ w.heap.size + 1 = w3_.heap.size := (by omega); have nc3 : ¬ w3_.heap.size = w.heap.size := (by omega); have nd3 : ¬ w3_.heap.size = w.heap.size + 1 := (by omega); (try (have tt := s20.on hb3 s20.lt; have s30 := tt; obtain ⟨r0, r1, r2, r3, r4, r5, r6⟩ := s30.cells; have f0 := r6 0; have f1 := r6 1; have f2 := r6 2; have f3 := r6 3; have f4 := r6 4; have f5 := r6 5; clear r6)); (try (have tt := s21.on hb3 s21.lt; have s31 := tt; obtain ⟨r0, r1, r2, r3, r4, r5, r6⟩ := s31.cells; have f0 := r6 0; have f1 := r6 1; have f2 := r6 2; have f3 := r6 3; have f4 := r6 4; have f5 := r6 5; clear r6)); (try (have tt := sb_new hb3; have s32 := tt; obtain ⟨r0, r1, r2, r3, r4, r5, r6⟩ := s32.cells; have f0 := r6 0; have f1 := r6 1; have f2 := r6 2; have f3 := r6 3; have f4 := r6 4; have f5 := r6 5; clear r6))))
    all_goals
      have O1 : Below w2.heap.size w2 w1_ := (by first | exact (Below.refl _ _).drew.trans (hb1.mono (by simp)) | exact ((Below.refl _ _).alloc (Nat.le_refl _) _).drew.trans (hb1.mono (by simp)))
      have O2 : Below w2.heap.size w2 w2_ := (by first | exact O1.trans (hb2.mono O1.size) | exact (O1.alloc O1.size _).trans (hb2.mono (by simp; have := O1.size; omega)))
      have O3 : Below w2.heap.size w2 w3_ := (by first | exact O2.trans (hb3.mono O2.size) | exact (O2.alloc O2.size _).trans (hb3.mono (by simp; have := O2.size; omega)))
      have y1 := O1.size
      have y2 := O2.size
      have y3 := O3.size
      go_wp2_with fail
      go_meet
    · exact ⟨_, rfl, SB.new _ _ _ _ _ _ _, O3.alloc y3 _⟩
    · exact ⟨_, rfl, s32.all _ _ _ _ _ _, below_all O3 y2 _ _ _ _ _ _⟩
    · exact ⟨_, rfl, s31.all _ _ _ _ _ _, below_all O3 y1 _ _ _ _ _ _⟩
    · exact ⟨_, rfl, s30.all _ _ _ _ _ _, below_all O3 (Nat.le_refl _) _ _ _ _ _ _⟩
  case rest =>
    obtain ⟨wo, hwo⟩ : ∃ x : World, x = wc := ⟨_, rfl⟩
    subst hwo
    obtain ⟨k1, rfl, K1, hbc⟩ := hcut
    have Q3 : Hid (Below wb.heap.size wb wo) := Q2.out.trans (hbc.out.mono Q2.out.size)
    have B3 : Hid (Below w.heap.size w wo) := B2.out.trans (hbc.out.mono B2.out.size)
    clear zq0 zq1 nq0 nq1 nq2 nq3 hbc Q2 B2
    obtain ⟨k0, k1, k2, k3, k4, k5, k6, k7, k8, k9, k10, k11⟩ := KW.out wo Q3.out
    have zq0 : w.heap.size + 1 < wo.heap.size := by have := ZW.out; have := Q3.out.size; omega
    have zq1 : w.heap.size < wo.heap.size := by omega
    have nq0 : ¬ w.heap.size = wo.heap.size := by omega
    have nq1 : ¬ w.heap.size + 1 = wo.heap.size := by omega
    have nq2 : ¬ wo.heap.size = w.heap.size := by omega
    have nq3 : ¬ wo.heap.size = w.heap.size + 1 := by omega
    go_upto_region 9 with fail
    go_cut [7] (fun q wx => ∃ k : Nat, q = .pointer (some ⟨k, 0, none⟩) ∧ Hid (SB wx k x0 x1 x2 x3 x4 x5) ∧ Hid (Below wo.heap.size wo wx))
    case first =>
      go_region_held3 (fun w' => w'.cell? ⟨w.heap.size, 0, none⟩ = some (.int .i64 d) ∧ w'.cell? ⟨w.heap.size, 1, none⟩ = some (.int .i64 p) ∧ w'.cell? ⟨w.heap.size, 2, none⟩ = some (.int .i64 v) ∧ w'.cell? ⟨w.heap.size, 3, none⟩ = some (.string W) ∧ w'.cell? ⟨w.heap.size, 4, none⟩ = some (.string C) ∧ w'.cell? ⟨w.heap.size, 5, none⟩ = some (.int .i64 b) ∧ w'.cell? ⟨w.heap.size + 1, 0, none⟩ = some (.int .i64 d2) ∧ w'.cell? ⟨w.heap.size + 1, 1, none⟩ = some (.int .i64 p2) ∧ w'.cell? ⟨w.heap.size + 1, 2, none⟩ = some (.int .i64 v2) ∧ w'.cell? ⟨w.heap.size + 1, 3, none⟩ = some (.string W2) ∧ w'.cell? ⟨w.heap.size + 1, 4, none⟩ = some (.string C2) ∧ w'.cell? ⟨w.heap.size + 1, 5, none⟩ = some (.int .i64 b2)) (go_keep)
        (first
        | (go_at_call_of 7 (Value.agg #[Value.int IntKind.i64 d, Value.int IntKind.i64 p, Value.int IntKind.i64 v, Value.string W, Value.string C, Value.int IntKind.i64 b]); refine (TA.out _).mono ?_; rintro e w1_ ⟨rfl, hb1⟩; have P1 : Below wb.heap.size wb w1_ := (by first | exact (Q3.out.drew).trans (hb1.mono Q3.out.size) | exact ((Q3.out.alloc Q3.out.size _).drew).trans (hb1.mono (by simp; have := Q3.out.size; omega))); obtain ⟨k1_0, k1_1, k1_2, k1_3, k1_4, k1_5, k1_6, k1_7, k1_8, k1_9, k1_10, k1_11⟩ := KW.out w1_ P1; have Z1 := P1.size; have zw1 := ZW.out; have zz1 : w.heap.size + 1 < w1_.heap.size := (by omega); have za1 : w.heap.size < w1_.heap.size := (by omega); have na1 : ¬ w.heap.size = w1_.heap.size := (by omega); have nb1 : ¬ w.heap.size + 1 = w1_.heap.size := (by omega); have nc1 : ¬ w1_.heap.size = w.heap.size := (by omega); have nd1 : ¬ w1_.heap.size = w.heap.size + 1 := (by omega); (try (have tt := sb_newd hb1; have s10 := tt)))
        | (go_at_call_of 7 (Value.agg #[Value.int IntKind.i64 d2, Value.int IntKind.i64 p2, Value.int IntKind.i64 v2, Value.string W2, Value.string C2, Value.int IntKind.i64 b2]); refine (TB.out _).mono ?_; rintro e w2_ ⟨rfl, hb2⟩; have P2 : Below wb.heap.size wb w2_ := (by first | exact P1.trans (hb2.mono P1.size) | exact (P1.alloc P1.size _).trans (hb2.mono (by simp; have := P1.size; omega))); obtain ⟨k2_0, k2_1, k2_2, k2_3, k2_4, k2_5, k2_6, k2_7, k2_8, k2_9, k2_10, k2_11⟩ := KW.out w2_ P2; have Z2 := P2.size; have zw2 := ZW.out; have zz2 : w.heap.size + 1 < w2_.heap.size := (by omega); have za2 : w.heap.size < w2_.heap.size := (by omega); have na2 : ¬ w.heap.size = w2_.heap.size := (by omega); have nb2 : ¬ w.heap.size + 1 = w2_.heap.size := (by omega); have nc2 : ¬ w2_.heap.size = w.heap.size := (by omega); have nd2 : ¬ w2_.heap.size = w.heap.size + 1 := (by omega); (try (have tt := s10.on hb2 s10.lt; have s20 := tt)); (try (have tt := sb_new hb2; have s21 := tt)))
        | (go_at_call 10; refine (IA.out _).mono ?_; rintro e w3_ ⟨rfl, hb3⟩; have P3 : Below wb.heap.size wb w3_ := (by first | exact P2.trans (hb3.mono P2.size) | exact (P2.alloc P2.size _).trans (hb3.mono (by simp; have := P2.size; omega))); obtain ⟨k3_0, k3_1, k3_2, k3_3, k3_4, k3_5, k3_6, k3_7, k3_8, k3_9, k3_10, k3_11⟩ := KW.out w3_ P3; have Z3 := P3.size; have zw3 := ZW.out; have zz3 : w.heap.size + 1 < w3_.heap.size := (by omega); have za3 : w.heap.size < w3_.heap.size := (by omega); have na3 : ¬ w.heap.size = w3_.heap.size := (by omega); have nb3 : ¬ w.heap.size + 1 = w3_.heap.size := (by omega); have nc3 : ¬ w3_.heap.size = w.heap.size := (by omega); have nd3 : ¬ w3_.heap.size = w.heap.size + 1 := (by omega); (try (have tt := s20.on hb3 s20.lt; have s30 := tt; obtain ⟨r0, r1, r2, r3, r4, r5, r6⟩ := s30.cells; have f0 := r6 0; have f1 := r6 1; have f2 := r6 2; have f3 := r6 3; have f4 := r6 4; have f5 := r6 5; clear r6)); (try (have tt := s21.on hb3 s21.lt; have s31 := tt; obtain ⟨r0, r1, r2, r3, r4, r5, r6⟩ := s31.cells; have f0 := r6 0; have f1 := r6 1; have f2 := r6 2; have f3 := r6 3; have f4 := r6 4; have f5 := r6 5; clear r6)); (try (have tt := sb_new hb3; have s32 := tt; obtain ⟨r0, r1, r2, r3, r4, r5, r6⟩ := s32.cells; have f0 := r6 0; have f1 := r6 1; have f2 := r6 2; have f3 := r6 3; have f4 := r6 4; have f5 := r6 5; clear r6))))
      all_goals
        have O1 : Below wo.heap.size wo w1_ := (by first | exact (Below.refl _ _).drew.trans (hb1.mono (by simp)) | exact ((Below.refl _ _).alloc (Nat.le_refl _) _).drew.trans (hb1.mono (by simp)))
        have O2 : Below wo.heap.size wo w2_ := (by first | exact O1.trans (hb2.mono O1.size) | exact (O1.alloc O1.size _).trans (hb2.mono (by simp; have := O1.size; omega)))
        have O3 : Below wo.heap.size wo w3_ := (by first | exact O2.trans (hb3.mono O2.size) | exact (O2.alloc O2.size _).trans (hb3.mono (by simp; have := O2.size; omega)))
        have y1 := O1.size
        have y2 := O2.size
        have y3 := O3.size
        go_wp2_with fail
        go_meet
      · exact ⟨_, rfl, SB.new _ _ _ _ _ _ _, O3.alloc y3 _⟩
      · exact ⟨_, rfl, s32.all _ _ _ _ _ _, below_all O3 y2 _ _ _ _ _ _⟩
      · exact ⟨_, rfl, s31.all _ _ _ _ _ _, below_all O3 y1 _ _ _ _ _ _⟩
      · exact ⟨_, rfl, s30.all _ _ _ _ _ _, below_all O3 (Nat.le_refl _) _ _ _ _ _ _⟩
    case rest =>
      obtain ⟨k2, rfl, K2, hbd⟩ := hcut
      have B4 : Hid (Below w.heap.size w wc) := B3.out.trans (hbd.out.mono B3.out.size)
      obtain ⟨g0, g1, g2, g3, g4, g5, _⟩ := (K1.out.on hbd.out K1.out.lt).cells
      obtain ⟨h0, h1, h2, h3, h4, h5, _⟩ := K2.out.cells
      go_wp2_with fail
      refine (EA.out _).mono ?_
      rintro e w9 ⟨rfl, hb⟩
      have B9 : Hid (Below w.heap.size w w9) := B4.out.trans (hb.mono B4.out.size)
      clear hb
      go_wp2_with fail
      go_ret
      exact ⟨rfl, B9.out⟩
end Go.Proofs.Ytangkillikakeaa.Sk
