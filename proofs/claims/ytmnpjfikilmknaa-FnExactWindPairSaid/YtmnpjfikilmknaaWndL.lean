/- Winds as pairs; the law FnExactWindPair walked. -/
import Derived.Test.YtmnpjfikilmknaaWnd
namespace Go.Proofs.Ytmnpjfikilmknaa.Flt
open Go.ChangeShapes Go.WideShapes Go.ChangeAt Go.RowKit
attribute [local go_sem] run_store_float

def wRe (d : Int) (s : Nat) : Nat := if wok d s then opF .sub 0 (opF .mul (cn s) (sine (d % 36))) else qn
def wIm (d : Int) (s : Nat) : Nat := if wok d s then opF .sub 0 (opF .mul (cn s) (sine ((d + 9) % 36))) else qn

set_option maxHeartbeats 1000000 in
theorem missing_any (w : World) : Calls Try.prog 18 #[] w fun e w' => ∃ a b, e = .returned (pr a b) ∧ cn a = qn ∧ cn b = qn ∧ Below w.heap.size w w' := by
  have hq : cn qn = qn := by decide +kernel
  have HQ : Hid (cn qn = qn) := hq
  clear hq
  go_enter Try.func18, Try.ntmps18
  go_wp2_with (go_at_call 26; refine (nan_any _).mono ?_; rintro e w' ⟨rfl, rfl⟩)
  refine bodyPost_ret (v := pr qn qn) (by simp [results, Try.results18, go_sem]) rfl ⟨qn, qn, rfl, HQ.out, HQ.out, ?_⟩
  exact (Below.refl _ _).alloc (Nat.le_refl _) _

set_option maxHeartbeats 1000000 in
theorem windOf_any (d : Int) (s a b : Nat) (w : World) : Calls Try.prog 19 #[wd d s, .complex .f64 a b] w fun e w' => ∃ x y, e = .returned (.complex .f64 x y) ∧ cn x = opF .sub 0 (opF .mul (cn s) (cn b)) ∧ cn y = opF .sub 0 (opF .mul (cn s) (cn a)) ∧ Below w.heap.size w w' := by
  have hs : ∀ x y w, (binOp .sub 22 (.float .f64 x) (.float .f64 y)).run Try.prog w = .ok (.float .f64 (opB .sub x y w)) (w.drewN (opD .sub x y)) := fun x y w => run_op Try.prog .sub arSub 22 x y w
  have hm : ∀ x y w, (binOp .mul 22 (.float .f64 x) (.float .f64 y)).run Try.prog w = .ok (.float .f64 (opB .mul x y w)) (w.drewN (opD .mul x y)) := fun x y w => run_op Try.prog .mul arMul 22 x y w
  go_enter Try.func19, Try.ntmps19
  go_wp2
  go_ret
  exact ⟨_, _, rfl, by rw [cn_op, cn_op]; rfl, by rw [cn_op, cn_op]; rfl, below_drewN ((Below.refl _ _).alloc (Nat.le_refl _) _) _⟩

theorem two_boxes {w w1 : World} {d : Int} {s : Nat} (hb : Below ((w.alloc (.cells #[.int .i64 d, .float .f64 s] 31)).alloc (.cells #[.float .f64 0, .float .f64 0] 24)).heap.size ((w.alloc (.cells #[.int .i64 d, .float .f64 s] 31)).alloc (.cells #[.float .f64 0, .float .f64 0] 24)) w1) :
    Bx w1 w.heap.size (.int .i64 d) (.float .f64 s) ∧ Bx w1 (w.heap.size + 1) (.float .f64 0) (.float .f64 0) ∧ Below w.heap.size w w1 := by
  refine ⟨((Bx.new w (.int .i64 d) (.float .f64 s) 31).alloc _).on hb, ?_, (((Below.refl _ _).alloc (Nat.le_refl _) _).alloc (by simp) _).trans (hb.mono (by simp; omega))⟩
  have := (Bx.new (w.alloc (.cells #[.int .i64 d, .float .f64 s] 31)) (.float .f64 0) (.float .f64 0) 24).on hb
  simpa using this

set_option maxHeartbeats 1000000 in
theorem iwind (d : Int) (s : Nat) (w : World) (hs : s < 18446744073709551616) : Calls Try.prog 10 #[wd d s] w fun e w' => ∃ a b, e = .returned (pr a b) ∧ cn a = wRe d s ∧ cn b = wIm d s ∧ Below w.heap.size w w' := by
  have HS : Hid (s < 18446744073709551616) := hs
  clear hs
  cases hk : wok d s
  · have E : Hid (wRe d s = qn ∧ wIm d s = qn) := (by show _ ∧ _; unfold wRe wIm; rw [hk]; exact ⟨rfl, rfl⟩)
    go_enter Try.func10, Try.ntmps10
    go_wp2_with fail
    refine (iwok _ _ _ HS.out).mono ?_
    rintro e w1 ⟨rfl, hb1⟩
    rw [hk]
    obtain ⟨XP, XR, B1⟩ := two_boxes hb1
    have R1 : Hid (Bx w1 (w.heap.size + 1) (.float .f64 0) (.float .f64 0)) := XR
    have BB : Hid (Below w.heap.size w w1) := B1
    clear hb1 XP XR B1
    go_wp2_with fail
    refine (missing_any _).mono ?_
    rintro e w2 ⟨x, y, rfl, hx, hy, hb2⟩
    have HX : Hid (cn x = qn ∧ cn y = qn) := ⟨hx, hy⟩
    obtain ⟨c0, c1, f0, f1, z2⟩ := R1.out.on hb2
    have B2 : Hid (Below w.heap.size w w2) := BB.out.trans (hb2.mono BB.out.size)
    clear hx hy hb2
    go_wp2_with fail
    refine bodyPost_ret (v := pr x y) (by simp [results, Try.results10, go_sem, c0, c1]) rfl ⟨x, y, rfl, HX.out.1.trans E.out.1.symm, HX.out.2.trans E.out.2.symm, ?_⟩
    exact (B2.out.setCell (by show w.heap.size ≤ w.heap.size + 1; omega) _).setCell (by show w.heap.size ≤ w.heap.size + 1; omega) _
  · have E : Hid (wRe d s = opF .sub 0 (opF .mul (cn s) (sine (d % 36))) ∧ wIm d s = opF .sub 0 (opF .mul (cn s) (sine ((d + 9) % 36)))) := (by show _ ∧ _; unfold wRe wIm; rw [hk]; exact ⟨rfl, rfl⟩)
    go_enter Try.func10, Try.ntmps10
    go_wp2_with fail
    refine (iwok _ _ _ HS.out).mono ?_
    rintro e w1 ⟨rfl, hb1⟩
    rw [hk]
    obtain ⟨XP, XR, B1⟩ := two_boxes hb1
    have P1 : Hid (Bx w1 w.heap.size (.int .i64 d) (.float .f64 s)) := XP
    have R1 : Hid (Bx w1 (w.heap.size + 1) (.float .f64 0) (.float .f64 0)) := XR
    have BB : Hid (Below w.heap.size w w1) := B1
    obtain ⟨p0, p1, p2, p3, p4⟩ := XP
    clear hb1 XR B1
    go_upto_region 3 with fail
    go_region_held3 (fun w' => w'.cell? ⟨w.heap.size, 0, none⟩ = some (.int .i64 d) ∧ w'.cell? ⟨w.heap.size, 1, none⟩ = some (.float .f64 s)) (go_keep)
      (first
      | (go_at_call 13; refine (iturn _ _).mono ?_; rintro e w2 ⟨a, b, rfl, ha, hb, hb2⟩; have P2 := (P1.out.drewN 1).on hb2; have R2 := (R1.out.drewN 1).on hb2; obtain ⟨q0, q1, q2, q3, q4⟩ := id P2)
      | (go_at_call 19; refine (windOf_any _ _ _ _ _).mono ?_; rintro e w3 ⟨x, y, rfl, hx, hy, hb3⟩; have P3 := P2.on hb3; have R3 := R2.on hb3; obtain ⟨r0, r1, r2, r3, r4⟩ := id P3)
      | (go_at_call 12; refine (pairOf_any _ _ _).mono ?_; rintro e w4 ⟨rfl, hb4⟩; have P4 := P3.on hb4; have R4 := R3.on hb4; obtain ⟨s0, s1, s2, s3, s4⟩ := id P4; obtain ⟨u0, u1, u2, u3, u4⟩ := id R4))
    have B2 : Below w.heap.size w w2 := BB.out.drew.trans (hb2.mono BB.out.size)
    have B3 : Below w.heap.size w w3 := B2.trans (hb3.mono B2.size)
    have B4 : Below w.heap.size w w4 := B3.trans (hb4.mono B3.size)
    go_wp2_with fail
    refine bodyPost_ret (v := pr x y) (by simp [results, Try.results10, go_sem, u0, u1]) rfl ⟨x, y, rfl, by rw [hx, hb]; exact E.out.1.symm, by rw [hy, ha]; exact E.out.2.symm, ?_⟩
    exact (B4.setCell (by show w.heap.size ≤ w.heap.size + 1; omega) _).setCell (by show w.heap.size ≤ w.heap.size + 1; omega) _

set_option maxHeartbeats 1000000 in
theorem swind (d : Int) (s : Nat) (w : World) : Calls Try.prog 8 #[wd d s] w fun e w' => ∃ a b, e = .returned (pr a b) ∧ cn a = wRe d s ∧ cn b = wIm d s ∧ Below w.heap.size w w' := by
  have hs : ∀ x y w, (binOp .sub 22 (.float .f64 x) (.float .f64 y)).run Try.prog w = .ok (.float .f64 (opB .sub x y w)) (w.drewN (opD .sub x y)) := fun x y w => run_op Try.prog .sub arSub 22 x y w
  have hm : ∀ x y w, (binOp .mul 22 (.float .f64 x) (.float .f64 y)).run Try.prog w = .ok (.float .f64 (opB .mul x y w)) (w.drewN (opD .mul x y)) := fun x y w => run_op Try.prog .mul arMul 22 x y w
  cases hk : wok d s
  · have E : Hid (wRe d s = qn ∧ wIm d s = qn) := (by show _ ∧ _; unfold wRe wIm; rw [hk]; exact ⟨rfl, rfl⟩)
    clear hs hm
    go_enter Try.func8, Try.ntmps8
    go_wp2_with fail
    refine (swok _ _ _).mono ?_
    rintro e w1 ⟨rfl, hb1⟩
    rw [hk]
    obtain ⟨XP, XR, B1⟩ := two_boxes hb1
    have R1 : Hid (Bx w1 (w.heap.size + 1) (.float .f64 0) (.float .f64 0)) := XR
    have BB : Hid (Below w.heap.size w w1) := B1
    clear hb1 XP XR B1
    go_wp2_with fail
    refine (none_any _).mono ?_
    rintro e w2 ⟨x, rfl, hx, _, hw2⟩
    have HX : Hid (cn x = qn) := hx
    have R2 : Hid (Bx w2 (w.heap.size + 1) (.float .f64 0) (.float .f64 0)) := (by show Bx _ _ _ _; rw [hw2]; exact R1.out.drewN 1)
    have B2 : Hid (Below w.heap.size w w2) := (by show Below _ _ _; rw [hw2]; exact BB.out.drew)
    clear hx hw2
    go_wp2_with fail
    refine (none_any _).mono ?_
    rintro e w3 ⟨y, rfl, hy, _, hw3⟩
    have HY : Hid (cn y = qn) := hy
    have R3 : Bx w3 (w.heap.size + 1) (.float .f64 0) (.float .f64 0) := (by rw [hw3]; exact R2.out.drewN 1)
    have B3 : Hid (Below w.heap.size w w3) := (by show Below _ _ _; rw [hw3]; exact B2.out.drew)
    obtain ⟨c0, c1, f0, f1, z2⟩ := R3
    clear hy hw3
    go_wp2_with fail
    refine bodyPost_ret (v := pr x y) (by simp [results, Try.results8, go_sem, c0, c1]) rfl ⟨x, y, rfl, HX.out.trans E.out.1.symm, HY.out.trans E.out.2.symm, ?_⟩
    exact (B3.out.setCell (by show w.heap.size ≤ w.heap.size + 1; omega) _).setCell (by show w.heap.size ≤ w.heap.size + 1; omega) _
  · have E : Hid (wRe d s = opF .sub 0 (opF .mul (cn s) (sine (d % 36))) ∧ wIm d s = opF .sub 0 (opF .mul (cn s) (sine ((d + 9) % 36)))) := (by show _ ∧ _; unfold wRe wIm; rw [hk]; exact ⟨rfl, rfl⟩)
    go_enter Try.func8, Try.ntmps8
    go_wp2_with fail
    refine (swok _ _ _).mono ?_
    rintro e w1 ⟨rfl, hb1⟩
    rw [hk]
    obtain ⟨XP, XR, B1⟩ := two_boxes hb1
    have P1 : Hid (Bx w1 w.heap.size (.int .i64 d) (.float .f64 s)) := XP
    have R1 : Hid (Bx w1 (w.heap.size + 1) (.float .f64 0) (.float .f64 0)) := XR
    have BB : Hid (Below w.heap.size w w1) := B1
    obtain ⟨p0, p1, p2, p3, p4⟩ := XP
    clear hb1 XR B1
    go_wp2_with fail
    refine (sturn _ _).mono ?_
    rintro e w2 ⟨a, b, rfl, ha, hb, hb2⟩
    have HA : Hid (cn a = sine ((d + 9) % 36) ∧ cn b = sine (d % 36)) := ⟨ha, hb⟩
    have B2 : Hid (Below w.heap.size w w2) := BB.out.trans (hb2.mono BB.out.size)
    obtain ⟨q0, q1, q2, q3, q4⟩ := P1.out.on hb2
    obtain ⟨u0, u1, u2, u3, u4⟩ := R1.out.on hb2
    have RR : Hid (∀ n, Bx ((w2.alloc (.cells #[.float .f64 a, .float .f64 b] 24)).drewN n) (w.heap.size + 1) (.float .f64 0) (.float .f64 0)) := fun n => ((R1.out.on hb2).alloc _).drewN n
    have n1 : w.heap.size ≠ w2.heap.size := by omega
    have n2 : w.heap.size + 1 ≠ w2.heap.size := by omega
    clear ha hb hb2 p0 p1 p2 p3 p4
    go_wp2
    generalize hx : opB .sub 0 (opB .mul s b _) _ = x
    generalize hy : opB .sub 0 (opB .mul s a _) _ = y
    have v0 := fun n => (RR.out n).1
    have v1 := fun n => (RR.out n).2.1
    refine bodyPost_ret (v := pr x y) (by simp [results, Try.results8, go_sem, v0, v1]) rfl ⟨x, y, rfl, by rw [← hx, cn_op, cn_op, HA.out.2]; exact E.out.1.symm, by rw [← hy, cn_op, cn_op, HA.out.1]; exact E.out.2.symm, ?_⟩
    exact ((below_drewN (B2.out.alloc B2.out.size _) _).setCell (by show w.heap.size ≤ w.heap.size + 1; omega) _).setCell (by show w.heap.size ≤ w.heap.size + 1; omega) _

set_option maxHeartbeats 1000000 in
theorem toWind_any (d : Int) (s : Nat) (w : World) : Calls Try.prog 9 #[wd d s] w fun e w' => e = .returned (wd d s) ∧ Below w.heap.size w w' := by
  go_enter Try.func9, Try.ntmps9
  go_wp2
  refine bodyPost_ret (v := wd d s) (by simp [results, Try.results9, go_sem]) rfl ⟨rfl, ?_⟩
  exact (((Below.refl _ _).alloc (Nat.le_refl _) _).alloc (by simp) _).alloc (by simp; omega) _

set_option maxHeartbeats 1000000 in
theorem windLaw (d : Int) (s : Nat) (w : World) (hs : s < 18446744073709551616) : Calls Try.prog 4 #[wd d s] w fun e w' => e = .returned (.bool true) ∧ Below w.heap.size w w' := by
  have HS : Hid (s < 18446744073709551616) := hs
  clear hs
  go_enter Try.func4, Try.ntmps4
  go_wp2_with fail
  refine (toWind_any _ _ _).mono ?_
  rintro e w1 ⟨rfl, hb1⟩
  have X1 : Hid (Bx w1 w.heap.size (.int .i64 d) (.float .f64 s)) := (Bx.new w (.int .i64 d) (.float .f64 s) 29).on hb1
  have B1 : Hid (Below w.heap.size w w1) := ((Below.refl _ _).alloc (Nat.le_refl _) _).trans (hb1.mono (by simp))
  clear hb1
  go_wp2_with fail
  refine (swind _ _ _).mono ?_
  rintro e w2 ⟨a, b, rfl, ha, hb, hb2⟩
  have HA : Hid (cn a = wRe d s ∧ cn b = wIm d s) := ⟨ha, hb⟩
  have X2 : Hid (Bx w2 w.heap.size (.int .i64 d) (.float .f64 s)) := X1.out.on hb2
  have B2 : Hid (Below w.heap.size w w2) := B1.out.trans (hb2.mono B1.out.size)
  have n2 : w.heap.size ≠ w2.heap.size := (by have := X2.out.2.2.2.2; omega)
  obtain ⟨x0, x1, x2, x3, x4⟩ := X2.out
  clear ha hb hb2 X1
  go_wp2_with fail
  refine (toWind_any _ _ _).mono ?_
  rintro e w3 ⟨rfl, hb3⟩
  have X3 : Hid (Bx w3 w2.heap.size (.float .f64 a) (.float .f64 b)) := (Bx.new w2 (.float .f64 a) (.float .f64 b) 24).on hb3
  have B3 : Hid (Below w.heap.size w w3) := (B2.out.alloc B2.out.size _).trans (hb3.mono (B2.out.alloc B2.out.size _).size)
  clear hb3 x0 x1 x2 x3 x4 X2
  go_wp2_with fail
  refine (iwind _ _ _ HS.out).mono ?_
  rintro e w4 ⟨c, f, rfl, hc, hf, hb4⟩
  have HC : Hid (cn c = wRe d s ∧ cn f = wIm d s) := ⟨hc, hf⟩
  have X4 : Hid (Bx w4 w2.heap.size (.float .f64 a) (.float .f64 b)) := X3.out.on hb4
  have B4 : Hid (Below w.heap.size w w4) := B3.out.trans (hb4.mono B3.out.size)
  have n4 : w2.heap.size ≠ w4.heap.size := (by have := X4.out.2.2.2.2; omega)
  obtain ⟨x0, x1, x2, x3, x4⟩ := X4.out
  clear hc hf hb4 X3
  go_wp2_with fail
  refine (eqPair_any _ _ _ _ _ (HC.out.1.trans HA.out.1.symm) (HC.out.2.trans HA.out.2.symm)).mono ?_
  rintro e w5 ⟨rfl, hb5⟩
  have B5 : Hid (Below w.heap.size w w5) := (B4.out.alloc B4.out.size _).trans (hb5.mono (B4.out.alloc B4.out.size _).size)
  clear hb5
  go_wp2_with fail
  go_ret
  exact ⟨rfl, B5.out⟩
end Go.Proofs.Ytmnpjfikilmknaa.Flt
