/- Pairs added and multiplied, the program. -/
import Derived.Test.YtleejjdedceajaaWa
import Derived.Test.YtleejjdedceajaaSm
import Derived.Laws.ComplexArith
import Derived.Deep.RegionWith
import Derived.Deep.RegionHeld3
import Derived.Deep.DrawnRows
import Derived.Deep.Cut
import Derived.Deep.DeepCutAuto
import Derived.Deep.DeepMust
namespace Go.Proofs.Ytleejjdedceajaa.Flt
open Go.ChangeShapes Go.WideShapes Go.ChangeAt Go.RowKit
open Go.Proofs.Ytleejjdedceajaa.Wa
attribute [local go_sem] run_store_float
attribute [local go_sem ↓] Go.wp_at_zero Go.wp_at_succ

theorem keep8 {W w' : World} {k : Nat} {a b c d : Value} (hb : Below W.heap.size W w') (hk : k + 1 + 1 < W.heap.size) (h0 : W.cell? ⟨k, 0, none⟩ = some a) (h1 : W.cell? ⟨k, 1, none⟩ = some b) (h2 : W.cell? ⟨k + 1, 0, none⟩ = some c) (h3 : W.cell? ⟨k + 1, 1, none⟩ = some d)
    (h4 : W.cell? ⟨k + 1 + 1, 0, none⟩ = some (.float .f64 0)) (h5 : W.cell? ⟨k + 1 + 1, 1, none⟩ = some (.float .f64 0)) (h6 : W.frozen? ⟨k + 1 + 1, 0, none⟩ = false) (h7 : W.frozen? ⟨k + 1 + 1, 1, none⟩ = false) :
    w'.cell? ⟨k, 0, none⟩ = some a ∧ w'.cell? ⟨k, 1, none⟩ = some b ∧ w'.cell? ⟨k + 1, 0, none⟩ = some c ∧ w'.cell? ⟨k + 1, 1, none⟩ = some d ∧ w'.cell? ⟨k + 1 + 1, 0, none⟩ = some (.float .f64 0) ∧ w'.cell? ⟨k + 1 + 1, 1, none⟩ = some (.float .f64 0) ∧ w'.frozen? ⟨k + 1 + 1, 0, none⟩ = false ∧ w'.frozen? ⟨k + 1 + 1, 1, none⟩ = false ∧ k + 1 + 1 < w'.heap.size := by
  have i1 : k < W.heap.size := by omega
  have i2 : k + 1 < W.heap.size := by omega
  exact ⟨(hb.cell (p := ⟨k, 0, none⟩) i1).trans h0, (hb.cell (p := ⟨k, 1, none⟩) i1).trans h1, (hb.cell (p := ⟨k + 1, 0, none⟩) i2).trans h2, (hb.cell (p := ⟨k + 1, 1, none⟩) i2).trans h3, (hb.cell (p := ⟨k + 1 + 1, 0, none⟩) hk).trans h4, (hb.cell (p := ⟨k + 1 + 1, 1, none⟩) hk).trans h5, (hb.frozen (p := ⟨k + 1 + 1, 0, none⟩) hk).trans h6, (hb.frozen (p := ⟨k + 1 + 1, 1, none⟩) hk).trans h7, Nat.lt_of_lt_of_le hk hb.size⟩



set_option maxHeartbeats 2000000 in
theorem iadd_any (a b c d : Nat) (x y : Nat) (h : cSumBits .add .f64 a b c d = some (x, y)) (w : World) : Calls Try.prog 10 #[pr a b, pr c d] w fun e w' => e = .returned (pr x y) ∧ Below w.heap.size w w' := by
  have hn1 : w.heap.size ≠ w.heap.size + 1 + 1 := by omega
  have hn2 : w.heap.size + 1 + 1 ≠ w.heap.size := by omega
  have HS : ∀ w, (binOp .add 38 (.complex .f64 a b) (.complex .f64 c d)).run Try.prog w = .ok (.complex .f64 x y) w := fun w => run_complex_sum w .add (.inl rfl) 38 .f64 a b c d x y h
  go_enter Try.func10, Try.ntmps10
  go_upto_region 1 with fail
  go_cut [5, 6, 7, 8, 9, 10] (fun _ _ _ _ _ _ wx => wx.cell? ⟨w.heap.size + 1 + 1, 0, none⟩ = some (.float .f64 x) ∧ wx.cell? ⟨w.heap.size + 1 + 1, 1, none⟩ = some (.float .f64 y) ∧ Below w.heap.size w wx)
  case first =>
    go_region_held3 (fun w' => w'.cell? ⟨w.heap.size, 0, none⟩ = some (.float .f64 a) ∧ w'.cell? ⟨w.heap.size, 1, none⟩ = some (.float .f64 b) ∧ w'.cell? ⟨w.heap.size + 1, 0, none⟩ = some (.float .f64 c) ∧ w'.cell? ⟨w.heap.size + 1, 1, none⟩ = some (.float .f64 d))
      (go_keep)
      (first
      | (go_at_call_of 20 (Value.agg #[Value.float FloatKind.f64 a, Value.float FloatKind.f64 b]); refine (icx _ _ _).mono ?_; rintro e w1 ⟨rfl, hb1⟩; obtain ⟨p0, p1, p2, p3, p4, p5, p6, p7, p8⟩ := keep8 (k := w.heap.size) (a := .float .f64 a) (b := .float .f64 b) (c := .float .f64 c) (d := .float .f64 d) hb1 (by first | omega | (simp; done) | (simp; omega)) (by go_simp) (by go_simp) (by go_simp) (by go_simp) (by go_simp) (by go_simp) (by go_simp) (by go_simp))
      | (go_at_call_of 20 (Value.agg #[Value.float FloatKind.f64 c, Value.float FloatKind.f64 d]); refine (icx _ _ _).mono ?_; rintro e w2 ⟨rfl, hb2⟩; obtain ⟨q0, q1, q2, q3, q4, q5, q6, q7, q8⟩ := keep8 (k := w.heap.size) (a := .float .f64 a) (b := .float .f64 b) (c := .float .f64 c) (d := .float .f64 d) hb2 (by first | omega | (simp; done) | (simp; omega)) (by go_simp) (by go_simp) (by go_simp) (by go_simp) (by go_simp) (by go_simp) (by go_simp) (by go_simp))
      | (go_at_call 16; refine (pairOf_any _ _ _).mono ?_; rintro e w4 ⟨rfl, hb4⟩; obtain ⟨s0, s1, s2, s3, s4, s5, s6, s7, s8⟩ := keep8 (k := w.heap.size) (a := .float .f64 a) (b := .float .f64 b) (c := .float .f64 c) (d := .float .f64 d) hb4 (by first | omega | (simp; done) | (simp; omega)) (by go_simp) (by go_simp) (by go_simp) (by go_simp) (by go_simp) (by go_simp) (by go_simp) (by go_simp)))
    go_wp2_with fail
    go_meet
    have B1 : Below w.heap.size w w1 := (((((Below.refl _ _).alloc (Nat.le_refl _) _).alloc (by simp) _).alloc (by simp; omega) _).drew).trans (hb1.mono (by simp; omega))
    have B2 : Below w.heap.size w w2 := B1.trans (hb2.mono B1.size)
    have B4 : Below w.heap.size w w4 := B2.trans (hb4.mono B2.size)
    exact ⟨by simp [go_sem, s4], by simp [go_sem, s5], (B4.setCell (by show w.heap.size ≤ w.heap.size + 1 + 1; omega) _).setCell (by show w.heap.size ≤ w.heap.size + 1 + 1; omega) _⟩
  case rest =>
    obtain ⟨c0, c1, hb⟩ := hcut
    have HX : Hid (Below w.heap.size w wc) := hb
    clear hb
    go_wp2_with fail
    refine bodyPost_ret (v := pr x y) (by simp [results, Try.results10, go_sem, c0, c1]) rfl ⟨rfl, HX.out⟩


set_option maxHeartbeats 2000000 in
theorem imul_any (a b c d : Nat) (x y : Nat) (C : ∀ w : World, Calls Try.prog 21 #[.complex .f64 a b, .complex .f64 c d] w fun e w' => e = .returned (.complex .f64 x y) ∧ Below w.heap.size w w') (w : World) : Calls Try.prog 11 #[pr a b, pr c d] w fun e w' => e = .returned (pr x y) ∧ Below w.heap.size w w' := by
  have hn1 : w.heap.size ≠ w.heap.size + 1 + 1 := by omega
  have hn2 : w.heap.size + 1 + 1 ≠ w.heap.size := by omega
  have HC : Hid (∀ w : World, Calls Try.prog 21 #[.complex .f64 a b, .complex .f64 c d] w fun e w' => e = .returned (.complex .f64 x y) ∧ Below w.heap.size w w') := C
  clear C
  go_enter Try.func11, Try.ntmps11
  go_upto_region 1 with fail
  go_cut [5, 6, 7, 8, 9, 10] (fun _ _ _ _ _ _ wx => wx.cell? ⟨w.heap.size + 1 + 1, 0, none⟩ = some (.float .f64 x) ∧ wx.cell? ⟨w.heap.size + 1 + 1, 1, none⟩ = some (.float .f64 y) ∧ Below w.heap.size w wx)
  case first =>
    go_region_held3 (fun w' => w'.cell? ⟨w.heap.size, 0, none⟩ = some (.float .f64 a) ∧ w'.cell? ⟨w.heap.size, 1, none⟩ = some (.float .f64 b) ∧ w'.cell? ⟨w.heap.size + 1, 0, none⟩ = some (.float .f64 c) ∧ w'.cell? ⟨w.heap.size + 1, 1, none⟩ = some (.float .f64 d))
      (go_keep)
      (first
      | (go_at_call_of 20 (Value.agg #[Value.float FloatKind.f64 a, Value.float FloatKind.f64 b]); refine (icx _ _ _).mono ?_; rintro e w1 ⟨rfl, hb1⟩; obtain ⟨p0, p1, p2, p3, p4, p5, p6, p7, p8⟩ := keep8 (k := w.heap.size) (a := .float .f64 a) (b := .float .f64 b) (c := .float .f64 c) (d := .float .f64 d) hb1 (by first | omega | (simp; done) | (simp; omega)) (by go_simp) (by go_simp) (by go_simp) (by go_simp) (by go_simp) (by go_simp) (by go_simp) (by go_simp))
      | (go_at_call_of 20 (Value.agg #[Value.float FloatKind.f64 c, Value.float FloatKind.f64 d]); refine (icx _ _ _).mono ?_; rintro e w2 ⟨rfl, hb2⟩; obtain ⟨q0, q1, q2, q3, q4, q5, q6, q7, q8⟩ := keep8 (k := w.heap.size) (a := .float .f64 a) (b := .float .f64 b) (c := .float .f64 c) (d := .float .f64 d) hb2 (by first | omega | (simp; done) | (simp; omega)) (by go_simp) (by go_simp) (by go_simp) (by go_simp) (by go_simp) (by go_simp) (by go_simp) (by go_simp))
      | (go_at_call 21; refine (HC.out _).mono ?_; rintro e w3 ⟨rfl, hb3⟩; obtain ⟨r0, r1, r2, r3, r4, r5, r6, r7, r8⟩ := keep8 (k := w.heap.size) (a := .float .f64 a) (b := .float .f64 b) (c := .float .f64 c) (d := .float .f64 d) hb3 (by first | omega | (simp; done) | (simp; omega)) (by go_simp) (by go_simp) (by go_simp) (by go_simp) (by go_simp) (by go_simp) (by go_simp) (by go_simp))
      | (go_at_call 16; refine (pairOf_any _ _ _).mono ?_; rintro e w4 ⟨rfl, hb4⟩; obtain ⟨s0, s1, s2, s3, s4, s5, s6, s7, s8⟩ := keep8 (k := w.heap.size) (a := .float .f64 a) (b := .float .f64 b) (c := .float .f64 c) (d := .float .f64 d) hb4 (by first | omega | (simp; done) | (simp; omega)) (by go_simp) (by go_simp) (by go_simp) (by go_simp) (by go_simp) (by go_simp) (by go_simp) (by go_simp)))
    go_wp2_with fail
    go_meet
    have B1 : Below w.heap.size w w1 := (((((Below.refl _ _).alloc (Nat.le_refl _) _).alloc (by simp) _).alloc (by simp; omega) _).drew).trans (hb1.mono (by simp; omega))
    have B2 : Below w.heap.size w w2 := B1.trans (hb2.mono B1.size)
    have B3 : Below w.heap.size w w3 := B2.trans (hb3.mono B2.size)
    have B4 : Below w.heap.size w w4 := B3.trans (hb4.mono B3.size)
    exact ⟨by simp [go_sem, s4], by simp [go_sem, s5], (B4.setCell (by show w.heap.size ≤ w.heap.size + 1 + 1; omega) _).setCell (by show w.heap.size ≤ w.heap.size + 1 + 1; omega) _⟩
  case rest =>
    obtain ⟨c0, c1, hb⟩ := hcut
    have HX : Hid (Below w.heap.size w wc) := hb
    clear hb
    go_wp2_with fail
    refine bodyPost_ret (v := pr x y) (by simp [results, Try.results11, go_sem, c0, c1]) rfl ⟨rfl, HX.out⟩

end Go.Proofs.Ytleejjdedceajaa.Flt
