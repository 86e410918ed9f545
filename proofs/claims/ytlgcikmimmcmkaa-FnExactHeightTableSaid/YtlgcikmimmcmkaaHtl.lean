/- The law of HeightTable walked. -/
import Derived.Test.YtlgcikmimmcmkaaHtn
import Derived.Test.YtlgcikmimmcmkaaFlM
import Derived.Test.YtlgcikmimmcmkaaCoArg
namespace Go.Proofs.Ytlgcikmimmcmkaa.Ht
open Go.ChangeShapes Go.WideShapes Go.ChangeAt Go.RowKit
open Go.Proofs.Ytlgcikmimmcmkaa.Flt Go.Proofs.Ytlgcikmimmcmkaa.Wa Go.Proofs.Ytlgcikmimmcmkaa.An Go.Proofs.Ytlgcikmimmcmkaa.Co Go.Proofs.Ytlgcikmimmcmkaa.Ho Go.Proofs.Ytlgcikmimmcmkaa.Km Go.Proofs.Ytlgcikmimmcmkaa.Ca

attribute [local go_sem] Flt.run_store_float
theorem below_drewN' {B : Nat} {a w : World} (h : Below B a w) (n : Nat) : Below B a (w.drewN n) := h.trans ⟨rfl, rfl, rfl, Nat.le_refl _, fun _ _ => rfl⟩
theorem Up.off {w w' : World} {base m k : Nat} {v : Value} {F : Nat → Nat} {row : Option Nat} (h : Up w base v m F k) (hg : w.grownBy w' row) (hne : ∀ k j, v.ownBlock = some k → row = some j → k ≠ j) : Up w' base v m F k := by
  obtain ⟨E, hl, hr, hc⟩ := h
  refine ⟨E, hl, hr.kept hg ?_, hc⟩
  cases e : v.ownBlock with
  | none => exact Or.inl rfl
  | some k => exact Or.inr fun x => hne k k e x.symm rfl
theorem Up.lt {w : World} {base m k : Nat} {v : Value} {F : Nat → Nat} (h : Up w base v m F k) (g : Nat) (hg : v.ownBlock = some g) : base ≤ g ∧ g < w.heap.size := by
  obtain ⟨E, hl, hr, _⟩ := h
  exact hr.lt g hg
theorem Up.eq {w : World} {b1 b2 m : Nat} {v1 v2 : Value} {F : Nat → Nat} (h1 : Up w b1 v1 m F m) (h2 : Up w b2 v2 m F m) : Calls Try.prog 8 #[v1, v2] w fun e w' => e = .returned (.bool true) ∧ ∃ n, w' = w.drewN n := by
  obtain ⟨E, l1, r1, c1⟩ := h1
  obtain ⟨G, l2, r2, c2⟩ := h2
  refine Fls.eq_cn w v1 v2 E G ?_ (Fls.reads_row (by rw [l1]; exact r1)) (Fls.reads_row (by rw [l2]; exact r2))
  apply List.ext_getElem
  · simp [l1, l2]
  · intro i x1 x2
    simp at x1 x2
    have a := c1 i (by omega)
    have b := c2 i (by omega)
    simp [List.getD_eq_getElem?_getD, x1] at a
    simp [List.getD_eq_getElem?_getD, x2] at b
    simp [a, b]
set_option maxRecDepth 20000 in
set_option maxHeartbeats 4000000 in
theorem tableAll (w : World) (v : Value) (L : Co.Ls) (hL : Co.Reads w v L) (_ : Co.Fit L) (f n : Int) :
    Calls Try.prog 3 #[v, .int .i64 f, .int .i64 n] w fun e w' => e = .returned (.bool true) ∧ Below w.heap.size w w' := by
  have HF := hL.fits
  have xl := tn_le L f n
  have SA : Hid (∀ w' v', Co.Reads w' v' L → Calls Try.prog 5 #[v', .int .i64 f, .int .i64 n] w' fun e w'' => ∃ u, e = .returned u ∧ Up w'' w'.heap.size u (tn L f n) (fun i => hs L (f + (i : Int)) L.length) (tn L f n) ∧ Below w'.heap.size w' w'') := fun w' v' h => sht_any L f n v' w' h
  have IA : Hid (∀ w' v', Co.Reads w' v' L → Calls Try.prog 7 #[v', .int .i64 f, .int .i64 n] w' fun e w'' => ∃ u, e = .returned u ∧ Up w'' w'.heap.size u (tn L f n) (fun i => hs L (f + (i : Int)) L.length) (tn L f n) ∧ Below w'.heap.size w' w'') := fun w' v' h => iht_any L f n v' w' h
  generalize tn L f n = m at *
  generalize (fun i : Nat => hs L (f + (i : Int)) L.length) = F at *
  obtain ⟨a, cap, rfl⟩ := hL.form
  have H0 : Hid (Co.Reads w (.slice a L.length cap) L) := hL
  clear hL
  by_cases hl : 1048576 < L.length
  · go_enter Try.func3, Try.ntmps3
    go_wp2_with fail
    refine (Co.sz_far _ _ _ _ _ (by omega) (by omega) (by omega) HF).mono ?_
    rintro e w1 ⟨rfl, hw1⟩
    subst hw1
    go_wp2_with fail
    go_ret
    exact ⟨rfl, Below.refl _ _⟩
  have hl' : L.length ≤ 1048576 := by omega
  have TT : Hid (∀ w', Below w.heap.size w w' → Calls Try.prog 6 #[.slice a L.length cap] w' fun e w'' => ∃ v', e = .returned v' ∧ Co.Row w'' w'.heap.size v' L ∧ Below w'.heap.size w' w'') := fun w' hb => Co.to_own w' _ L (H0.out.on hb) hl'
  have i1 : ¬ (1048576 : Int) - (L.length : Int) < 0 := by omega
  have i2 : ¬ 1 + (L.length : Int) * 3 < 0 := by omega
  have hqq : ((1 : Int) + (m : Int) != 1 + (m : Int)) = false := by simp
  have hq0 : ¬ (1 : Int) + (m : Int) < 0 := by omega
  have HL : Hid (L.length ≤ 1048576) := hl'
  go_enter Try.func3, Try.ntmps3
  go_wp2_with fail
  refine (Co.sz_near _ _ _ _ _ (by omega) (by omega)).mono ?_
  rintro e w0 ⟨rfl, hw⟩
  have hw' := hw.symm
  subst hw'
  go_wp2_with fail
  refine (TT.out w (Below.refl _ _)).mono ?_
  rintro e w1 ⟨v1, rfl, r1, b1⟩
  have R1 : Hid (Co.Reads w1 v1 L) := r1.reads
  have B1 : Hid (Below w.heap.size w w1) := b1
  clear r1 b1
  obtain ⟨a1, c1, e1⟩ := R1.out.form
  subst e1
  go_wp2_with fail
  refine (SA.out w1 _ R1.out).mono ?_
  rintro e w2 ⟨us, rfl, r2, b2⟩
  have S2 : Hid (Up w2 w1.heap.size us m F m) := r2
  have LS : Hid (∀ k, us.ownBlock = some k → k < w2.heap.size) := fun k hk => (r2.lt k hk).2
  have B2 : Hid (Below w.heap.size w w2) := B1.out.trans (b2.mono B1.out.size)
  clear r2 b2 R1
  go_wp2_with fail
  refine (TT.out w2 B2.out).mono ?_
  rintro e w3 ⟨vx, rfl, r3, b3⟩
  have X3 : Hid (Co.Row w3 w2.heap.size vx L) := r3
  have LX : Hid (∀ k, vx.ownBlock = some k → w2.heap.size ≤ k ∧ k < w3.heap.size) := fun k hk => r3.lt k hk
  have S3 : Hid (Up w3 w1.heap.size us m F m) := S2.out.on b3
  have B3 : Hid (Below w.heap.size w w3) := B2.out.trans (b3.mono B2.out.size)
  have Z3 : Hid (w2.heap.size ≤ w3.heap.size) := b3.size
  obtain ⟨a3, c3, e3⟩ := r3.form
  subst e3
  clear r3 b3 S2
  go_wp2_with fail
  refine (IA.out w3 _ X3.out.reads).mono ?_
  rintro e w4 ⟨ug, rfl, r4, b4⟩
  have G4 : Hid (Up w4 w3.heap.size ug m F m) := r4
  have LG : Hid (∀ k, ug.ownBlock = some k → w3.heap.size ≤ k) := fun k hk => (r4.lt k hk).1
  have X4 : Hid (Co.Row w4 w2.heap.size (.slice a3 L.length c3) L) := X3.out.on b4
  have S4 : Hid (Up w4 w1.heap.size us m F m) := S3.out.on b4
  have B4 : Hid (Below w.heap.size w w4) := B3.out.trans (b4.mono B3.out.size)
  clear r4 b4 X3 S3
  go_wp2_with fail
  refine (Up.eq G4.out S4.out).mono ?_
  rintro e w5 ⟨rfl, m5, hw⟩
  have G5 : Hid (Up w5 w3.heap.size ug m F m) := (by rw [hw]; exact G4.out.on (below_drewN' (Below.refl _ _) m5))
  have S5 : Hid (Up w5 w1.heap.size us m F m) := (by rw [hw]; exact S4.out.on (below_drewN' (Below.refl _ _) m5))
  have X5 : Hid (Co.Row w5 w2.heap.size (.slice a3 L.length c3) L) := (by rw [hw]; exact X4.out.on (below_drewN' (Below.refl _ _) m5))
  have B5 : Hid (Below w.heap.size w w5) := (by rw [hw]; exact below_drewN' B4.out m5)
  clear hw G4 S4 X4
  go_wp2_with fail
  refine (TT.out w5 B5.out).mono ?_
  rintro e w6 ⟨vy, rfl, r6, b6⟩
  have Y6 : Hid (Co.Reads w6 vy L) := r6.reads
  have G6 : Hid (Up w6 w3.heap.size ug m F m) := G5.out.on b6
  have S6 : Hid (Up w6 w1.heap.size us m F m) := S5.out.on b6
  have X6 : Hid (Co.Row w6 w2.heap.size (.slice a3 L.length c3) L) := X5.out.on b6
  have B6 : Hid (Below w.heap.size w w6) := B5.out.trans (b6.mono B5.out.size)
  obtain ⟨a6, c6, e6⟩ := r6.form
  subst e6
  clear r6 b6 G5 S5 X5
  go_wp2_with fail
  refine (Co.eq_same w6 _ _ L X6.out.reads Y6.out).mono ?_
  rintro e w7 ⟨rfl, b7⟩
  have G7 : Hid (Up w7 w3.heap.size ug m F m) := G6.out.on b7
  have S7 : Hid (Up w7 w1.heap.size us m F m) := S6.out.on b7
  have X7 : Hid (Co.Row w7 w2.heap.size (.slice a3 L.length c3) L) := X6.out.on b7
  have B7 : Hid (Below w.heap.size w w7) := B6.out.trans (b7.mono B6.out.size)
  clear b7 G6 S6 X6 Y6
  obtain ⟨xs, ox, _⟩ := X7.out
  have OX : Hid (w7.ownsRow w2.heap.size 41 3 (.slice a3 L.length c3) L.length xs) := ox
  clear ox X7
  go_wp2_with fail
  refine (Co.mark_any w7 _ L.length _ xs HL.out OX.out).mono ?_
  rintro e w8 ⟨rfl, _, g8⟩
  have G8 : Hid (Up w8 w3.heap.size ug m F m) := G7.out.off g8 (fun k j hk hj => by have := LG.out k hk; have := LX.out j hj; omega)
  have S8 : Hid (Up w8 w1.heap.size us m F m) := S7.out.off g8 (fun k j hk hj => by have := LS.out k hk; have := LX.out j hj; omega)
  have B8 : Hid (Below w.heap.size w w8) := B7.out.grown g8 B7.out.size (fun k hk => by have := LX.out k hk; have := B2.out.size; omega)
  clear g8 G7 S7 OX
  go_wp2_with fail
  refine (Up.eq G8.out S8.out).mono ?_
  rintro e w9 ⟨rfl, m9, hw⟩
  have G9 : Hid (Up w9 w3.heap.size ug m F m) := (by rw [hw]; exact G8.out.on (below_drewN' (Below.refl _ _) m9))
  have S9 : Hid (Up w9 w1.heap.size us m F m) := (by rw [hw]; exact S8.out.on (below_drewN' (Below.refl _ _) m9))
  have B9 : Hid (Below w.heap.size w w9) := (by rw [hw]; exact below_drewN' B8.out m9)
  clear hw G8 S8
  obtain ⟨E, hE, oE, _⟩ := G9.out
  have ME : Hid (Calls Try.prog 11 #[ug, .int .i64 1] w9 fun e w' => e = .returned (.int .i64 (1 + (m : Int))) ∧ w'.ownsRow w3.heap.size 36 1 ug m (Fls.flts (Fls.sq 1 m)) ∧ w9.grownBy w' ug.ownBlock) := (by
    have := Fls.mark_any w9 w3.heap.size ug E 1 (by omega) (by omega) (by omega) (by rw [hE]; exact oE)
    rw [hE] at this
    exact this)
  clear oE
  go_wp2_with fail
  refine ME.out.mono ?_
  rintro e w10 ⟨rfl, r10, g10⟩
  have Q10 : Hid (Fls.Reads w10 ug (Fls.sq 1 m)) := Fls.reads_row (by rw [Fls.sq_len]; exact r10)
  have S10 : Hid (Up w10 w1.heap.size us m F m) := S9.out.off g10 (fun k j hk hj => by have := LS.out k hk; have := LG.out j hj; have := Z3.out; omega)
  have B10 : Hid (Below w.heap.size w w10) := B9.out.grown g10 B9.out.size (fun k hk => by have := LG.out k hk; have := B3.out.size; omega)
  clear r10 g10 G9 S9 ME
  have K10 : Hid (Calls Try.prog 12 #[ug, .int .i64 1] w10 fun e w' => e = .returned (.int .i64 (1 + (m : Int))) ∧ w' = w10) := Fls.held_any w10 ug m xl Q10.out
  go_wp2_with fail
  refine K10.out.mono ?_
  rintro e w11 ⟨rfl, hw⟩
  have hw' := hw.symm
  subst hw'
  clear K10
  go_wp2_with fail
  refine (TT.out w10 B10.out).mono ?_
  rintro e w12 ⟨vq, rfl, r12, b12⟩
  have R12 : Hid (Co.Reads w12 vq L) := r12.reads
  have Q12 : Hid (Fls.Reads w12 ug (Fls.sq 1 m)) := Q10.out.on b12
  have S12 : Hid (Up w12 w1.heap.size us m F m) := S10.out.on b12
  have B12 : Hid (Below w.heap.size w w12) := B10.out.trans (b12.mono B10.out.size)
  obtain ⟨a12, c12, e12⟩ := r12.form
  subst e12
  clear r12 b12 Q10 S10
  go_wp2_with fail
  refine (IA.out w12 _ R12.out).mono ?_
  rintro e w13 ⟨uh, rfl, r13, b13⟩
  have H13 : Hid (Up w13 w12.heap.size uh m F m) := r13
  have Q13 : Hid (Fls.Reads w13 ug (Fls.sq 1 m)) := Q12.out.on b13
  have S13 : Hid (Up w13 w1.heap.size us m F m) := S12.out.on b13
  have B13 : Hid (Below w.heap.size w w13) := B12.out.trans (b13.mono B12.out.size)
  clear r13 b13 Q12 S12 R12
  go_wp2_with fail
  refine (Up.eq H13.out S13.out).mono ?_
  rintro e w14 ⟨rfl, m14, hw⟩
  have Q14 : Hid (Fls.Reads w14 ug (Fls.sq 1 m)) := (by rw [hw]; exact Q13.out.on (below_drewN' (Below.refl _ _) m14))
  have B14 : Hid (Below w.heap.size w w14) := (by rw [hw]; exact below_drewN' B13.out m14)
  clear hw Q13 S13 H13
  have K14 : Hid (Calls Try.prog 12 #[ug, .int .i64 1] w14 fun e w' => e = .returned (.int .i64 (1 + (m : Int))) ∧ w' = w14) := Fls.held_any w14 ug m xl Q14.out
  go_wp2_with fail
  refine K14.out.mono ?_
  rintro e w15 ⟨rfl, hw⟩
  have hw' := hw.symm
  subst hw'
  clear K14
  go_wp2_with fail
  go_ret
  exact ⟨rfl, B14.out⟩
end Go.Proofs.Ytlgcikmimmcmkaa.Ht
