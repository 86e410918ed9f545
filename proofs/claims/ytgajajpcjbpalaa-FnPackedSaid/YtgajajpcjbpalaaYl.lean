/- Pack of the program. -/
import Derived.Test.YtgajajpcjbpalaaYk
namespace Go.Proofs.Ytgajajpcjbpalaa.Pkd
open Go.ChangeShapes Go.WideShapes Go.ChangeAt Go.RowKit
open Go.Proofs.Ytgajajpcjbpalaa.Lists Go.Proofs.Ytgajajpcjbpalaa.Flt Go.Proofs.Ytgajajpcjbpalaa.Fls


set_option maxHeartbeats 1000000 in
theorem ipack_yes (v : Value) (L : List Nat) (b dec : Int) (w : World) (hR : Fls.Reads w v L) (ho : okA L.length b dec = true) (hk : allk dec L = true) (hf : (ws dec L).all fit = true) :
    Calls Try.prog 7 #[v, .int .i64 b, .int .i64 dec] w (Post L b dec w) := by
  obtain ⟨xa, xc, ev⟩ := hR.form
  subst ev
  obtain ⟨w1, hw1⟩ : ∃ w1, w1 = w.alloc (.cells #[.int .i64 0, .int .i64 0, .int .i64 0, .int .i64 0, .int .i64 0, .slice none 0 0, .slice none 0 0] 26) := ⟨_, rfl⟩
  have HW : Hid (w1 = w.alloc (.cells #[.int .i64 0, .int .i64 0, .int .i64 0, .int .i64 0, .int .i64 0, .slice none 0 0, .slice none 0 0] 26)) := hw1
  have B1 : Hid (Below w.heap.size w w1) := (by show Below _ _ _; rw [hw1]; exact (Below.refl _ _).alloc (Nat.le_refl _) _)
  have Z1 : Hid (Box7 w1 w.heap.size (.int .i64 0) (.int .i64 0) (.int .i64 0) (.int .i64 0) (.int .i64 0) (.slice none 0 0) (.slice none 0 0)) := (by show Box7 _ _ _ _ _ _ _ _ _; rw [hw1]; exact zbox w)
  have F1 : Hid (∀ j, w1.frozen? ⟨w.heap.size, j, none⟩ = false) := fun j => (by rw [hw1]; simp [go_sem])
  have S1 : Hid (w1.heap.size = w.heap.size + 1) := (by show _ = _; rw [hw1]; simp)
  have ho2 := ho
  unfold okA at ho2
  simp only [Bool.and_eq_true, decide_eq_true_eq] at ho2
  obtain ⟨hl, ⟨b1, b2⟩, d1, d2⟩ := ho2
  have CW := wholes_any (.slice xa L.length xc) L dec w1 (hR.on B1.out) hl d1 d2
  have C1 : Hid (∀ w, Calls Try.prog 20 #[.int .i64 b, .int .i64 1, .int .i64 24] w fun e w' => e = .returned (.bool true) ∧ w' = w) := fun w => (by have := win_any b 1 24 w; simpa [b1, b2] using this)
  have C2 : Hid (∀ w, Calls Try.prog 20 #[.int .i64 dec, .int .i64 (-3), .int .i64 6] w fun e w' => e = .returned (.bool true) ∧ w' = w) := fun w => (by have := win_any dec (-3) 6 w; simpa [d1, d2] using this)
  have HO : Hid (okA L.length b dec = true) := ho
  obtain ⟨n, hn⟩ : ∃ n, n = L.length := ⟨_, rfl⟩
  have HN : Hid (n = L.length) := hn
  rw [← hn] at hl CW ⊢
  have l1 : ((n : Int) ≤ 4096) := by omega
  have l2 : decide (4096 < (n : Int)) = false := decide_eq_false (by omega)
  obtain ⟨wn, hwn⟩ : ∃ wn, wn = (ws dec L).length := ⟨_, rfl⟩
  have HC : Hid (Calls Try.prog 21 #[.slice xa n xc, .int .i64 dec] w1 fun e w' => ∃ lv tv, e = .returned (.tuple #[lv, tv, .bool true]) ∧ Lists.Reads w' lv (ws dec L) ∧ w'.ownsRow w1.heap.size 2 1 lv wn (ints (ws dec L)) ∧ w'.ownsRow w1.heap.size 5 1 tv n (Bytes.bys (ths L)) ∧ Below w1.heap.size w1 w') := CW.mono (fun e w' ⟨h1, h2⟩ => by
    rcases h2 with ⟨h2, _⟩ | ⟨_, lv, tv, h3, h4, h5⟩
    · rw [hk] at h2; cases h2
    · exact ⟨lv, tv, h3, Lists.reads_row h4, by rw [hwn]; exact h4, h5, h1⟩)
  have WL : Hid ((ws dec L).length ≤ 4096) := (by show _ ≤ _; rw [ws_len]; have := rl_le L; omega)
  have WN : Hid (wn = (rl L).length) := hwn.trans (ws_len dec L)
  have WLN : Hid (wn ≤ 4096) := (by show _ ≤ _; rw [hwn]; exact WL.out)
  have HWN : Hid (wn = (ws dec L).length) := hwn
  have HF : Hid ((ws dec L).all fit = true) := hf
  have HAF : Hid (allf dec L = true) := (by show _ = _; unfold allf; rw [hk, hf]; rfl)
  clear hw1 hR hn CW ho hf hwn
  go_enter Try.func7, Try.ntmps7
  go_upto_region 1 with fail
  rw [← HW.out]
  go_wp2_with fail
  refine (C1.out _).mono ?_
  rintro e w' ⟨rfl, hw⟩; subst w'
  go_wp2_with fail
  refine (C2.out _).mono ?_
  rintro e w' ⟨rfl, hw⟩; subst w'
  go_wp2_with fail
  refine HC.out.mono ?_
  rintro e w4 ⟨lv, tv, rfl, rd, olv, otv, bl⟩
  obtain ⟨la, lc, ev⟩ : ∃ la lc, lv = .slice la wn lc := row_form2 olv
  subst ev
  have CF : Hid (Calls Try.prog 22 #[.iface 52 (.agg #[.int .i64 b]), .slice la wn lc] w4 fun x w' => ∃ r e cd cv, IsPk (ws dec L) b r e cd ∧ x = .returned (.tuple #[pkv ⟨0, 0, r, e, b, [], cd⟩ (.slice none 0 0) cv, .bool true]) ∧ w'.ownsRow w4.heap.size 2 1 cv cd.length (ints cd) ∧ Below w4.heap.size w4 w') := forth_yes w4 b _ (ws dec L) rd WL.out b1 b2 HF.out
  have s1 := S1.out
  have s4 := bl.size
  have ZH : Hid (Box7 w4 w.heap.size (.int .i64 0) (.int .i64 0) (.int .i64 0) (.int .i64 0) (.int .i64 0) (.slice none 0 0) (.slice none 0 0)) := Z1.out.on bl (by omega)
  have BH : Hid (Below w.heap.size w w4) := B1.out.trans (bl.mono (by omega))
  have FH : Hid (∀ j, w4.frozen? ⟨w.heap.size, j, none⟩ = false) := fun j => (bl.frozen (p := ⟨w.heap.size, j, none⟩) (by show w.heap.size < _; omega)).trans (F1.out j)
  have SH : Hid (w.heap.size + 1 ≤ w4.heap.size) := (by show _ ≤ _; omega)
  have OT : Hid (w4.ownsRow w1.heap.size 5 1 tv n (Bytes.bys (ths L))) := otv
  obtain ⟨ta, tc, ev⟩ : ∃ ta tc, tv = .slice ta n tc := row_form otv
  subst ev
  have WL2 := WLN.out
  clear bl HC rd s1 s4 otv olv
  go_wp2_with fail
  refine CF.out.mono ?_
  rintro x w6 ⟨r, e, cd, cv, hpk, rfl, o6, bl6⟩
  obtain ⟨va, vc, ev⟩ := row_form2 o6
  subst ev
  have s4 := SH.out
  obtain ⟨w5, hw5⟩ : ∃ w5, w5 = w6.alloc (.cells #[.int .i64 0, .int .i64 0, .int .i64 r, .int .i64 (e : Int), .int .i64 b, .slice none 0 0, .slice va cd.length vc] 26) := ⟨_, rfl⟩
  have HW5 : Hid (w5 = w6.alloc (.cells #[.int .i64 0, .int .i64 0, .int .i64 r, .int .i64 (e : Int), .int .i64 b, .slice none 0 0, .slice va cd.length vc] 26)) := hw5
  have B65 : Hid (Below w6.heap.size w6 w5) := (by show Below _ _ _; rw [hw5]; exact (Below.refl _ _).alloc (Nat.le_refl _) _)
  have B45 : Hid (Below w4.heap.size w4 w5) := bl6.trans (B65.out.mono bl6.size)
  have S46 : Hid (w4.heap.size ≤ w6.heap.size) := bl6.size
  have O6 : Hid (w6.ownsRow w4.heap.size 2 1 (.slice va cd.length vc) cd.length (ints cd)) := o6
  have HPK : Hid (IsPk (ws dec L) b r e cd) := hpk
  have s6 := S46.out
  have kb : Box7 w5 w6.heap.size (.int .i64 0) (.int .i64 0) (.int .i64 r) (.int .i64 (e : Int)) (.int .i64 b) (.slice none 0 0) (.slice va cd.length vc) := (by rw [hw5]; unfold Box7; simp [go_sem])
  have kf : ∀ j, w5.frozen? ⟨w6.heap.size, j, none⟩ = false := fun j => (by rw [hw5]; simp [go_sem])
  obtain ⟨k0, k1, k2, k3, k4, k5, k6⟩ := kb
  have s5 : w5.heap.size = w6.heap.size + 1 := (by rw [hw5]; simp)
  clear bl6 hw5 CF hpk o6
  unfold pkv
  go_upto_region 7 with fail
  rw [← HW5.out]
  by_cases hc : wn < n
  · have hc2 : decide ((wn : Int) < (n : Int)) = true := decide_eq_true (by omega)
    have hc3 : (wn : Int) < (n : Int) := by omega
    have HR2 : Hid (Res L b dec ⟨n, dec, r, (e : Nat), b, ths L, cd⟩ 0) := .inr (.inr ⟨HO.out, HAF.out, rfl, r, e, cd, HPK.out, by rw [if_pos (by have := WN.out; have := HN.out; omega), HN.out]⟩)

    obtain ⟨w7, hw7⟩ : ∃ w7, w7 = ((w5.setCell ⟨w6.heap.size, 0, none⟩ (.int .i64 (n : Int))).setCell ⟨w6.heap.size, 1, none⟩ (.int .i64 dec)).setCell ⟨w6.heap.size, 5, none⟩ (.slice ta n tc) := ⟨_, rfl⟩
    have HW7 : Hid (w7 = ((w5.setCell ⟨w6.heap.size, 0, none⟩ (.int .i64 (n : Int))).setCell ⟨w6.heap.size, 1, none⟩ (.int .i64 dec)).setCell ⟨w6.heap.size, 5, none⟩ (.slice ta n tc)) := hw7
    have BX : Box7 w7 w6.heap.size (.int .i64 (n : Int)) (.int .i64 dec) (.int .i64 r) (.int .i64 (e : Int)) (.int .i64 b) (.slice ta n tc) (.slice va cd.length vc) := (by rw [hw7]; unfold Box7; simp [go_sem, k0, k1, k2, k3, k4, k5, k6])
    have b57 : Below w6.heap.size w5 w7 := (by rw [hw7]; exact (((Below.refl _ _).setCell (p := ⟨w6.heap.size, 0, none⟩) (Nat.le_refl _) _).setCell (p := ⟨w6.heap.size, 1, none⟩) (Nat.le_refl _) _).setCell (p := ⟨w6.heap.size, 5, none⟩) (Nat.le_refl _) _)
    have b47 : Below w4.heap.size w4 w7 := B45.out.trans (b57.mono S46.out)
    have Z2 := ZH.out.on b47 (by omega)
    have BB : Below w.heap.size w w7 := BH.out.trans (b47.mono (by omega))
    have F2 : ∀ j, w7.frozen? ⟨w.heap.size, j, none⟩ = false := fun j => (b47.frozen (p := ⟨w.heap.size, j, none⟩) (by show w.heap.size < _; omega)).trans (FH.out j)
    have o7 : w7.ownsRow w4.heap.size 2 1 (.slice va cd.length vc) cd.length (ints cd) := row_later (B := w6.heap.size) O6.out ((B65.out).trans b57) (Nat.le_refl _)
    have FX : Hid (Box7 (((((((w7.setCell ⟨w.heap.size, 0, none⟩ (.int .i64 (n : Int))).setCell ⟨w.heap.size, 1, none⟩ (.int .i64 dec)).setCell ⟨w.heap.size, 2, none⟩ (.int .i64 r)).setCell ⟨w.heap.size, 3, none⟩ (.int .i64 (e : Int))).setCell ⟨w.heap.size, 4, none⟩ (.int .i64 b)).setCell ⟨w.heap.size, 5, none⟩ (.slice ta n tc)).setCell ⟨w.heap.size, 6, none⟩ (.slice va cd.length vc)) w.heap.size (.int .i64 (n : Int)) (.int .i64 dec) (.int .i64 r) (.int .i64 (e : Int)) (.int .i64 b) (.slice ta n tc) (.slice va cd.length vc)) := put7_box _ _ _ _ _ _ _ Z2
    have FO : Hid ((((((((w7.setCell ⟨w.heap.size, 0, none⟩ (.int .i64 (n : Int))).setCell ⟨w.heap.size, 1, none⟩ (.int .i64 dec)).setCell ⟨w.heap.size, 2, none⟩ (.int .i64 r)).setCell ⟨w.heap.size, 3, none⟩ (.int .i64 (e : Int))).setCell ⟨w.heap.size, 4, none⟩ (.int .i64 b)).setCell ⟨w.heap.size, 5, none⟩ (.slice ta n tc)).setCell ⟨w.heap.size, 6, none⟩ (.slice va cd.length vc)).ownsRow w.heap.size 2 1 (.slice va cd.length vc) cd.length (ints cd)) := down_row (put7_row _ _ _ _ _ _ _ o7 (by omega)) (by omega)
    have FL : Hid (Below w.heap.size w (((((((w7.setCell ⟨w.heap.size, 0, none⟩ (.int .i64 (n : Int))).setCell ⟨w.heap.size, 1, none⟩ (.int .i64 dec)).setCell ⟨w.heap.size, 2, none⟩ (.int .i64 r)).setCell ⟨w.heap.size, 3, none⟩ (.int .i64 (e : Int))).setCell ⟨w.heap.size, 4, none⟩ (.int .i64 b)).setCell ⟨w.heap.size, 5, none⟩ (.slice ta n tc)).setCell ⟨w.heap.size, 6, none⟩ (.slice va cd.length vc))) := put7_below _ _ _ _ _ _ _ BB (Nat.le_refl _)
    have t7 : w7.ownsRow w1.heap.size 5 1 (.slice ta n tc) n (Bytes.bys (ths L)) := row_later (B := w4.heap.size) OT.out b47 (Nat.le_refl _)
    have FT : Hid ((((((((w7.setCell ⟨w.heap.size, 0, none⟩ (.int .i64 (n : Int))).setCell ⟨w.heap.size, 1, none⟩ (.int .i64 dec)).setCell ⟨w.heap.size, 2, none⟩ (.int .i64 r)).setCell ⟨w.heap.size, 3, none⟩ (.int .i64 (e : Int))).setCell ⟨w.heap.size, 4, none⟩ (.int .i64 b)).setCell ⟨w.heap.size, 5, none⟩ (.slice ta n tc)).setCell ⟨w.heap.size, 6, none⟩ (.slice va cd.length vc)).ownsRow w.heap.size 5 1 (.slice ta n tc) n (Bytes.bys (ths L))) := down_row (put7_row _ _ _ _ _ _ _ t7 (by have := S1.out; omega)) (by have := S1.out; omega)
    clear t7
    obtain ⟨y0, y1, y2, y3, y4, y5, y6⟩ := Z2
    obtain ⟨x0, x1, x2, x3, x4, x5, x6⟩ := BX
    clear BB hw7 b57 b47 o7
    go_upto_region 12 with fail
    rw [← HW7.out]
    clear k0 k1 k2 k3 k4 k5 k6 kf
    go_wp2_with fail
    generalize World.setCell _ _ _ = wz at FX FO FL FT ⊢
    obtain ⟨z0, z1, z2, z3, z4, z5, z6⟩ := FX.out
    refine bodyPost_ret (v := .tuple #[pkv ⟨n, dec, r, e, b, ths L, cd⟩ (.slice ta n tc) (.slice va cd.length vc), .int .i64 0]) (by simp [results, Try.results7, go_sem, pkv, z0, z1, z2, z3, z4, z5, z6]) rfl ⟨_, _, _, _, HR2.out, rfl, by show World.ownsRow _ _ _ _ _ (ths L).length _; rw [ths_len, ← HN.out]; exact FT.out, FO.out, FL.out⟩
  · have hc2 : decide ((wn : Int) < (n : Int)) = false := decide_eq_false (by omega)
    have hc3 : (n : Int) ≤ (wn : Int) := by omega
    have HR2 : Hid (Res L b dec ⟨n, dec, r, (e : Nat), b, [], cd⟩ 0) := .inr (.inr ⟨HO.out, HAF.out, rfl, r, e, cd, HPK.out, by rw [if_neg (by have := WN.out; have := HN.out; omega), HN.out]⟩)

    obtain ⟨w7, hw7⟩ : ∃ w7, w7 = (w5.setCell ⟨w6.heap.size, 0, none⟩ (.int .i64 (n : Int))).setCell ⟨w6.heap.size, 1, none⟩ (.int .i64 dec) := ⟨_, rfl⟩
    have HW7 : Hid (w7 = (w5.setCell ⟨w6.heap.size, 0, none⟩ (.int .i64 (n : Int))).setCell ⟨w6.heap.size, 1, none⟩ (.int .i64 dec)) := hw7
    have BX : Box7 w7 w6.heap.size (.int .i64 (n : Int)) (.int .i64 dec) (.int .i64 r) (.int .i64 (e : Int)) (.int .i64 b) (.slice none 0 0) (.slice va cd.length vc) := (by rw [hw7]; unfold Box7; simp [go_sem, k0, k1, k2, k3, k4, k5, k6])
    have b57 : Below w6.heap.size w5 w7 := (by rw [hw7]; exact ((Below.refl _ _).setCell (p := ⟨w6.heap.size, 0, none⟩) (Nat.le_refl _) _).setCell (p := ⟨w6.heap.size, 1, none⟩) (Nat.le_refl _) _)
    have b47 : Below w4.heap.size w4 w7 := B45.out.trans (b57.mono S46.out)
    have Z2 := ZH.out.on b47 (by omega)
    have BB : Below w.heap.size w w7 := BH.out.trans (b47.mono (by omega))
    have F2 : ∀ j, w7.frozen? ⟨w.heap.size, j, none⟩ = false := fun j => (b47.frozen (p := ⟨w.heap.size, j, none⟩) (by show w.heap.size < _; omega)).trans (FH.out j)
    have o7 : w7.ownsRow w4.heap.size 2 1 (.slice va cd.length vc) cd.length (ints cd) := row_later (B := w6.heap.size) O6.out ((B65.out).trans b57) (Nat.le_refl _)
    have FX : Hid (Box7 (((((((w7.setCell ⟨w.heap.size, 0, none⟩ (.int .i64 (n : Int))).setCell ⟨w.heap.size, 1, none⟩ (.int .i64 dec)).setCell ⟨w.heap.size, 2, none⟩ (.int .i64 r)).setCell ⟨w.heap.size, 3, none⟩ (.int .i64 (e : Int))).setCell ⟨w.heap.size, 4, none⟩ (.int .i64 b)).setCell ⟨w.heap.size, 5, none⟩ (.slice none 0 0)).setCell ⟨w.heap.size, 6, none⟩ (.slice va cd.length vc)) w.heap.size (.int .i64 (n : Int)) (.int .i64 dec) (.int .i64 r) (.int .i64 (e : Int)) (.int .i64 b) (.slice none 0 0) (.slice va cd.length vc)) := put7_box _ _ _ _ _ _ _ Z2
    have FO : Hid ((((((((w7.setCell ⟨w.heap.size, 0, none⟩ (.int .i64 (n : Int))).setCell ⟨w.heap.size, 1, none⟩ (.int .i64 dec)).setCell ⟨w.heap.size, 2, none⟩ (.int .i64 r)).setCell ⟨w.heap.size, 3, none⟩ (.int .i64 (e : Int))).setCell ⟨w.heap.size, 4, none⟩ (.int .i64 b)).setCell ⟨w.heap.size, 5, none⟩ (.slice none 0 0)).setCell ⟨w.heap.size, 6, none⟩ (.slice va cd.length vc)).ownsRow w.heap.size 2 1 (.slice va cd.length vc) cd.length (ints cd)) := down_row (put7_row _ _ _ _ _ _ _ o7 (by omega)) (by omega)
    have FL : Hid (Below w.heap.size w (((((((w7.setCell ⟨w.heap.size, 0, none⟩ (.int .i64 (n : Int))).setCell ⟨w.heap.size, 1, none⟩ (.int .i64 dec)).setCell ⟨w.heap.size, 2, none⟩ (.int .i64 r)).setCell ⟨w.heap.size, 3, none⟩ (.int .i64 (e : Int))).setCell ⟨w.heap.size, 4, none⟩ (.int .i64 b)).setCell ⟨w.heap.size, 5, none⟩ (.slice none 0 0)).setCell ⟨w.heap.size, 6, none⟩ (.slice va cd.length vc))) := put7_below _ _ _ _ _ _ _ BB (Nat.le_refl _)
    skip
    obtain ⟨y0, y1, y2, y3, y4, y5, y6⟩ := Z2
    obtain ⟨x0, x1, x2, x3, x4, x5, x6⟩ := BX
    clear BB hw7 b57 b47 o7
    go_upto_region 12 with fail
    rw [← HW7.out]
    clear k0 k1 k2 k3 k4 k5 k6 kf
    go_wp2_with fail
    generalize World.setCell _ _ _ = wz at FX FO FL  ⊢
    obtain ⟨z0, z1, z2, z3, z4, z5, z6⟩ := FX.out
    refine bodyPost_ret (v := .tuple #[pkv ⟨n, dec, r, e, b, [], cd⟩ (.slice none 0 0) (.slice va cd.length vc), .int .i64 0]) (by simp [results, Try.results7, go_sem, pkv, z0, z1, z2, z3, z4, z5, z6]) rfl ⟨_, _, _, _, HR2.out, rfl, nil_row _ _ _, FO.out, FL.out⟩

theorem ipack_any (v : Value) (L : List Nat) (b dec : Int) (w : World) (hR : Fls.Reads w v L) :
    Calls Try.prog 7 #[v, .int .i64 b, .int .i64 dec] w (Post L b dec w) := by
  cases ho : okA L.length b dec
  · exact ipack_args v L b dec w hR ho
  · cases hk : allk dec L
    · exact ipack_far v L b dec w hR ho hk
    · cases hf : (ws dec L).all fit
      · exact ipack_big v L b dec w hR ho hk hf
      · exact ipack_yes v L b dec w hR ho hk hf

end Go.Proofs.Ytgajajpcjbpalaa.Pkd
