/- Pack of the program: what it refuses for its values. -/
import Derived.Test.YtgajajpcjbpalaaYj
namespace Go.Proofs.Ytgajajpcjbpalaa.Pkd
open Go.ChangeShapes Go.WideShapes Go.ChangeAt Go.RowKit
open Go.Proofs.Ytgajajpcjbpalaa.Lists Go.Proofs.Ytgajajpcjbpalaa.Flt Go.Proofs.Ytgajajpcjbpalaa.Fls


set_option maxHeartbeats 1000000 in
theorem ipack_far (v : Value) (L : List Nat) (b dec : Int) (w : World) (hR : Fls.Reads w v L) (ho : okA L.length b dec = true) (hk : allk dec L = false) :
    Calls Try.prog 7 #[v, .int .i64 b, .int .i64 dec] w (Post L b dec w) := by
  obtain ⟨xa, xc, ev⟩ := hR.form
  subst ev
  obtain ⟨w1, hw1⟩ : ∃ w1, w1 = w.alloc (.cells #[.int .i64 0, .int .i64 0, .int .i64 0, .int .i64 0, .int .i64 0, .slice none 0 0, .slice none 0 0] 26) := ⟨_, rfl⟩
  have HW : Hid (w1 = w.alloc (.cells #[.int .i64 0, .int .i64 0, .int .i64 0, .int .i64 0, .int .i64 0, .slice none 0 0, .slice none 0 0] 26)) := hw1
  have B1 : Hid (Below w.heap.size w w1) := (by show Below _ _ _; rw [hw1]; exact (Below.refl _ _).alloc (Nat.le_refl _) _)
  have Z1 : Hid (Box7 w1 w.heap.size (.int .i64 0) (.int .i64 0) (.int .i64 0) (.int .i64 0) (.int .i64 0) (.slice none 0 0) (.slice none 0 0)) := (by show Box7 _ _ _ _ _ _ _ _ _; rw [hw1]; exact zbox w)
  have F1 : Hid (∀ j, w1.frozen? ⟨w.heap.size, j, none⟩ = false) := fun j => (by rw [hw1]; simp [go_sem])
  have S1 : Hid (w1.heap.size = w.heap.size + 1) := (by show _ = _; rw [hw1]; simp)
  have ho2 := ho
  unfold okA at ho2
  simp only [Bool.and_eq_true, decide_eq_true_eq] at ho2
  obtain ⟨hl, ⟨b1, b2⟩, d1, d2⟩ := ho2
  have CW := wholes_any (.slice xa L.length xc) L dec w1 (hR.on B1.out) hl d1 d2
  have C1 : Hid (∀ w, Calls Try.prog 20 #[.int .i64 b, .int .i64 1, .int .i64 24] w fun e w' => e = .returned (.bool true) ∧ w' = w) := fun w => (by have := win_any b 1 24 w; simpa [b1, b2] using this)
  have C2 : Hid (∀ w, Calls Try.prog 20 #[.int .i64 dec, .int .i64 (-3), .int .i64 6] w fun e w' => e = .returned (.bool true) ∧ w' = w) := fun w => (by have := win_any dec (-3) 6 w; simpa [d1, d2] using this)
  have HO : Hid (okA L.length b dec = true) := ho
  obtain ⟨n, hn⟩ : ∃ n, n = L.length := ⟨_, rfl⟩
  have HN : Hid (n = L.length) := hn
  rw [← hn] at hl CW ⊢
  have l1 : ((n : Int) ≤ 4096) := by omega
  have l2 : decide (4096 < (n : Int)) = false := decide_eq_false (by omega)
  have HP : Hid (∀ wz, Below w.heap.size w wz → Post L b dec w (.returned (.tuple #[pkv zpk (.slice none 0 0) (.slice none 0 0), .int .i64 2])) wz) := fun wz h => post_no (.inr (.inl ⟨HO.out, by unfold allf; rw [hk]; rfl, rfl, rfl⟩)) h
  have HC : Hid (Calls Try.prog 21 #[.slice xa n xc, .int .i64 dec] w1 fun e w' => e = .returned (.tuple #[.slice none 0 0, .slice none 0 0, .bool false]) ∧ Below w1.heap.size w1 w') := CW.mono (fun e w' ⟨h1, h2⟩ => by
    rcases h2 with ⟨_, h2⟩ | ⟨h2, _⟩
    · exact ⟨h2, h1⟩
    · rw [hk] at h2; cases h2)
  clear hw1 hR hn CW 
  go_enter Try.func7, Try.ntmps7
  go_upto_region 1 with fail
  rw [← HW.out]
  go_wp2_with fail
  refine (C1.out _).mono ?_
  rintro e w' ⟨rfl, hw⟩; subst w'
  go_wp2_with fail
  refine (C2.out _).mono ?_
  rintro e w' ⟨rfl, hw⟩; subst w'
  go_wp2_with fail
  refine HC.out.mono ?_
  rintro e w4 ⟨rfl, bl⟩
  have s1 := S1.out
  have Z2 := Z1.out.on bl (by omega)
  have BB : Below w.heap.size w w4 := B1.out.trans (bl.mono (by omega))
  have F2 : ∀ j, w4.frozen? ⟨w.heap.size, j, none⟩ = false := fun j => (bl.frozen (p := ⟨w.heap.size, j, none⟩) (by show w.heap.size < _; omega)).trans (F1.out j)
  have FX : Hid (Box7 (((((((w4.setCell ⟨w.heap.size, 0, none⟩ (.int .i64 0)).setCell ⟨w.heap.size, 1, none⟩ (.int .i64 0)).setCell ⟨w.heap.size, 2, none⟩ (.int .i64 0)).setCell ⟨w.heap.size, 3, none⟩ (.int .i64 0)).setCell ⟨w.heap.size, 4, none⟩ (.int .i64 0)).setCell ⟨w.heap.size, 5, none⟩ (.slice none 0 0)).setCell ⟨w.heap.size, 6, none⟩ (.slice none 0 0)) w.heap.size (.int .i64 0) (.int .i64 0) (.int .i64 0) (.int .i64 0) (.int .i64 0) (.slice none 0 0) (.slice none 0 0)) := put7_box _ _ _ _ _ _ _ Z2
  have FL : Hid (Below w.heap.size w (((((((w4.setCell ⟨w.heap.size, 0, none⟩ (.int .i64 0)).setCell ⟨w.heap.size, 1, none⟩ (.int .i64 0)).setCell ⟨w.heap.size, 2, none⟩ (.int .i64 0)).setCell ⟨w.heap.size, 3, none⟩ (.int .i64 0)).setCell ⟨w.heap.size, 4, none⟩ (.int .i64 0)).setCell ⟨w.heap.size, 5, none⟩ (.slice none 0 0)).setCell ⟨w.heap.size, 6, none⟩ (.slice none 0 0))) := put7_below _ _ _ _ _ _ _ BB (Nat.le_refl _)
  obtain ⟨y0, y1, y2, y3, y4, y5, y6⟩ := Z2
  clear BB bl HC
  go_wp2_with fail
  generalize World.setCell _ _ _ = wz at FX FL ⊢
  obtain ⟨z0, z1, z2, z3, z4, z5, z6⟩ := FX.out
  exact bodyPost_ret (v := .tuple #[pkv zpk (.slice none 0 0) (.slice none 0 0), .int .i64 2]) (by simp [results, Try.results7, go_sem, pkv, zpk, z0, z1, z2, z3, z4, z5, z6]) rfl (HP.out _ FL.out)

theorem fb_all (dec : Int) (L : List Nat) : allf dec L = (rl L).all (fb dec) := by
  unfold allf allk ws
  induction rl L with
  | nil => rfl
  | cons x T ih =>
    simp only [List.all_cons, List.map_cons]
    rw [← ih]
    unfold fb fit
    cases kb dec x <;> simp
    cases T.all (kb dec) <;> simp

set_option maxHeartbeats 1000000 in
theorem ipack_big (v : Value) (L : List Nat) (b dec : Int) (w : World) (hR : Fls.Reads w v L) (ho : okA L.length b dec = true) (hk : allk dec L = true) (hf : (ws dec L).all fit = false) :
    Calls Try.prog 7 #[v, .int .i64 b, .int .i64 dec] w (Post L b dec w) := by
  obtain ⟨xa, xc, ev⟩ := hR.form
  subst ev
  obtain ⟨w1, hw1⟩ : ∃ w1, w1 = w.alloc (.cells #[.int .i64 0, .int .i64 0, .int .i64 0, .int .i64 0, .int .i64 0, .slice none 0 0, .slice none 0 0] 26) := ⟨_, rfl⟩
  have HW : Hid (w1 = w.alloc (.cells #[.int .i64 0, .int .i64 0, .int .i64 0, .int .i64 0, .int .i64 0, .slice none 0 0, .slice none 0 0] 26)) := hw1
  have B1 : Hid (Below w.heap.size w w1) := (by show Below _ _ _; rw [hw1]; exact (Below.refl _ _).alloc (Nat.le_refl _) _)
  have Z1 : Hid (Box7 w1 w.heap.size (.int .i64 0) (.int .i64 0) (.int .i64 0) (.int .i64 0) (.int .i64 0) (.slice none 0 0) (.slice none 0 0)) := (by show Box7 _ _ _ _ _ _ _ _ _; rw [hw1]; exact zbox w)
  have F1 : Hid (∀ j, w1.frozen? ⟨w.heap.size, j, none⟩ = false) := fun j => (by rw [hw1]; simp [go_sem])
  have S1 : Hid (w1.heap.size = w.heap.size + 1) := (by show _ = _; rw [hw1]; simp)
  have ho2 := ho
  unfold okA at ho2
  simp only [Bool.and_eq_true, decide_eq_true_eq] at ho2
  obtain ⟨hl, ⟨b1, b2⟩, d1, d2⟩ := ho2
  have CW := wholes_any (.slice xa L.length xc) L dec w1 (hR.on B1.out) hl d1 d2
  have C1 : Hid (∀ w, Calls Try.prog 20 #[.int .i64 b, .int .i64 1, .int .i64 24] w fun e w' => e = .returned (.bool true) ∧ w' = w) := fun w => (by have := win_any b 1 24 w; simpa [b1, b2] using this)
  have C2 : Hid (∀ w, Calls Try.prog 20 #[.int .i64 dec, .int .i64 (-3), .int .i64 6] w fun e w' => e = .returned (.bool true) ∧ w' = w) := fun w => (by have := win_any dec (-3) 6 w; simpa [d1, d2] using this)
  have HO : Hid (okA L.length b dec = true) := ho
  obtain ⟨n, hn⟩ : ∃ n, n = L.length := ⟨_, rfl⟩
  have HN : Hid (n = L.length) := hn
  rw [← hn] at hl CW ⊢
  have l1 : ((n : Int) ≤ 4096) := by omega
  have l2 : decide (4096 < (n : Int)) = false := decide_eq_false (by omega)
  have HP : Hid (∀ wz, Below w.heap.size w wz → Post L b dec w (.returned (.tuple #[pkv zpk (.slice none 0 0) (.slice none 0 0), .int .i64 2])) wz) := fun wz h => post_no (.inr (.inl ⟨HO.out, by unfold allf; rw [hf, Bool.and_false], rfl, rfl⟩)) h
  have HC : Hid (Calls Try.prog 21 #[.slice xa n xc, .int .i64 dec] w1 fun e w' => ∃ lv tv, e = .returned (.tuple #[lv, tv, .bool true]) ∧ Lists.Reads w' lv (ws dec L) ∧ Below w1.heap.size w1 w') := CW.mono (fun e w' ⟨h1, h2⟩ => by
    rcases h2 with ⟨h2, _⟩ | ⟨_, lv, tv, h3, h4, h5⟩
    · rw [hk] at h2; cases h2
    · exact ⟨lv, tv, h3, Lists.reads_row h4, h1⟩)
  have WL : Hid ((ws dec L).length ≤ 4096) := (by show _ ≤ _; rw [ws_len]; have := rl_le L; omega)
  have HF : Hid ((ws dec L).all fit = false) := hf
  clear hw1 hR hn CW ho hf
  go_enter Try.func7, Try.ntmps7
  go_upto_region 1 with fail
  rw [← HW.out]
  go_wp2_with fail
  refine (C1.out _).mono ?_
  rintro e w' ⟨rfl, hw⟩; subst w'
  go_wp2_with fail
  refine (C2.out _).mono ?_
  rintro e w' ⟨rfl, hw⟩; subst w'
  go_wp2_with fail
  refine HC.out.mono ?_
  rintro e w4 ⟨lv, tv, rfl, rd, bl⟩
  have CF : Hid (Calls Try.prog 22 #[.iface 52 (.agg #[.int .i64 b]), lv] w4 fun x w' => x = .returned (.tuple #[pkv ⟨0, 0, 0, 0, 0, [], []⟩ (.slice none 0 0) (.slice none 0 0), .bool false]) ∧ Below w4.heap.size w4 w') := forth_no w4 b lv (ws dec L) rd WL.out HF.out
  have s1 := S1.out
  have s4 := bl.size
  have Z2 := Z1.out.on bl (by omega)
  have BB : Below w.heap.size w w4 := B1.out.trans (bl.mono (by omega))
  have F2 : ∀ j, w4.frozen? ⟨w.heap.size, j, none⟩ = false := fun j => (bl.frozen (p := ⟨w.heap.size, j, none⟩) (by show w.heap.size < _; omega)).trans (F1.out j)
  have ZH : Hid (Box7 w4 w.heap.size (.int .i64 0) (.int .i64 0) (.int .i64 0) (.int .i64 0) (.int .i64 0) (.slice none 0 0) (.slice none 0 0)) := Z2
  have BH : Hid (Below w.heap.size w w4) := BB
  have FH : Hid (∀ j, w4.frozen? ⟨w.heap.size, j, none⟩ = false) := F2
  have SH : Hid (w.heap.size + 1 ≤ w4.heap.size) := (by show _ ≤ _; omega)
  clear BB bl HC rd Z2 F2 s1 s4
  go_wp2_with fail
  refine CF.out.mono ?_
  rintro e w6 ⟨rfl, bl6⟩
  have s4 := SH.out
  obtain ⟨w5, hw5⟩ : ∃ w5, w5 = w6.alloc (.cells #[.int .i64 0, .int .i64 0, .int .i64 0, .int .i64 0, .int .i64 0, .slice none 0 0, .slice none 0 0] 26) := ⟨_, rfl⟩
  have HW5 : Hid (w5 = w6.alloc (.cells #[.int .i64 0, .int .i64 0, .int .i64 0, .int .i64 0, .int .i64 0, .slice none 0 0, .slice none 0 0] 26)) := hw5
  have b65 : Below w4.heap.size w4 w5 := (by rw [hw5]; exact bl6.alloc bl6.size _)
  have Z2 := ZH.out.on b65 (by omega)
  have BB : Below w.heap.size w w5 := BH.out.trans (b65.mono (by omega))
  have F2 : ∀ j, w5.frozen? ⟨w.heap.size, j, none⟩ = false := fun j => (b65.frozen (p := ⟨w.heap.size, j, none⟩) (by show w.heap.size < _; omega)).trans (FH.out j)
  have FX : Hid (Box7 (((((((w5.setCell ⟨w.heap.size, 0, none⟩ (.int .i64 0)).setCell ⟨w.heap.size, 1, none⟩ (.int .i64 0)).setCell ⟨w.heap.size, 2, none⟩ (.int .i64 0)).setCell ⟨w.heap.size, 3, none⟩ (.int .i64 0)).setCell ⟨w.heap.size, 4, none⟩ (.int .i64 0)).setCell ⟨w.heap.size, 5, none⟩ (.slice none 0 0)).setCell ⟨w.heap.size, 6, none⟩ (.slice none 0 0)) w.heap.size (.int .i64 0) (.int .i64 0) (.int .i64 0) (.int .i64 0) (.int .i64 0) (.slice none 0 0) (.slice none 0 0)) := put7_box _ _ _ _ _ _ _ Z2
  have FL : Hid (Below w.heap.size w (((((((w5.setCell ⟨w.heap.size, 0, none⟩ (.int .i64 0)).setCell ⟨w.heap.size, 1, none⟩ (.int .i64 0)).setCell ⟨w.heap.size, 2, none⟩ (.int .i64 0)).setCell ⟨w.heap.size, 3, none⟩ (.int .i64 0)).setCell ⟨w.heap.size, 4, none⟩ (.int .i64 0)).setCell ⟨w.heap.size, 5, none⟩ (.slice none 0 0)).setCell ⟨w.heap.size, 6, none⟩ (.slice none 0 0))) := put7_below _ _ _ _ _ _ _ BB (Nat.le_refl _)
  obtain ⟨y0, y1, y2, y3, y4, y5, y6⟩ := Z2
  clear BB bl6 hw5 b65 s4 CF
  unfold pkv
  go_upto_region 7 with fail
  rw [← HW5.out]
  go_wp2_with fail
  generalize World.setCell _ _ _ = wz at FX FL ⊢
  obtain ⟨z0, z1, z2, z3, z4, z5, z6⟩ := FX.out
  exact bodyPost_ret (v := .tuple #[pkv zpk (.slice none 0 0) (.slice none 0 0), .int .i64 2]) (by simp [results, Try.results7, go_sem, pkv, zpk, z0, z1, z2, z3, z4, z5, z6]) rfl (HP.out _ FL.out)

end Go.Proofs.Ytgajajpcjbpalaa.Pkd
