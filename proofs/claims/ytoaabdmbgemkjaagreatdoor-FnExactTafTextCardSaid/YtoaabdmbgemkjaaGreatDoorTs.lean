/- Forecasts that are right, in the model. -/
import Derived.Test.YtoaabdmbgemkjaaGreatDoorTr
namespace Go.Proofs.YtoaabdmbgemkjaaGreatDoor.To
open Go.ChangeShapes Go.WideShapes Go.ChangeAt Go.RowKit
open Go.Proofs.YtoaabdmbgemkjaaGreatDoor.Al

/-- what the model keeps -/
def En (L : Ch.Ls) : Nat → Int
  | 0 => 0
  | j + 1 => if lst (Ch.c0 L j) = true then max (Ch.c1 L j) (Ch.c2 L j) else En L j
theorem cok_low {f t k x y d p v : Int} {W C : ByteArray} {b : Int} (h : cok f t k x y d p v W C b = true) : f ≤ x := by
  unfold cok in1 in2 at h
  simp only [Bool.and_eq_true] at h
  obtain ⟨_, _, h⟩ := h
  split at h
  · simp only [Bool.and_eq_true] at h
    exact ((inn_iff _ _ _).1 h.2.1).1
  · simp only [Bool.and_eq_true, decide_eq_true_eq] at h
    exact h.2.2.2.1
theorem cok_max {f t k x y d p v : Int} {W C : ByteArray} {b : Int} (hf : 0 ≤ f) (h : cok f t k x y d p v W C b = true) (hl : lst k = true) : max x y = stl k x y := by
  have hx := cok_low h
  unfold cok in1 in2 at h
  simp only [Bool.and_eq_true] at h
  obtain ⟨_, _, h⟩ := h
  unfold stl
  cases hk : (k == 1)
  · rw [hk] at h
    simp only [Bool.false_eq_true, if_false, Bool.and_eq_true, decide_eq_true_eq] at h
    have h2 : (k == 2) = true := by unfold lst at hl; rw [hk] at hl; simpa using hl
    rw [h2]
    simp only [Bool.false_eq_true, if_false, if_true]
    omega
  · rw [hk] at h
    simp only [if_true, Bool.and_eq_true] at h
    have hy : y = 0 := eq_of_beq h.1
    simp only [if_true]
    omega
theorem mx (x y : Int) : (if x < y then y else x) = max x y := by split <;> omega
/-- the two ends agree -/
theorem En_St {f t : Int} {L : Ch.Ls} (hf : 0 ≤ f) : ∀ k, (∀ j, j < k → okk f t L j = true) → En L k = St f L k ∨ (En L k = 0 ∧ St f L k = f)
  | 0, _ => Or.inr ⟨rfl, rfl⟩
  | k + 1, h => by
    have ih := En_St hf k (fun j hj => h j (by omega))
    have hk := h k (by omega)
    unfold okk at hk
    simp only [Bool.and_eq_true] at hk
    show (if lst (Ch.c0 L k) = true then max (Ch.c1 L k) (Ch.c2 L k) else En L k) = (if lst (Ch.c0 L k) = true then stl (Ch.c0 L k) (Ch.c1 L k) (Ch.c2 L k) else St f L k) ∨ ((if lst (Ch.c0 L k) = true then max (Ch.c1 L k) (Ch.c2 L k) else En L k) = 0 ∧ (if lst (Ch.c0 L k) = true then stl (Ch.c0 L k) (Ch.c1 L k) (Ch.c2 L k) else St f L k) = f)
    by_cases hl : lst (Ch.c0 L k) = true
    · rw [if_pos hl, if_pos hl]
      exact Or.inl (cok_max hf hk.1 hl)
    · rw [if_neg hl, if_neg hl]
      exact ih
/-- the model's test is the program's -/
theorem okk_eq {f t : Int} {L : Ch.Ls} (hf : 0 ≤ f) (k : Nat) (h : ∀ j, j < k → okk f t L j = true) : okk f t L k = (cj f t L k && ((!decide (0 < k) || decide (Ch.c1 L (k - 1) ≤ Ch.c1 L k)) && (!lst (Ch.c0 L k) || decide (En L k ≤ Ch.c1 L k)))) := by
  unfold okk
  cases hc : cj f t L k
  · rfl
  have hx : f ≤ Ch.c1 L k := cok_low hc
  have e1 : decide (la f L k ≤ Ch.c1 L k) = (!decide (0 < k) || decide (Ch.c1 L (k - 1) ≤ Ch.c1 L k)) := by
    cases k with
    | zero => show decide (f ≤ _) = _; rw [decide_eq_true hx]; rfl
    | succ j => show decide (Ch.c1 L j ≤ _) = _; simp
  have e2 : decide (St f L k ≤ Ch.c1 L k) = decide (En L k ≤ Ch.c1 L k) := by
    rcases En_St hf k h with e | ⟨e, e'⟩
    · rw [e]
    · rw [e, e', decide_eq_true hx, decide_eq_true (show (0 : Int) ≤ _ by omega)]
  rw [e1, e2]

set_option maxRecDepth 20000 in
set_option maxHeartbeats 4000000 in
theorem staf_any (C : ByteArray) (I f t d p v : Int) (W O : ByteArray) (b : Int) (u : Value) (L : Ch.Ls) (w : World) (hL : Ch.Reads w u L) :
    Calls Tryz.prog 11 #[Tf.tv C I f t d p v W O b u] w fun e w' => e = .returned (.bool (tok C I f t d p v W O b L)) ∧ Below w.heap.size w w' := by
  have hfit := hL.fits
  have hcell : ∃ bb o, (∀ w', Below w.heap.size w w' → ∀ i, i < L.length → Ch.Cs w' bb o L i) ∧ (0 < L.length → bb < w.heap.size ∧ ∃ cap, u = .slice (some ⟨bb, o, none⟩) L.length cap) := by
    rcases hL with ⟨rfl, _⟩ | ⟨bb, o, cap, h1, h2, h3, h4, h5⟩
    · exact ⟨0, 0, fun _ _ i hi => by simp at hi, fun hi => by simp at hi⟩
    · exact ⟨bb, o, fun w' hb i hi => (h5 i hi).below hb h4, fun _ => ⟨h4, cap, h1⟩⟩
  obtain ⟨bb, o, hc, hvv⟩ := hcell
  obtain ⟨sa, sc, hu⟩ := hL.form
  subst hu
  have HC : Hid (∀ w', Below w.heap.size w w' → ∀ i, i < L.length → Ch.Cs w' bb o L i) := hc
  have HB : Hid (0 < L.length → bb < w.heap.size ∧ sa = some ⟨bb, o, none⟩) := fun hi => by
    obtain ⟨h1, c, h2⟩ := hvv hi
    simp at h2
    exact ⟨h1, h2.1⟩
  have C1 : Hid (∀ w, Calls Tryz.prog 30 #[.string C] w fun e w' => e = .returned (.bool (Head.cen C)) ∧ w' = w) := fun w => Head.scen_any C w
  have C2 : Hid (∀ w, Calls Tryz.prog 31 #[.int .i64 I] w fun e w' => e = .returned (.bool (tm I)) ∧ w' = w) := fun w => stime_any I w
  have C3 : Hid (∀ w, Calls Tryz.prog 32 #[sp f t] w fun e w' => e = .returned (.bool (span f t)) ∧ Below w.heap.size w w') := fun w => sspan_any f t w
  have C4 : Hid (∀ w, Calls Tryz.prog 33 #[.int .i64 (t - f), .int .i64 60, .int .i64 2160] w fun e w' => e = .returned (.bool (inn (t - f) 60 2160)) ∧ w' = w) := fun w => s_in _ _ _ w
  have C5 : Hid (∀ w, Calls Tryz.prog 33 #[.int .i64 (f - I), .int .i64 (-1440), .int .i64 1440] w fun e w' => e = .returned (.bool (inn (f - I) (-1440) 1440)) ∧ w' = w) := fun w => s_in _ _ _ w
  have C6 : Hid (∀ w, Calls Tryz.prog 34 #[Sk.sk d p v W O b] w fun e w' => e = .returned (.bool (ful d p v W O b)) ∧ Below w.heap.size w w') := fun w => sfull_any d p v W O b w
  obtain ⟨q, hq⟩ : ∃ q, q = tok C I f t d p v W O b L := ⟨_, rfl⟩
  rw [← hq]
  have HQ : Hid (q = (Head.cen C && (tm I && ((span f t && (hr f && (hr t && (inn (t - f) 60 2160 && inn (f - I) (-1440) 1440)))) && (ful d p v W O b && (decide (L.length ≤ 10) && oks f t L)))))) := hq
  have HF : Hid (tm I = true → span f t = true → (0 ≤ I ∧ I ≤ 52596000) ∧ (0 ≤ f ∧ f ≤ 52596000) ∧ (0 ≤ t ∧ t ≤ 52596000)) := fun h1 h2 => by
    unfold span at h2
    simp only [Bool.and_eq_true] at h2
    exact ⟨(inn_iff _ _ _).1 h1, (inn_iff _ _ _).1 h2.1, (inn_iff _ _ _).1 h2.2.1⟩
  obtain ⟨n, hn⟩ : ∃ n, n = L.length := ⟨_, rfl⟩
  rw [← hn] at hfit HC HB HQ ⊢
  have HN : Hid (n = L.length) := hn
  clear hL hc hvv hn hq
  generalize Head.cen C = b1 at *
  generalize tm I = b2 at *
  generalize span f t = b3 at *
  generalize inn (t - f) 60 2160 = b6 at *
  generalize inn (f - I) (-1440) 1440 = b7 at *
  generalize ful d p v W O b = b8 at *
  obtain ⟨wb, hwb⟩ : ∃ wb, wb = (w.alloc (.cells #[.string C, .int .i64 I, .int .i64 f, .int .i64 t, .int .i64 d, .int .i64 p, .int .i64 v, .string W, .string O, .int .i64 b, (.slice sa n sc)] 35)).alloc (.cells #[.int .i64 f, .int .i64 t] 31) := ⟨_, rfl⟩
  have HW : Hid (wb = (w.alloc (.cells #[.string C, .int .i64 I, .int .i64 f, .int .i64 t, .int .i64 d, .int .i64 p, .int .i64 v, .string W, .string O, .int .i64 b, (.slice sa n sc)] 35)).alloc (.cells #[.int .i64 f, .int .i64 t] 31)) := hwb
  have BW : Hid (Below w.heap.size w wb) := (by show Below _ _ _; rw [hwb]; exact ((Below.refl _ _).alloc (Nat.le_refl _) _).alloc (by simp) _)
  have ZW : Hid (wb.heap.size = w.heap.size + 2) := (by show _ = _; rw [hwb]; simp)
  have KT : Hid (Tf.TB wb w.heap.size C I f t d p v W O b (.slice sa n sc)) := (by show Tf.TB _ _ _ _ _ _ _ _ _ _ _ _ _; rw [hwb]; exact (Tf.TB.new w C I f t d p v W O b (.slice sa n sc)).on ((Below.refl _ _).alloc (Nat.le_refl _) _) (by simp))
  have KV : Hid (wb.cell? ⟨w.heap.size + 1, 0, none⟩ = some (.int .i64 f) ∧ wb.cell? ⟨w.heap.size + 1, 1, none⟩ = some (.int .i64 t)) := (by rw [hwb]; constructor <;> simp [go_sem])
  clear hwb
  have CW : Hid (∀ w', Below wb.heap.size wb w' → Tf.TB w' w.heap.size C I f t d p v W O b (.slice sa n sc) ∧ w'.cell? ⟨w.heap.size + 1, 0, none⟩ = some (.int .i64 f) ∧ w'.cell? ⟨w.heap.size + 1, 1, none⟩ = some (.int .i64 t) ∧ Below w.heap.size w w') := fun w' hb => ⟨KT.out.on hb (by rw [ZW.out]; omega), (hb.cell (p := ⟨w.heap.size + 1, 0, none⟩) (by show w.heap.size + 1 < _; rw [ZW.out]; omega)).trans KV.out.1, (hb.cell (p := ⟨w.heap.size + 1, 1, none⟩) (by show w.heap.size + 1 < _; rw [ZW.out]; omega)).trans KV.out.2, BW.out.trans (hb.mono BW.out.size)⟩
  have Q0 : Hid (Below wb.heap.size wb wb) := Below.refl _ _
  obtain ⟨m0, v0, v1, _⟩ := CW.out wb Q0.out
  obtain ⟨c0, c1, c2, c3, c4, c5, c6, c7, c8, c9, c10, _⟩ := m0.cells
  clear m0
  go_enter Tryz.func11, Tryz.ntmps11
  go_wp2_with fail
  rw [← HW.out]
  refine (C1.out _).mono ?_
  rintro e wq ⟨rfl, hw⟩
  have hw' := hw.symm
  clear hw
  subst hw'
  clear HW
  cases b1
  · go_wp2_with fail
    go_ret
    exact ⟨by rw [HQ.out]; rfl, BW.out⟩
  go_wp2_with fail
  refine (C2.out _).mono ?_
  rintro e wq ⟨rfl, hw⟩
  have hw' := hw.symm
  clear hw
  subst hw'
  cases b2
  · go_wp2_with fail
    go_ret
    exact ⟨by rw [HQ.out]; rfl, BW.out⟩
  go_wp2_with fail
  refine (C3.out _).mono ?_
  rintro e w1 ⟨rfl, hb⟩
  have Q1 : Hid (Below wb.heap.size wb w1) := Q0.out.trans (hb.mono Q0.out.size)
  clear c0 c1 c2 c3 c4 c5 c6 c7 c8 c9 c10 v0 v1 hb
  obtain ⟨m0, v0, v1, m1⟩ := CW.out w1 Q1.out
  have B1 : Hid (Below w.heap.size w w1) := m1
  obtain ⟨c0, c1, c2, c3, c4, c5, c6, c7, c8, c9, c10, _⟩ := m0.cells
  clear m0 m1
  cases b3
  · go_wp2_with fail
    go_ret
    exact ⟨by rw [HQ.out]; rfl, B1.out⟩
  obtain ⟨⟨I0, I1⟩, ⟨f0, f1⟩, ⟨t0, t1⟩⟩ := HF.out (by first | exact trivial | rfl) (by first | exact trivial | rfl)
  have j1 : IntKind.i64.wrap (t - f) = t - f := IntWalk.i64_in _ (by omega)
  have j2 : IntKind.i64.wrap (f - I) = f - I := IntWalk.i64_in _ (by omega)
  have F0 : Hid (0 ≤ f) := f0
  have T0 : Hid (0 ≤ t ∧ t ≤ 52596000) := ⟨t0, t1⟩
  clear HF I0 I1 f0 f1 t0 t1
  cases h4 : (f.tmod 60 == 0)
  · have h4' : (f.tmod 60 != 0) = true := by unfold bne; rw [h4]; rfl
    go_wp2_with fail
    go_ret
    exact ⟨by rw [HQ.out]; unfold hr; rw [h4]; rfl, B1.out⟩
  have h4' : (f.tmod 60 != 0) = false := by unfold bne; rw [h4]; rfl
  cases h5 : (t.tmod 60 == 0)
  · have h5' : (t.tmod 60 != 0) = true := by unfold bne; rw [h5]; rfl
    go_wp2_with fail
    go_ret
    exact ⟨by rw [HQ.out]; unfold hr; rw [h4, h5]; rfl, B1.out⟩
  have h5' : (t.tmod 60 != 0) = false := by unfold bne; rw [h5]; rfl
  have HQ1 : Hid (q = ((b6 && b7) && (b8 && (decide (n ≤ 10) && oks f t L)))) := (by show _ = _; rw [HQ.out]; unfold hr; rw [h4, h5]; rfl)
  clear HQ
  have HQ := HQ1
  clear HQ1
  go_wp2_with fail
  refine (C4.out _).mono ?_
  rintro e wq ⟨rfl, hw⟩
  have hw' := hw.symm
  clear hw
  subst hw'
  clear h4 h4' h5 h5'
  cases b6
  · go_wp2_with fail
    go_ret
    exact ⟨by rw [HQ.out]; rfl, B1.out⟩
  go_wp2_with fail
  refine (C5.out _).mono ?_
  rintro e wq ⟨rfl, hw⟩
  have hw' := hw.symm
  clear hw
  subst hw'
  cases b7
  · go_wp2_with fail
    go_ret
    exact ⟨by rw [HQ.out]; rfl, B1.out⟩
  go_wp2_with fail
  refine (C6.out _).mono ?_
  rintro e w2 ⟨rfl, hb⟩
  have Q2 : Hid (Below wb.heap.size wb w2) := Q1.out.trans (hb.mono Q1.out.size)
  clear c0 c1 c2 c3 c4 c5 c6 c7 c8 c9 c10 v0 v1 hb
  obtain ⟨m0, v0, v1, m1⟩ := CW.out w2 Q2.out
  have B2 : Hid (Below w.heap.size w w2) := m1
  obtain ⟨c0, c1, c2, c3, c4, c5, c6, c7, c8, c9, c10, _⟩ := m0.cells
  clear m0 m1
  cases b8
  · go_wp2_with fail
    go_ret
    exact ⟨by rw [HQ.out]; rfl, B2.out⟩
  by_cases h10 : n ≤ 10
  rotate_left 1
  · have e1 : (10 : Int) < (n : Int) := by omega
    go_wp2_with fail
    go_ret
    exact ⟨by rw [HQ.out, decide_eq_false h10]; rfl, B2.out⟩
  have HQ2 : Hid (q = oks f t L) := (by show _ = _; rw [HQ.out, decide_eq_true h10]; rfl)
  have e1 : ¬ (10 : Int) < (n : Int) := by omega
  go_wp2_with fail
  clear c0 c1 c2 c3 c4 c5 c6 c7 c8 c9 c10 v0 v1 j1 j2
  go_loopw [4, 5] (fun q4 i wr => ∃ k : Nat, k ≤ n ∧ i = .int .i64 k ∧ q4 = .int .i64 (En L k) ∧ Hid (∀ j, j < k → okk f t L j = true) ∧ Hid (Below wb.heap.size wb wr)) (fun _ i _ => n - (intOf i).toNat)
  case atStart => exact ⟨0, Nat.zero_le _, rfl, rfl, fun j hj => absurd hj (Nat.not_lt_zero _), Q2.out⟩
  case round =>
    obtain ⟨k, hk, rfl, rfl, HA, BB⟩ := hrel
    obtain ⟨m0, v0, v1, bw⟩ := CW.out wr BB.out
    obtain ⟨c0, c1, c2, c3, c4, c5, c6, c7, c8, c9, c10, _⟩ := m0.cells
    have BR : Hid (Below w.heap.size w wr) := bw
    clear m0 bw
    by_cases hlt : k < n
    · have hkl : k < L.length := by rw [← HN.out]; exact hlt
      obtain ⟨hb0, hx⟩ := HB.out (by omega)
      subst hx
      obtain ⟨q0, q1, q2, q3, q4, q5, q6, q7, q8⟩ := HC.out wr BR.out k hlt
      have i1 : (0 : Int) ≤ (k : Int) := by omega
      have i2 : (k : Int) < (n : Int) := by omega
      have HNO : Hid (okk f t L k = false → q = false) := fun h => by rw [HQ2.out]; exact oks_no hkl h
      have HK : Hid (okk f t L k = (cok f t (Ch.c0 L k) (Ch.c1 L k) (Ch.c2 L k) (Ch.c3 L k) (Ch.c4 L k) (Ch.c5 L k) (Ch.c6 L k) (Ch.c7 L k) (Ch.c8 L k) && ((!decide (0 < k) || decide (Ch.c1 L (k - 1) ≤ Ch.c1 L k)) && (!lst (Ch.c0 L k) || decide (En L k ≤ Ch.c1 L k))))) := okk_eq F0.out k HA.out
      have HE0 : Hid (lst (Ch.c0 L k) = false → En L (k + 1) = En L k) := fun h => by show (if _ then _ else _) = _; rw [h]; rfl
      have HE1 : Hid (lst (Ch.c0 L k) = true → En L (k + 1) = max (Ch.c1 L k) (Ch.c2 L k)) := fun h => by show (if _ then _ else _) = _; rw [h]; rfl
      have HL : Hid (lst (Ch.c0 L k) = ((Ch.c0 L k == 1) || (Ch.c0 L k == 2))) := rfl
      have C7 : Hid (∀ w, Calls Tryz.prog 35 #[Tf.tv C I f t d p v W O b (.slice (some ⟨bb, o, none⟩) n sc), cv (Ch.c0 L k) (Ch.c1 L k) (Ch.c2 L k) (Ch.c3 L k) (Ch.c4 L k) (Ch.c5 L k) (Ch.c6 L k) (Ch.c7 L k) (Ch.c8 L k)] w fun e w' => e = .returned (.bool (cok f t (Ch.c0 L k) (Ch.c1 L k) (Ch.c2 L k) (Ch.c3 L k) (Ch.c4 L k) (Ch.c5 L k) (Ch.c6 L k) (Ch.c7 L k) (Ch.c8 L k))) ∧ Below w.heap.size w w') := fun w => schange_any (Ch.c0 L k) (Ch.c1 L k) (Ch.c2 L k) (Ch.c3 L k) (Ch.c4 L k) (Ch.c5 L k) (Ch.c6 L k) (Ch.c7 L k) (Ch.c8 L k) C I f t d p v W O b _ ⟨_, _, _, rfl⟩ T0.out w
      generalize cok f t (Ch.c0 L k) (Ch.c1 L k) (Ch.c2 L k) (Ch.c3 L k) (Ch.c4 L k) (Ch.c5 L k) (Ch.c6 L k) (Ch.c7 L k) (Ch.c8 L k) = b1 at *
      generalize lst (Ch.c0 L k) = b2 at *
      generalize En L k = ek at *
      have HP : Hid (∀ p, k = p + 1 → Ch.c1 L (k - 1) = Ch.c1 L p ∧ p < n) := fun p h => by subst h; exact ⟨rfl, by omega⟩
      generalize Ch.c1 L (k - 1) = pf at *
      generalize hy0 : Ch.c0 L k = y0 at *
      generalize hy1 : Ch.c1 L k = y1 at *
      generalize hy2 : Ch.c2 L k = y2 at *
      generalize hy3 : Ch.c3 L k = y3 at *
      generalize hy4 : Ch.c4 L k = y4 at *
      generalize hy5 : Ch.c5 L k = y5 at *
      generalize hy6 : Ch.c6 L k = y6 at *
      generalize hy7 : Ch.c7 L k = y7 at *
      generalize hy8 : Ch.c8 L k = y8 at *
      clear hy0 hy1 hy2 hy3 hy4 hy5 hy6 hy7 hy8
      obtain ⟨wy, hwy⟩ : ∃ wy, wy = wr.alloc (.cells #[.int .i64 y0, .int .i64 y1, .int .i64 y2, .int .i64 y3, .int .i64 y4, .int .i64 y5, .string y6, .string y7, .int .i64 y8] 47) := ⟨_, rfl⟩
      have HY : Hid (wy = wr.alloc (.cells #[.int .i64 y0, .int .i64 y1, .int .i64 y2, .int .i64 y3, .int .i64 y4, .int .i64 y5, .string y6, .string y7, .int .i64 y8] 47)) := hwy
      have KY : Hid (Ch.CB wy wr.heap.size y0 y1 y2 y3 y4 y5 y6 y7 y8) := (by show Ch.CB _ _ _ _ _ _ _ _ _ _ _; rw [hwy]; exact Ch.CB.new wr y0 y1 y2 y3 y4 y5 y6 y7 y8)
      have QY : Hid (Below wb.heap.size wb wy) := (by show Below _ _ _; rw [hwy]; exact BB.out.alloc BB.out.size _)
      have KYd : Hid (Ch.CB wy.drew wr.heap.size y0 y1 y2 y3 y4 y5 y6 y7 y8) := KY.out.on (Below.refl _ _).drew KY.out.lt
      have QYd : Hid (Below wb.heap.size wb wy.drew) := QY.out.drew
      clear hwy
      go_upto_region 9 with fail
      rw [← HY.out]
      clear c0 c1 c2 c3 c4 c5 c6 c7 c8 c9 c10 v0 v1 q0 q1 q2 q3 q4 q5 q6 q7 q8
      obtain ⟨g0, g1, g2, g3, g4, g5, g6, g7, g8, _⟩ := KY.out.cells
      obtain ⟨m0, v0, v1, bw⟩ := CW.out wy QY.out
      have BY : Hid (Below w.heap.size w wy) := bw
      obtain ⟨c0, c1, c2, c3, c4, c5, c6, c7, c8, c9, c10, _⟩ := m0.cells
      clear m0 bw
      cases b1
      · (skip)
        refine wp_region_held_drew (S := (fun w' => w'.cell? ⟨w.heap.size, 0, none⟩ = some (.string C) ∧ w'.cell? ⟨w.heap.size, 1, none⟩ = some (.int .i64 I) ∧ w'.cell? ⟨w.heap.size, 2, none⟩ = some (.int .i64 f) ∧ w'.cell? ⟨w.heap.size, 3, none⟩ = some (.int .i64 t) ∧ w'.cell? ⟨w.heap.size, 4, none⟩ = some (.int .i64 d) ∧ w'.cell? ⟨w.heap.size, 5, none⟩ = some (.int .i64 p) ∧ w'.cell? ⟨w.heap.size, 6, none⟩ = some (.int .i64 v) ∧ w'.cell? ⟨w.heap.size, 7, none⟩ = some (.string W) ∧ w'.cell? ⟨w.heap.size, 8, none⟩ = some (.string O) ∧ w'.cell? ⟨w.heap.size, 9, none⟩ = some (.int .i64 b) ∧ w'.cell? ⟨w.heap.size, 10, none⟩ = some (.slice (some ⟨bb, o, none⟩) n sc) ∧ w'.cell? ⟨wr.heap.size, 0, none⟩ = some (.int .i64 y0) ∧ w'.cell? ⟨wr.heap.size, 1, none⟩ = some (.int .i64 y1) ∧ w'.cell? ⟨wr.heap.size, 2, none⟩ = some (.int .i64 y2) ∧ w'.cell? ⟨wr.heap.size, 3, none⟩ = some (.int .i64 y3) ∧ w'.cell? ⟨wr.heap.size, 4, none⟩ = some (.int .i64 y4) ∧ w'.cell? ⟨wr.heap.size, 5, none⟩ = some (.int .i64 y5) ∧ w'.cell? ⟨wr.heap.size, 6, none⟩ = some (.string y6) ∧ w'.cell? ⟨wr.heap.size, 7, none⟩ = some (.string y7) ∧ w'.cell? ⟨wr.heap.size, 8, none⟩ = some (.int .i64 y8))) (by kernel_rfl) (by (try dsimp only); go_keep) (fun hHeld => ?_)
        refine wpAnyH_take (i := 0) (oi := { dst := some 78, op := Go.Op.load 35 (Go.Operand.tmp 1), type := 35, pos := "l21_aviation.go:114", after := #[], guard := none }) (v := ?_) rfl (by kernel_rfl) (by kernel_rfl) (by kernel_rfl) (fun _ _ _ h => h) (Or.inl ⟨by rfl, ?_⟩) (by assumption) ?_
        rotate_left 1
        · (intro w hSw; (try dsimp only at hSw); go_simp); all_goals (with_reducible rfl)
        try simp only [Act.put, List.setIfInBounds_toArray, List.set_cons_zero, List.set_cons_succ]
        refine wpAnyH_take (i := 1) (oi := { dst := some 79, op := Go.Op.load 47 (Go.Operand.tmp 6), type := 47, pos := "l21_aviation.go:114", after := #[], guard := none }) (v := ?_) rfl (by kernel_rfl) (by kernel_rfl) (by kernel_rfl) (fun _ _ _ h => h) (Or.inl ⟨by rfl, ?_⟩) (by assumption) ?_
        rotate_left 1
        · (intro w hSw; (try dsimp only at hSw); go_simp); all_goals (with_reducible rfl)
        try simp only [Act.put, List.setIfInBounds_toArray, List.set_cons_zero, List.set_cons_succ]
        refine wpAnyH_ready (rs := [2]) (by kernel_rfl) (by simp) ?_
        refine AllReadyH.cons (o := { dst := some 80, op := Go.Op.call { callee := Go.Callee.value (Go.Operand.func 35), args := #[Go.Operand.tmp 78, Go.Operand.tmp 79], argTypes := #[35, 47] }, type := 4, pos := "l21_aviation.go:114", after := #[{ on := 0, ground := Go.Ground.data }, { on := 1, ground := Go.Ground.data }], guard := none }) rfl (fun K hK => ?_) AllReadyH.nil
        go_simp
        (refine (C7.out _).mono ?_; rintro e w1_ ⟨rfl, hb1⟩; have Q5 : Hid (Below wb.heap.size wb w1_) := QYd.out.trans (hb1.mono QYd.out.size); have K5 : Hid (Ch.CB w1_ wr.heap.size y0 y1 y2 y3 y4 y5 y6 y7 y8) := KYd.out.on hb1 KYd.out.lt; obtain ⟨m0, _, _, m1⟩ := CW.out w1_ Q5.out; have B5 : Hid (Below w.heap.size w w1_) := m1; obtain ⟨e0, e1, e2, e3, e4, e5, e6, e7, e8, e9, e10, _⟩ := m0.cells; obtain ⟨g0, g1, g2, g3, g4, g5, g6, g7, g8, _⟩ := K5.out.cells; clear m0 m1; skip)
        go_wp2_with fail
        refine hK.out _ _ (by (try dsimp only); go_keep) (fun hHeld2 => ?_)
        clear hK K hHeld
        have hHeld := hHeld2
        clear hHeld2
        try simp only [Act.put, List.setIfInBounds_toArray, List.set_cons_zero, List.set_cons_succ]
        refine wpAnyH_take (i := 3) (oi := { dst := some 81, op := Go.Op.unOp Go.UnOp.not 4 (Go.Operand.tmp 80), type := 4, pos := "l21_aviation.go:114", after := #[{ on := 2, ground := Go.Ground.data }], guard := none }) (v := ?_) rfl (by kernel_rfl) (by kernel_rfl) (by kernel_rfl) (fun _ _ _ h => h) (Or.inl ⟨by rfl, ?_⟩) (by assumption) ?_
        rotate_left 1
        · (intro w hSw; (try dsimp only at hSw); go_simp); all_goals (with_reducible rfl)
        try simp only [Act.put, List.setIfInBounds_toArray, List.set_cons_zero, List.set_cons_succ]
        refine wpAnyH_take (i := 4) (oi := { dst := some 82, op := Go.Op.move (Go.Operand.tmp 81), type := 4, pos := "l21_aviation.go:114", after := #[{ on := 3, ground := Go.Ground.data }, { on := 2, ground := Go.Ground.chain }], guard := none }) (v := ?_) rfl (by kernel_rfl) (by kernel_rfl) (by kernel_rfl) (fun _ _ _ h => h) (Or.inl ⟨by rfl, ?_⟩) (by assumption) ?_
        rotate_left 1
        · (intro w hSw; (try dsimp only at hSw); go_simp); all_goals (with_reducible rfl)
        try simp only [Act.put, List.setIfInBounds_toArray, List.set_cons_zero, List.set_cons_succ]
        refine wpAnyH_take (i := 5) (oi := { dst := some 83, op := Go.Op.move (Go.Operand.tmp 5), type := 3, pos := "l21_aviation.go:114", after := #[{ on := 4, ground := Go.Ground.guard }], guard := some (4, false) }) (v := undef) rfl (by kernel_rfl) (by kernel_rfl) (by kernel_rfl) (fun _ _ _ h => h) (Or.inr ⟨by rfl, rfl⟩) (by assumption) ?_
        try simp only [Act.put, List.setIfInBounds_toArray, List.set_cons_zero, List.set_cons_succ]
        refine wpAnyH_take (i := 6) (oi := { dst := some 84, op := Go.Op.binOp Go.BinOp.gtr 3 (Go.Operand.tmp 83) (Go.Operand.const (Go.Value.int Go.IntKind.i64 0)) 3, type := 4, pos := "l21_aviation.go:114", after := #[{ on := 5, ground := Go.Ground.data }, { on := 4, ground := Go.Ground.guard }], guard := some (4, false) }) (v := undef) rfl (by kernel_rfl) (by kernel_rfl) (by kernel_rfl) (fun _ _ _ h => h) (Or.inr ⟨by rfl, rfl⟩) (by assumption) ?_
        try simp only [Act.put, List.setIfInBounds_toArray, List.set_cons_zero, List.set_cons_succ]
        refine wpAnyH_take (i := 7) (oi := { dst := some 85, op := Go.Op.move (Go.Operand.tmp 84), type := 4, pos := "l21_aviation.go:114", after := #[{ on := 6, ground := Go.Ground.data }, { on := 4, ground := Go.Ground.chain }, { on := 4, ground := Go.Ground.guard }], guard := some (4, false) }) (v := undef) rfl (by kernel_rfl) (by kernel_rfl) (by kernel_rfl) (fun _ _ _ h => h) (Or.inr ⟨by rfl, rfl⟩) (by assumption) ?_
        try simp only [Act.put, List.setIfInBounds_toArray, List.set_cons_zero, List.set_cons_succ]
        refine wpAnyH_take (i := 8) (oi := { dst := some 86, op := Go.Op.fieldAddr 47 (Go.Operand.tmp 6) 1, type := 0, pos := "l21_aviation.go:114", after := #[{ on := 7, ground := Go.Ground.guard }], guard := some (7, true) }) (v := undef) rfl (by kernel_rfl) (by kernel_rfl) (by kernel_rfl) (fun _ _ _ h => h) (Or.inr ⟨by rfl, rfl⟩) (by assumption) ?_
        try simp only [Act.put, List.setIfInBounds_toArray, List.set_cons_zero, List.set_cons_succ]
        refine wpAnyH_take (i := 9) (oi := { dst := some 87, op := Go.Op.load 2 (Go.Operand.tmp 86), type := 2, pos := "l21_aviation.go:114", after := #[{ on := 8, ground := Go.Ground.data }, { on := 7, ground := Go.Ground.guard }], guard := some (7, true) }) (v := undef) rfl (by kernel_rfl) (by kernel_rfl) (by kernel_rfl) (fun _ _ _ h => h) (Or.inr ⟨by rfl, rfl⟩) (by assumption) ?_
        try simp only [Act.put, List.setIfInBounds_toArray, List.set_cons_zero, List.set_cons_succ]
        refine wpAnyH_take (i := 10) (oi := { dst := some 88, op := Go.Op.fieldAddr 35 (Go.Operand.tmp 1) 4, type := 0, pos := "l21_aviation.go:114", after := #[{ on := 7, ground := Go.Ground.guard }], guard := some (7, true) }) (v := undef) rfl (by kernel_rfl) (by kernel_rfl) (by kernel_rfl) (fun _ _ _ h => h) (Or.inr ⟨by rfl, rfl⟩) (by assumption) ?_
        try simp only [Act.put, List.setIfInBounds_toArray, List.set_cons_zero, List.set_cons_succ]
        refine wpAnyH_take (i := 11) (oi := { dst := some 89, op := Go.Op.load 33 (Go.Operand.tmp 88), type := 33, pos := "l21_aviation.go:114", after := #[{ on := 10, ground := Go.Ground.data }, { on := 7, ground := Go.Ground.guard }], guard := some (7, true) }) (v := undef) rfl (by kernel_rfl) (by kernel_rfl) (by kernel_rfl) (fun _ _ _ h => h) (Or.inr ⟨by rfl, rfl⟩) (by assumption) ?_
        try simp only [Act.put, List.setIfInBounds_toArray, List.set_cons_zero, List.set_cons_succ]
        refine wpAnyH_take (i := 12) (oi := { dst := some 90, op := Go.Op.move (Go.Operand.tmp 5), type := 3, pos := "l21_aviation.go:114", after := #[{ on := 7, ground := Go.Ground.guard }], guard := some (7, true) }) (v := undef) rfl (by kernel_rfl) (by kernel_rfl) (by kernel_rfl) (fun _ _ _ h => h) (Or.inr ⟨by rfl, rfl⟩) (by assumption) ?_
        try simp only [Act.put, List.setIfInBounds_toArray, List.set_cons_zero, List.set_cons_succ]
        refine wpAnyH_take (i := 13) (oi := { dst := some 91, op := Go.Op.binOp Go.BinOp.sub 3 (Go.Operand.tmp 90) (Go.Operand.const (Go.Value.int Go.IntKind.i64 1)) 3, type := 3, pos := "l21_aviation.go:114", after := #[{ on := 12, ground := Go.Ground.data }, { on := 7, ground := Go.Ground.guard }], guard := some (7, true) }) (v := undef) rfl (by kernel_rfl) (by kernel_rfl) (by kernel_rfl) (fun _ _ _ h => h) (Or.inr ⟨by rfl, rfl⟩) (by assumption) ?_
        try simp only [Act.put, List.setIfInBounds_toArray, List.set_cons_zero, List.set_cons_succ]
        refine wpAnyH_take (i := 14) (oi := { dst := some 92, op := Go.Op.indexAddr 33 (Go.Operand.tmp 89) (Go.Operand.tmp 91), type := 0, pos := "l21_aviation.go:114", after := #[{ on := 11, ground := Go.Ground.data }, { on := 13, ground := Go.Ground.data }, { on := 7, ground := Go.Ground.guard }], guard := some (7, true) }) (v := undef) rfl (by kernel_rfl) (by kernel_rfl) (by kernel_rfl) (fun _ _ _ h => h) (Or.inr ⟨by rfl, rfl⟩) (by assumption) ?_
        try simp only [Act.put, List.setIfInBounds_toArray, List.set_cons_zero, List.set_cons_succ]
        refine wpAnyH_take (i := 15) (oi := { dst := some 93, op := Go.Op.fieldAddr 47 (Go.Operand.tmp 92) 1, type := 0, pos := "l21_aviation.go:114", after := #[{ on := 14, ground := Go.Ground.data }, { on := 7, ground := Go.Ground.guard }], guard := some (7, true) }) (v := undef) rfl (by kernel_rfl) (by kernel_rfl) (by kernel_rfl) (fun _ _ _ h => h) (Or.inr ⟨by rfl, rfl⟩) (by assumption) ?_
        try simp only [Act.put, List.setIfInBounds_toArray, List.set_cons_zero, List.set_cons_succ]
        refine wpAnyH_take (i := 16) (oi := { dst := some 94, op := Go.Op.load 2 (Go.Operand.tmp 93), type := 2, pos := "l21_aviation.go:114", after := #[{ on := 15, ground := Go.Ground.data }, { on := 7, ground := Go.Ground.guard }], guard := some (7, true) }) (v := undef) rfl (by kernel_rfl) (by kernel_rfl) (by kernel_rfl) (fun _ _ _ h => h) (Or.inr ⟨by rfl, rfl⟩) (by assumption) ?_
        try simp only [Act.put, List.setIfInBounds_toArray, List.set_cons_zero, List.set_cons_succ]
        refine wpAnyH_take (i := 17) (oi := { dst := some 95, op := Go.Op.binOp Go.BinOp.lss 2 (Go.Operand.tmp 87) (Go.Operand.tmp 94) 2, type := 4, pos := "l21_aviation.go:114", after := #[{ on := 9, ground := Go.Ground.data }, { on := 16, ground := Go.Ground.data }, { on := 7, ground := Go.Ground.guard }], guard := some (7, true) }) (v := undef) rfl (by kernel_rfl) (by kernel_rfl) (by kernel_rfl) (fun _ _ _ h => h) (Or.inr ⟨by rfl, rfl⟩) (by assumption) ?_
        try simp only [Act.put, List.setIfInBounds_toArray, List.set_cons_zero, List.set_cons_succ]
        refine wpAnyH_take (i := 18) (oi := { dst := some 96, op := Go.Op.pick (Go.Operand.tmp 85) (Go.Operand.tmp 95) (Go.Operand.const (Go.Value.bool false)), type := 4, pos := "l21_aviation.go:114", after := #[{ on := 7, ground := Go.Ground.data }, { on := 17, ground := Go.Ground.data }, { on := 4, ground := Go.Ground.guard }], guard := some (4, false) }) (v := undef) rfl (by kernel_rfl) (by kernel_rfl) (by kernel_rfl) (fun _ _ _ h => h) (Or.inr ⟨by rfl, rfl⟩) (by assumption) ?_
        try simp only [Act.put, List.setIfInBounds_toArray, List.set_cons_zero, List.set_cons_succ]
        refine wpAnyH_take (i := 19) (oi := { dst := some 97, op := Go.Op.pick (Go.Operand.tmp 82) (Go.Operand.const (Go.Value.bool true)) (Go.Operand.tmp 96), type := 4, pos := "l21_aviation.go:114", after := #[{ on := 4, ground := Go.Ground.data }, { on := 18, ground := Go.Ground.data }], guard := none }) (v := ?_) rfl (by kernel_rfl) (by kernel_rfl) (by kernel_rfl) (fun _ _ _ h => h) (Or.inl ⟨by rfl, ?_⟩) (by assumption) ?_
        rotate_left 1
        · (intro w hSw; (try dsimp only at hSw); go_simp); all_goals (with_reducible rfl)
        try simp only [Act.put, List.setIfInBounds_toArray, List.set_cons_zero, List.set_cons_succ]
        refine wpAnyH_done (by kernel_rfl) ?_ _
        go_wp2_with fail
        go_ret
        exact ⟨by rw [HNO.out (by rw [HK.out]; rfl)]; rfl, B5.out⟩
      by_cases hz : 0 < k
      rotate_left 1
      · have hz2 : ¬ (0 : Int) < (k : Int) := by omega
        have hk0 : (!decide (0 < k) || decide (pf ≤ y1)) = true := by rw [decide_eq_false hz]; rfl
        rw [hk0] at HK
        clear hk0 HP
        refine wp_region_held_drew (S := (fun w' => w'.cell? ⟨w.heap.size, 0, none⟩ = some (.string C) ∧ w'.cell? ⟨w.heap.size, 1, none⟩ = some (.int .i64 I) ∧ w'.cell? ⟨w.heap.size, 2, none⟩ = some (.int .i64 f) ∧ w'.cell? ⟨w.heap.size, 3, none⟩ = some (.int .i64 t) ∧ w'.cell? ⟨w.heap.size, 4, none⟩ = some (.int .i64 d) ∧ w'.cell? ⟨w.heap.size, 5, none⟩ = some (.int .i64 p) ∧ w'.cell? ⟨w.heap.size, 6, none⟩ = some (.int .i64 v) ∧ w'.cell? ⟨w.heap.size, 7, none⟩ = some (.string W) ∧ w'.cell? ⟨w.heap.size, 8, none⟩ = some (.string O) ∧ w'.cell? ⟨w.heap.size, 9, none⟩ = some (.int .i64 b) ∧ w'.cell? ⟨w.heap.size, 10, none⟩ = some (.slice (some ⟨bb, o, none⟩) n sc) ∧ w'.cell? ⟨wr.heap.size, 0, none⟩ = some (.int .i64 y0) ∧ w'.cell? ⟨wr.heap.size, 1, none⟩ = some (.int .i64 y1) ∧ w'.cell? ⟨wr.heap.size, 2, none⟩ = some (.int .i64 y2) ∧ w'.cell? ⟨wr.heap.size, 3, none⟩ = some (.int .i64 y3) ∧ w'.cell? ⟨wr.heap.size, 4, none⟩ = some (.int .i64 y4) ∧ w'.cell? ⟨wr.heap.size, 5, none⟩ = some (.int .i64 y5) ∧ w'.cell? ⟨wr.heap.size, 6, none⟩ = some (.string y6) ∧ w'.cell? ⟨wr.heap.size, 7, none⟩ = some (.string y7) ∧ w'.cell? ⟨wr.heap.size, 8, none⟩ = some (.int .i64 y8))) (by kernel_rfl) (by (try dsimp only); go_keep) (fun hHeld => ?_)
        refine wpAnyH_take (i := 0) (oi := { dst := some 78, op := Go.Op.load 35 (Go.Operand.tmp 1), type := 35, pos := "l21_aviation.go:114", after := #[], guard := none }) (v := ?_) rfl (by kernel_rfl) (by kernel_rfl) (by kernel_rfl) (fun _ _ _ h => h) (Or.inl ⟨by rfl, ?_⟩) (by assumption) ?_
        rotate_left 1
        · (intro w hSw; (try dsimp only at hSw); go_simp); all_goals (with_reducible rfl)
        try simp only [Act.put, List.setIfInBounds_toArray, List.set_cons_zero, List.set_cons_succ]
        refine wpAnyH_take (i := 1) (oi := { dst := some 79, op := Go.Op.load 47 (Go.Operand.tmp 6), type := 47, pos := "l21_aviation.go:114", after := #[], guard := none }) (v := ?_) rfl (by kernel_rfl) (by kernel_rfl) (by kernel_rfl) (fun _ _ _ h => h) (Or.inl ⟨by rfl, ?_⟩) (by assumption) ?_
        rotate_left 1
        · (intro w hSw; (try dsimp only at hSw); go_simp); all_goals (with_reducible rfl)
        try simp only [Act.put, List.setIfInBounds_toArray, List.set_cons_zero, List.set_cons_succ]
        refine wpAnyH_ready (rs := [2]) (by kernel_rfl) (by simp) ?_
        refine AllReadyH.cons (o := { dst := some 80, op := Go.Op.call { callee := Go.Callee.value (Go.Operand.func 35), args := #[Go.Operand.tmp 78, Go.Operand.tmp 79], argTypes := #[35, 47] }, type := 4, pos := "l21_aviation.go:114", after := #[{ on := 0, ground := Go.Ground.data }, { on := 1, ground := Go.Ground.data }], guard := none }) rfl (fun K hK => ?_) AllReadyH.nil
        go_simp
        (refine (C7.out _).mono ?_; rintro e w1_ ⟨rfl, hb1⟩; have Q5 : Hid (Below wb.heap.size wb w1_) := QYd.out.trans (hb1.mono QYd.out.size); have K5 : Hid (Ch.CB w1_ wr.heap.size y0 y1 y2 y3 y4 y5 y6 y7 y8) := KYd.out.on hb1 KYd.out.lt; obtain ⟨m0, _, _, m1⟩ := CW.out w1_ Q5.out; have B5 : Hid (Below w.heap.size w w1_) := m1; obtain ⟨e0, e1, e2, e3, e4, e5, e6, e7, e8, e9, e10, _⟩ := m0.cells; obtain ⟨g0, g1, g2, g3, g4, g5, g6, g7, g8, _⟩ := K5.out.cells; clear m0 m1; skip)
        go_wp2_with fail
        refine hK.out _ _ (by (try dsimp only); go_keep) (fun hHeld2 => ?_)
        clear hK K hHeld
        have hHeld := hHeld2
        clear hHeld2
        try simp only [Act.put, List.setIfInBounds_toArray, List.set_cons_zero, List.set_cons_succ]
        refine wpAnyH_take (i := 3) (oi := { dst := some 81, op := Go.Op.unOp Go.UnOp.not 4 (Go.Operand.tmp 80), type := 4, pos := "l21_aviation.go:114", after := #[{ on := 2, ground := Go.Ground.data }], guard := none }) (v := ?_) rfl (by kernel_rfl) (by kernel_rfl) (by kernel_rfl) (fun _ _ _ h => h) (Or.inl ⟨by rfl, ?_⟩) (by assumption) ?_
        rotate_left 1
        · (intro w hSw; (try dsimp only at hSw); go_simp); all_goals (with_reducible rfl)
        try simp only [Act.put, List.setIfInBounds_toArray, List.set_cons_zero, List.set_cons_succ]
        refine wpAnyH_take (i := 4) (oi := { dst := some 82, op := Go.Op.move (Go.Operand.tmp 81), type := 4, pos := "l21_aviation.go:114", after := #[{ on := 3, ground := Go.Ground.data }, { on := 2, ground := Go.Ground.chain }], guard := none }) (v := ?_) rfl (by kernel_rfl) (by kernel_rfl) (by kernel_rfl) (fun _ _ _ h => h) (Or.inl ⟨by rfl, ?_⟩) (by assumption) ?_
        rotate_left 1
        · (intro w hSw; (try dsimp only at hSw); go_simp); all_goals (with_reducible rfl)
        try simp only [Act.put, List.setIfInBounds_toArray, List.set_cons_zero, List.set_cons_succ]
        refine wpAnyH_take (i := 5) (oi := { dst := some 83, op := Go.Op.move (Go.Operand.tmp 5), type := 3, pos := "l21_aviation.go:114", after := #[{ on := 4, ground := Go.Ground.guard }], guard := some (4, false) }) (v := ?_) rfl (by kernel_rfl) (by kernel_rfl) (by kernel_rfl) (fun _ _ _ h => h) (Or.inl ⟨by rfl, ?_⟩) (by assumption) ?_
        rotate_left 1
        · (intro w hSw; (try dsimp only at hSw); go_simp); all_goals (with_reducible rfl)
        try simp only [Act.put, List.setIfInBounds_toArray, List.set_cons_zero, List.set_cons_succ]
        refine wpAnyH_take (i := 6) (oi := { dst := some 84, op := Go.Op.binOp Go.BinOp.gtr 3 (Go.Operand.tmp 83) (Go.Operand.const (Go.Value.int Go.IntKind.i64 0)) 3, type := 4, pos := "l21_aviation.go:114", after := #[{ on := 5, ground := Go.Ground.data }, { on := 4, ground := Go.Ground.guard }], guard := some (4, false) }) (v := ?_) rfl (by kernel_rfl) (by kernel_rfl) (by kernel_rfl) (fun _ _ _ h => h) (Or.inl ⟨by rfl, ?_⟩) (by assumption) ?_
        rotate_left 1
        · (intro w hSw; (try dsimp only at hSw); go_simp); all_goals (with_reducible rfl)
        try simp only [Act.put, List.setIfInBounds_toArray, List.set_cons_zero, List.set_cons_succ]
        refine wpAnyH_take (i := 7) (oi := { dst := some 85, op := Go.Op.move (Go.Operand.tmp 84), type := 4, pos := "l21_aviation.go:114", after := #[{ on := 6, ground := Go.Ground.data }, { on := 4, ground := Go.Ground.chain }, { on := 4, ground := Go.Ground.guard }], guard := some (4, false) }) (v := ?_) rfl (by kernel_rfl) (by kernel_rfl) (by kernel_rfl) (fun _ _ _ h => h) (Or.inl ⟨by rfl, ?_⟩) (by assumption) ?_
        rotate_left 1
        · (intro w hSw; (try dsimp only at hSw); go_simp); all_goals (with_reducible rfl)
        try simp only [Act.put, List.setIfInBounds_toArray, List.set_cons_zero, List.set_cons_succ]
        refine wpAnyH_take (i := 8) (oi := { dst := some 86, op := Go.Op.fieldAddr 47 (Go.Operand.tmp 6) 1, type := 0, pos := "l21_aviation.go:114", after := #[{ on := 7, ground := Go.Ground.guard }], guard := some (7, true) }) (v := undef) rfl (by kernel_rfl) (by kernel_rfl) (by kernel_rfl) (fun _ _ _ h => h) (Or.inr ⟨by rfl, rfl⟩) (by assumption) ?_
        try simp only [Act.put, List.setIfInBounds_toArray, List.set_cons_zero, List.set_cons_succ]
        refine wpAnyH_take (i := 9) (oi := { dst := some 87, op := Go.Op.load 2 (Go.Operand.tmp 86), type := 2, pos := "l21_aviation.go:114", after := #[{ on := 8, ground := Go.Ground.data }, { on := 7, ground := Go.Ground.guard }], guard := some (7, true) }) (v := undef) rfl (by kernel_rfl) (by kernel_rfl) (by kernel_rfl) (fun _ _ _ h => h) (Or.inr ⟨by rfl, rfl⟩) (by assumption) ?_
        try simp only [Act.put, List.setIfInBounds_toArray, List.set_cons_zero, List.set_cons_succ]
        refine wpAnyH_take (i := 10) (oi := { dst := some 88, op := Go.Op.fieldAddr 35 (Go.Operand.tmp 1) 4, type := 0, pos := "l21_aviation.go:114", after := #[{ on := 7, ground := Go.Ground.guard }], guard := some (7, true) }) (v := undef) rfl (by kernel_rfl) (by kernel_rfl) (by kernel_rfl) (fun _ _ _ h => h) (Or.inr ⟨by rfl, rfl⟩) (by assumption) ?_
        try simp only [Act.put, List.setIfInBounds_toArray, List.set_cons_zero, List.set_cons_succ]
        refine wpAnyH_take (i := 11) (oi := { dst := some 89, op := Go.Op.load 33 (Go.Operand.tmp 88), type := 33, pos := "l21_aviation.go:114", after := #[{ on := 10, ground := Go.Ground.data }, { on := 7, ground := Go.Ground.guard }], guard := some (7, true) }) (v := undef) rfl (by kernel_rfl) (by kernel_rfl) (by kernel_rfl) (fun _ _ _ h => h) (Or.inr ⟨by rfl, rfl⟩) (by assumption) ?_
        try simp only [Act.put, List.setIfInBounds_toArray, List.set_cons_zero, List.set_cons_succ]
        refine wpAnyH_take (i := 12) (oi := { dst := some 90, op := Go.Op.move (Go.Operand.tmp 5), type := 3, pos := "l21_aviation.go:114", after := #[{ on := 7, ground := Go.Ground.guard }], guard := some (7, true) }) (v := undef) rfl (by kernel_rfl) (by kernel_rfl) (by kernel_rfl) (fun _ _ _ h => h) (Or.inr ⟨by rfl, rfl⟩) (by assumption) ?_
        try simp only [Act.put, List.setIfInBounds_toArray, List.set_cons_zero, List.set_cons_succ]
        refine wpAnyH_take (i := 13) (oi := { dst := some 91, op := Go.Op.binOp Go.BinOp.sub 3 (Go.Operand.tmp 90) (Go.Operand.const (Go.Value.int Go.IntKind.i64 1)) 3, type := 3, pos := "l21_aviation.go:114", after := #[{ on := 12, ground := Go.Ground.data }, { on := 7, ground := Go.Ground.guard }], guard := some (7, true) }) (v := undef) rfl (by kernel_rfl) (by kernel_rfl) (by kernel_rfl) (fun _ _ _ h => h) (Or.inr ⟨by rfl, rfl⟩) (by assumption) ?_
        try simp only [Act.put, List.setIfInBounds_toArray, List.set_cons_zero, List.set_cons_succ]
        refine wpAnyH_take (i := 14) (oi := { dst := some 92, op := Go.Op.indexAddr 33 (Go.Operand.tmp 89) (Go.Operand.tmp 91), type := 0, pos := "l21_aviation.go:114", after := #[{ on := 11, ground := Go.Ground.data }, { on := 13, ground := Go.Ground.data }, { on := 7, ground := Go.Ground.guard }], guard := some (7, true) }) (v := undef) rfl (by kernel_rfl) (by kernel_rfl) (by kernel_rfl) (fun _ _ _ h => h) (Or.inr ⟨by rfl, rfl⟩) (by assumption) ?_
        try simp only [Act.put, List.setIfInBounds_toArray, List.set_cons_zero, List.set_cons_succ]
        refine wpAnyH_take (i := 15) (oi := { dst := some 93, op := Go.Op.fieldAddr 47 (Go.Operand.tmp 92) 1, type := 0, pos := "l21_aviation.go:114", after := #[{ on := 14, ground := Go.Ground.data }, { on := 7, ground := Go.Ground.guard }], guard := some (7, true) }) (v := undef) rfl (by kernel_rfl) (by kernel_rfl) (by kernel_rfl) (fun _ _ _ h => h) (Or.inr ⟨by rfl, rfl⟩) (by assumption) ?_
        try simp only [Act.put, List.setIfInBounds_toArray, List.set_cons_zero, List.set_cons_succ]
        refine wpAnyH_take (i := 16) (oi := { dst := some 94, op := Go.Op.load 2 (Go.Operand.tmp 93), type := 2, pos := "l21_aviation.go:114", after := #[{ on := 15, ground := Go.Ground.data }, { on := 7, ground := Go.Ground.guard }], guard := some (7, true) }) (v := undef) rfl (by kernel_rfl) (by kernel_rfl) (by kernel_rfl) (fun _ _ _ h => h) (Or.inr ⟨by rfl, rfl⟩) (by assumption) ?_
        try simp only [Act.put, List.setIfInBounds_toArray, List.set_cons_zero, List.set_cons_succ]
        refine wpAnyH_take (i := 17) (oi := { dst := some 95, op := Go.Op.binOp Go.BinOp.lss 2 (Go.Operand.tmp 87) (Go.Operand.tmp 94) 2, type := 4, pos := "l21_aviation.go:114", after := #[{ on := 9, ground := Go.Ground.data }, { on := 16, ground := Go.Ground.data }, { on := 7, ground := Go.Ground.guard }], guard := some (7, true) }) (v := undef) rfl (by kernel_rfl) (by kernel_rfl) (by kernel_rfl) (fun _ _ _ h => h) (Or.inr ⟨by rfl, rfl⟩) (by assumption) ?_
        try simp only [Act.put, List.setIfInBounds_toArray, List.set_cons_zero, List.set_cons_succ]
        refine wpAnyH_take (i := 18) (oi := { dst := some 96, op := Go.Op.pick (Go.Operand.tmp 85) (Go.Operand.tmp 95) (Go.Operand.const (Go.Value.bool false)), type := 4, pos := "l21_aviation.go:114", after := #[{ on := 7, ground := Go.Ground.data }, { on := 17, ground := Go.Ground.data }, { on := 4, ground := Go.Ground.guard }], guard := some (4, false) }) (v := ?_) rfl (by kernel_rfl) (by kernel_rfl) (by kernel_rfl) (fun _ _ _ h => h) (Or.inl ⟨by rfl, ?_⟩) (by assumption) ?_
        rotate_left 1
        · (intro w hSw; (try dsimp only at hSw); go_simp); all_goals (with_reducible rfl)
        try simp only [Act.put, List.setIfInBounds_toArray, List.set_cons_zero, List.set_cons_succ]
        refine wpAnyH_take (i := 19) (oi := { dst := some 97, op := Go.Op.pick (Go.Operand.tmp 82) (Go.Operand.const (Go.Value.bool true)) (Go.Operand.tmp 96), type := 4, pos := "l21_aviation.go:114", after := #[{ on := 4, ground := Go.Ground.data }, { on := 18, ground := Go.Ground.data }], guard := none }) (v := ?_) rfl (by kernel_rfl) (by kernel_rfl) (by kernel_rfl) (fun _ _ _ h => h) (Or.inl ⟨by rfl, ?_⟩) (by assumption) ?_
        rotate_left 1
        · (intro w hSw; (try dsimp only at hSw); go_simp); all_goals (with_reducible rfl)
        try simp only [Act.put, List.setIfInBounds_toArray, List.set_cons_zero, List.set_cons_succ]
        refine wpAnyH_done (by kernel_rfl) ?_ _
        clear g0 g1 g2 g3 g4 g5 g6 g7 g8 c0 c1 c2 c3 c4 c5 c6 c7 c8 c9 c10
        cases h1 : (y0 == 1)
        · cases h2 : (y0 == 2)
          · have hb2 : b2 = false := by rw [HL.out, h1, h2]; rfl
            subst hb2
            go_wp2_with fail
            go_roundw
            case rel => exact ⟨k + 1, by omega, by go_num, by rw [HE0.out rfl], all_succ HA.out (by rw [HK.out]; rfl), Q5⟩
            case measure => simp [intOf]; omega
          have e2 := eq_of_beq h2
          subst e2
          have hb2 : b2 = true := by rw [HL.out]; rfl
          subst hb2
          clear h1 h2
          by_cases hs : y1 < ek
          · go_wp2_with fail
            go_ret
            exact ⟨by rw [HNO.out (by rw [HK.out, decide_eq_false (show ¬ ek ≤ y1 by omega)]; rfl)]; rfl, B5.out⟩
          go_wp2_with fail
          go_roundw
          case rel => exact ⟨k + 1, by omega, by go_num, by rw [HE1.out rfl, mx y1 y2], all_succ HA.out (by rw [HK.out, decide_eq_true (show ek ≤ y1 by omega)]; rfl), Q5⟩
          case measure => simp [intOf]; omega
        · have e2 := eq_of_beq h1
          subst e2
          have hb2 : b2 = true := by rw [HL.out]; rfl
          subst hb2
          clear h1
          by_cases hs : y1 < ek
          · go_wp2_with fail
            go_ret
            exact ⟨by rw [HNO.out (by rw [HK.out, decide_eq_false (show ¬ ek ≤ y1 by omega)]; rfl)]; rfl, B5.out⟩
          go_wp2_with fail
          go_roundw
          case rel => exact ⟨k + 1, by omega, by go_num, by rw [HE1.out rfl, mx y1 y2], all_succ HA.out (by rw [HK.out, decide_eq_true (show ek ≤ y1 by omega)]; rfl), Q5⟩
          case measure => simp [intOf]; omega
      obtain ⟨ix, hkp⟩ : ∃ ix, k = ix + 1 := ⟨k - 1, by omega⟩
      obtain ⟨hpf, hp⟩ := HP.out ix hkp
      have hz2 : (0 : Int) < (k : Int) := by omega
      have j3 : IntKind.i64.wrap ((k : Int) - 1) = (ix : Int) := by rw [IntWalk.i64_in _ (by omega)]; omega
      have i3 : (0 : Int) ≤ (ix : Int) := by omega
      have i4 : (ix : Int) < (n : Int) := by omega
      have hpp : Ch.c1 L ix = pf := hpf.symm
      have pc := (HC.out wy BY.out ix hp).2.1
      rw [hpp] at pc
      have HKP : Hid ((!decide (0 < k) || decide (pf ≤ y1)) = decide (pf ≤ y1)) := (by show _ = _; rw [decide_eq_true hz]; rfl)
      rw [HKP.out] at HK
      clear hkp hpf HKP
      by_cases hlp : y1 < pf
      · (skip)
        refine wp_region_held_drew (S := (fun w' => w'.cell? ⟨w.heap.size, 0, none⟩ = some (.string C) ∧ w'.cell? ⟨w.heap.size, 1, none⟩ = some (.int .i64 I) ∧ w'.cell? ⟨w.heap.size, 2, none⟩ = some (.int .i64 f) ∧ w'.cell? ⟨w.heap.size, 3, none⟩ = some (.int .i64 t) ∧ w'.cell? ⟨w.heap.size, 4, none⟩ = some (.int .i64 d) ∧ w'.cell? ⟨w.heap.size, 5, none⟩ = some (.int .i64 p) ∧ w'.cell? ⟨w.heap.size, 6, none⟩ = some (.int .i64 v) ∧ w'.cell? ⟨w.heap.size, 7, none⟩ = some (.string W) ∧ w'.cell? ⟨w.heap.size, 8, none⟩ = some (.string O) ∧ w'.cell? ⟨w.heap.size, 9, none⟩ = some (.int .i64 b) ∧ w'.cell? ⟨w.heap.size, 10, none⟩ = some (.slice (some ⟨bb, o, none⟩) n sc) ∧ w'.cell? ⟨wr.heap.size, 0, none⟩ = some (.int .i64 y0) ∧ w'.cell? ⟨wr.heap.size, 1, none⟩ = some (.int .i64 y1) ∧ w'.cell? ⟨wr.heap.size, 2, none⟩ = some (.int .i64 y2) ∧ w'.cell? ⟨wr.heap.size, 3, none⟩ = some (.int .i64 y3) ∧ w'.cell? ⟨wr.heap.size, 4, none⟩ = some (.int .i64 y4) ∧ w'.cell? ⟨wr.heap.size, 5, none⟩ = some (.int .i64 y5) ∧ w'.cell? ⟨wr.heap.size, 6, none⟩ = some (.string y6) ∧ w'.cell? ⟨wr.heap.size, 7, none⟩ = some (.string y7) ∧ w'.cell? ⟨wr.heap.size, 8, none⟩ = some (.int .i64 y8) ∧ w'.cell? ⟨bb, o + ix * 9 + 1, none⟩ = some (.int .i64 pf))) (by kernel_rfl) (by (try dsimp only); go_keep) (fun hHeld => ?_)
        refine wpAnyH_take (i := 0) (oi := { dst := some 78, op := Go.Op.load 35 (Go.Operand.tmp 1), type := 35, pos := "l21_aviation.go:114", after := #[], guard := none }) (v := ?_) rfl (by kernel_rfl) (by kernel_rfl) (by kernel_rfl) (fun _ _ _ h => h) (Or.inl ⟨by rfl, ?_⟩) (by assumption) ?_
        rotate_left 1
        · (intro w hSw; (try dsimp only at hSw); go_simp); all_goals (with_reducible rfl)
        try simp only [Act.put, List.setIfInBounds_toArray, List.set_cons_zero, List.set_cons_succ]
        refine wpAnyH_take (i := 1) (oi := { dst := some 79, op := Go.Op.load 47 (Go.Operand.tmp 6), type := 47, pos := "l21_aviation.go:114", after := #[], guard := none }) (v := ?_) rfl (by kernel_rfl) (by kernel_rfl) (by kernel_rfl) (fun _ _ _ h => h) (Or.inl ⟨by rfl, ?_⟩) (by assumption) ?_
        rotate_left 1
        · (intro w hSw; (try dsimp only at hSw); go_simp); all_goals (with_reducible rfl)
        try simp only [Act.put, List.setIfInBounds_toArray, List.set_cons_zero, List.set_cons_succ]
        refine wpAnyH_ready (rs := [2]) (by kernel_rfl) (by simp) ?_
        refine AllReadyH.cons (o := { dst := some 80, op := Go.Op.call { callee := Go.Callee.value (Go.Operand.func 35), args := #[Go.Operand.tmp 78, Go.Operand.tmp 79], argTypes := #[35, 47] }, type := 4, pos := "l21_aviation.go:114", after := #[{ on := 0, ground := Go.Ground.data }, { on := 1, ground := Go.Ground.data }], guard := none }) rfl (fun K hK => ?_) AllReadyH.nil
        go_simp
        (refine (C7.out _).mono ?_; rintro e w1_ ⟨rfl, hb1⟩; have Q5 : Hid (Below wb.heap.size wb w1_) := QYd.out.trans (hb1.mono QYd.out.size); have K5 : Hid (Ch.CB w1_ wr.heap.size y0 y1 y2 y3 y4 y5 y6 y7 y8) := KYd.out.on hb1 KYd.out.lt; obtain ⟨m0, _, _, m1⟩ := CW.out w1_ Q5.out; have B5 : Hid (Below w.heap.size w w1_) := m1; obtain ⟨e0, e1, e2, e3, e4, e5, e6, e7, e8, e9, e10, _⟩ := m0.cells; obtain ⟨g0, g1, g2, g3, g4, g5, g6, g7, g8, _⟩ := K5.out.cells; clear m0 m1; have p1' := (HC.out w1_ B5.out ix hp).2.1; rw [hpp] at p1')
        go_wp2_with fail
        refine hK.out _ _ (by (try dsimp only); go_keep) (fun hHeld2 => ?_)
        clear hK K hHeld
        have hHeld := hHeld2
        clear hHeld2
        try simp only [Act.put, List.setIfInBounds_toArray, List.set_cons_zero, List.set_cons_succ]
        refine wpAnyH_take (i := 3) (oi := { dst := some 81, op := Go.Op.unOp Go.UnOp.not 4 (Go.Operand.tmp 80), type := 4, pos := "l21_aviation.go:114", after := #[{ on := 2, ground := Go.Ground.data }], guard := none }) (v := ?_) rfl (by kernel_rfl) (by kernel_rfl) (by kernel_rfl) (fun _ _ _ h => h) (Or.inl ⟨by rfl, ?_⟩) (by assumption) ?_
        rotate_left 1
        · (intro w hSw; (try dsimp only at hSw); go_simp); all_goals (with_reducible rfl)
        try simp only [Act.put, List.setIfInBounds_toArray, List.set_cons_zero, List.set_cons_succ]
        refine wpAnyH_take (i := 4) (oi := { dst := some 82, op := Go.Op.move (Go.Operand.tmp 81), type := 4, pos := "l21_aviation.go:114", after := #[{ on := 3, ground := Go.Ground.data }, { on := 2, ground := Go.Ground.chain }], guard := none }) (v := ?_) rfl (by kernel_rfl) (by kernel_rfl) (by kernel_rfl) (fun _ _ _ h => h) (Or.inl ⟨by rfl, ?_⟩) (by assumption) ?_
        rotate_left 1
        · (intro w hSw; (try dsimp only at hSw); go_simp); all_goals (with_reducible rfl)
        try simp only [Act.put, List.setIfInBounds_toArray, List.set_cons_zero, List.set_cons_succ]
        refine wpAnyH_take (i := 5) (oi := { dst := some 83, op := Go.Op.move (Go.Operand.tmp 5), type := 3, pos := "l21_aviation.go:114", after := #[{ on := 4, ground := Go.Ground.guard }], guard := some (4, false) }) (v := ?_) rfl (by kernel_rfl) (by kernel_rfl) (by kernel_rfl) (fun _ _ _ h => h) (Or.inl ⟨by rfl, ?_⟩) (by assumption) ?_
        rotate_left 1
        · (intro w hSw; (try dsimp only at hSw); go_simp); all_goals (with_reducible rfl)
        try simp only [Act.put, List.setIfInBounds_toArray, List.set_cons_zero, List.set_cons_succ]
        refine wpAnyH_take (i := 6) (oi := { dst := some 84, op := Go.Op.binOp Go.BinOp.gtr 3 (Go.Operand.tmp 83) (Go.Operand.const (Go.Value.int Go.IntKind.i64 0)) 3, type := 4, pos := "l21_aviation.go:114", after := #[{ on := 5, ground := Go.Ground.data }, { on := 4, ground := Go.Ground.guard }], guard := some (4, false) }) (v := ?_) rfl (by kernel_rfl) (by kernel_rfl) (by kernel_rfl) (fun _ _ _ h => h) (Or.inl ⟨by rfl, ?_⟩) (by assumption) ?_
        rotate_left 1
        · (intro w hSw; (try dsimp only at hSw); go_simp); all_goals (with_reducible rfl)
        try simp only [Act.put, List.setIfInBounds_toArray, List.set_cons_zero, List.set_cons_succ]
        refine wpAnyH_take (i := 7) (oi := { dst := some 85, op := Go.Op.move (Go.Operand.tmp 84), type := 4, pos := "l21_aviation.go:114", after := #[{ on := 6, ground := Go.Ground.data }, { on := 4, ground := Go.Ground.chain }, { on := 4, ground := Go.Ground.guard }], guard := some (4, false) }) (v := ?_) rfl (by kernel_rfl) (by kernel_rfl) (by kernel_rfl) (fun _ _ _ h => h) (Or.inl ⟨by rfl, ?_⟩) (by assumption) ?_
        rotate_left 1
        · (intro w hSw; (try dsimp only at hSw); go_simp); all_goals (with_reducible rfl)
        try simp only [Act.put, List.setIfInBounds_toArray, List.set_cons_zero, List.set_cons_succ]
        refine wpAnyH_take (i := 8) (oi := { dst := some 86, op := Go.Op.fieldAddr 47 (Go.Operand.tmp 6) 1, type := 0, pos := "l21_aviation.go:114", after := #[{ on := 7, ground := Go.Ground.guard }], guard := some (7, true) }) (v := ?_) rfl (by kernel_rfl) (by kernel_rfl) (by kernel_rfl) (fun _ _ _ h => h) (Or.inl ⟨by rfl, ?_⟩) (by assumption) ?_
        rotate_left 1
        · (intro w hSw; (try dsimp only at hSw); go_simp); all_goals (with_reducible rfl)
        try simp only [Act.put, List.setIfInBounds_toArray, List.set_cons_zero, List.set_cons_succ]
        refine wpAnyH_take (i := 9) (oi := { dst := some 87, op := Go.Op.load 2 (Go.Operand.tmp 86), type := 2, pos := "l21_aviation.go:114", after := #[{ on := 8, ground := Go.Ground.data }, { on := 7, ground := Go.Ground.guard }], guard := some (7, true) }) (v := ?_) rfl (by kernel_rfl) (by kernel_rfl) (by kernel_rfl) (fun _ _ _ h => h) (Or.inl ⟨by rfl, ?_⟩) (by assumption) ?_
        rotate_left 1
        · (intro w hSw; (try dsimp only at hSw); go_simp); all_goals (with_reducible rfl)
        try simp only [Act.put, List.setIfInBounds_toArray, List.set_cons_zero, List.set_cons_succ]
        refine wpAnyH_take (i := 10) (oi := { dst := some 88, op := Go.Op.fieldAddr 35 (Go.Operand.tmp 1) 4, type := 0, pos := "l21_aviation.go:114", after := #[{ on := 7, ground := Go.Ground.guard }], guard := some (7, true) }) (v := ?_) rfl (by kernel_rfl) (by kernel_rfl) (by kernel_rfl) (fun _ _ _ h => h) (Or.inl ⟨by rfl, ?_⟩) (by assumption) ?_
        rotate_left 1
        · (intro w hSw; (try dsimp only at hSw); go_simp); all_goals (with_reducible rfl)
        try simp only [Act.put, List.setIfInBounds_toArray, List.set_cons_zero, List.set_cons_succ]
        refine wpAnyH_take (i := 11) (oi := { dst := some 89, op := Go.Op.load 33 (Go.Operand.tmp 88), type := 33, pos := "l21_aviation.go:114", after := #[{ on := 10, ground := Go.Ground.data }, { on := 7, ground := Go.Ground.guard }], guard := some (7, true) }) (v := ?_) rfl (by kernel_rfl) (by kernel_rfl) (by kernel_rfl) (fun _ _ _ h => h) (Or.inl ⟨by rfl, ?_⟩) (by assumption) ?_
        rotate_left 1
        · (intro w hSw; (try dsimp only at hSw); go_simp); all_goals (with_reducible rfl)
        try simp only [Act.put, List.setIfInBounds_toArray, List.set_cons_zero, List.set_cons_succ]
        refine wpAnyH_take (i := 12) (oi := { dst := some 90, op := Go.Op.move (Go.Operand.tmp 5), type := 3, pos := "l21_aviation.go:114", after := #[{ on := 7, ground := Go.Ground.guard }], guard := some (7, true) }) (v := ?_) rfl (by kernel_rfl) (by kernel_rfl) (by kernel_rfl) (fun _ _ _ h => h) (Or.inl ⟨by rfl, ?_⟩) (by assumption) ?_
        rotate_left 1
        · (intro w hSw; (try dsimp only at hSw); go_simp); all_goals (with_reducible rfl)
        try simp only [Act.put, List.setIfInBounds_toArray, List.set_cons_zero, List.set_cons_succ]
        refine wpAnyH_take (i := 13) (oi := { dst := some 91, op := Go.Op.binOp Go.BinOp.sub 3 (Go.Operand.tmp 90) (Go.Operand.const (Go.Value.int Go.IntKind.i64 1)) 3, type := 3, pos := "l21_aviation.go:114", after := #[{ on := 12, ground := Go.Ground.data }, { on := 7, ground := Go.Ground.guard }], guard := some (7, true) }) (v := ?_) rfl (by kernel_rfl) (by kernel_rfl) (by kernel_rfl) (fun _ _ _ h => h) (Or.inl ⟨by rfl, ?_⟩) (by assumption) ?_
        rotate_left 1
        · (intro w hSw; (try dsimp only at hSw); go_simp); all_goals (with_reducible rfl)
        try simp only [Act.put, List.setIfInBounds_toArray, List.set_cons_zero, List.set_cons_succ]
        refine wpAnyH_take (i := 14) (oi := { dst := some 92, op := Go.Op.indexAddr 33 (Go.Operand.tmp 89) (Go.Operand.tmp 91), type := 0, pos := "l21_aviation.go:114", after := #[{ on := 11, ground := Go.Ground.data }, { on := 13, ground := Go.Ground.data }, { on := 7, ground := Go.Ground.guard }], guard := some (7, true) }) (v := ?_) rfl (by kernel_rfl) (by kernel_rfl) (by kernel_rfl) (fun _ _ _ h => h) (Or.inl ⟨by rfl, ?_⟩) (by assumption) ?_
        rotate_left 1
        · (intro w hSw; (try dsimp only at hSw); go_simp); all_goals (with_reducible rfl)
        try simp only [Act.put, List.setIfInBounds_toArray, List.set_cons_zero, List.set_cons_succ]
        refine wpAnyH_take (i := 15) (oi := { dst := some 93, op := Go.Op.fieldAddr 47 (Go.Operand.tmp 92) 1, type := 0, pos := "l21_aviation.go:114", after := #[{ on := 14, ground := Go.Ground.data }, { on := 7, ground := Go.Ground.guard }], guard := some (7, true) }) (v := ?_) rfl (by kernel_rfl) (by kernel_rfl) (by kernel_rfl) (fun _ _ _ h => h) (Or.inl ⟨by rfl, ?_⟩) (by assumption) ?_
        rotate_left 1
        · (intro w hSw; (try dsimp only at hSw); go_simp); all_goals (with_reducible rfl)
        try simp only [Act.put, List.setIfInBounds_toArray, List.set_cons_zero, List.set_cons_succ]
        refine wpAnyH_take (i := 16) (oi := { dst := some 94, op := Go.Op.load 2 (Go.Operand.tmp 93), type := 2, pos := "l21_aviation.go:114", after := #[{ on := 15, ground := Go.Ground.data }, { on := 7, ground := Go.Ground.guard }], guard := some (7, true) }) (v := ?_) rfl (by kernel_rfl) (by kernel_rfl) (by kernel_rfl) (fun _ _ _ h => h) (Or.inl ⟨by rfl, ?_⟩) (by assumption) ?_
        rotate_left 1
        · (intro w hSw; (try dsimp only at hSw); go_simp); all_goals (with_reducible rfl)
        try simp only [Act.put, List.setIfInBounds_toArray, List.set_cons_zero, List.set_cons_succ]
        refine wpAnyH_take (i := 17) (oi := { dst := some 95, op := Go.Op.binOp Go.BinOp.lss 2 (Go.Operand.tmp 87) (Go.Operand.tmp 94) 2, type := 4, pos := "l21_aviation.go:114", after := #[{ on := 9, ground := Go.Ground.data }, { on := 16, ground := Go.Ground.data }, { on := 7, ground := Go.Ground.guard }], guard := some (7, true) }) (v := ?_) rfl (by kernel_rfl) (by kernel_rfl) (by kernel_rfl) (fun _ _ _ h => h) (Or.inl ⟨by rfl, ?_⟩) (by assumption) ?_
        rotate_left 1
        · (intro w hSw; (try dsimp only at hSw); go_simp); all_goals (with_reducible rfl)
        try simp only [Act.put, List.setIfInBounds_toArray, List.set_cons_zero, List.set_cons_succ]
        refine wpAnyH_take (i := 18) (oi := { dst := some 96, op := Go.Op.pick (Go.Operand.tmp 85) (Go.Operand.tmp 95) (Go.Operand.const (Go.Value.bool false)), type := 4, pos := "l21_aviation.go:114", after := #[{ on := 7, ground := Go.Ground.data }, { on := 17, ground := Go.Ground.data }, { on := 4, ground := Go.Ground.guard }], guard := some (4, false) }) (v := ?_) rfl (by kernel_rfl) (by kernel_rfl) (by kernel_rfl) (fun _ _ _ h => h) (Or.inl ⟨by rfl, ?_⟩) (by assumption) ?_
        rotate_left 1
        · (intro w hSw; (try dsimp only at hSw); go_simp); all_goals (with_reducible rfl)
        try simp only [Act.put, List.setIfInBounds_toArray, List.set_cons_zero, List.set_cons_succ]
        refine wpAnyH_take (i := 19) (oi := { dst := some 97, op := Go.Op.pick (Go.Operand.tmp 82) (Go.Operand.const (Go.Value.bool true)) (Go.Operand.tmp 96), type := 4, pos := "l21_aviation.go:114", after := #[{ on := 4, ground := Go.Ground.data }, { on := 18, ground := Go.Ground.data }], guard := none }) (v := ?_) rfl (by kernel_rfl) (by kernel_rfl) (by kernel_rfl) (fun _ _ _ h => h) (Or.inl ⟨by rfl, ?_⟩) (by assumption) ?_
        rotate_left 1
        · (intro w hSw; (try dsimp only at hSw); go_simp); all_goals (with_reducible rfl)
        try simp only [Act.put, List.setIfInBounds_toArray, List.set_cons_zero, List.set_cons_succ]
        refine wpAnyH_done (by kernel_rfl) ?_ _
        go_wp2_with fail
        go_ret
        exact ⟨by rw [HNO.out (by rw [HK.out, decide_eq_false (show ¬ pf ≤ y1 by omega)]; rfl)]; rfl, B5.out⟩
      rw [decide_eq_true (show pf ≤ y1 by omega)] at HK
      refine wp_region_held_drew (S := (fun w' => w'.cell? ⟨w.heap.size, 0, none⟩ = some (.string C) ∧ w'.cell? ⟨w.heap.size, 1, none⟩ = some (.int .i64 I) ∧ w'.cell? ⟨w.heap.size, 2, none⟩ = some (.int .i64 f) ∧ w'.cell? ⟨w.heap.size, 3, none⟩ = some (.int .i64 t) ∧ w'.cell? ⟨w.heap.size, 4, none⟩ = some (.int .i64 d) ∧ w'.cell? ⟨w.heap.size, 5, none⟩ = some (.int .i64 p) ∧ w'.cell? ⟨w.heap.size, 6, none⟩ = some (.int .i64 v) ∧ w'.cell? ⟨w.heap.size, 7, none⟩ = some (.string W) ∧ w'.cell? ⟨w.heap.size, 8, none⟩ = some (.string O) ∧ w'.cell? ⟨w.heap.size, 9, none⟩ = some (.int .i64 b) ∧ w'.cell? ⟨w.heap.size, 10, none⟩ = some (.slice (some ⟨bb, o, none⟩) n sc) ∧ w'.cell? ⟨wr.heap.size, 0, none⟩ = some (.int .i64 y0) ∧ w'.cell? ⟨wr.heap.size, 1, none⟩ = some (.int .i64 y1) ∧ w'.cell? ⟨wr.heap.size, 2, none⟩ = some (.int .i64 y2) ∧ w'.cell? ⟨wr.heap.size, 3, none⟩ = some (.int .i64 y3) ∧ w'.cell? ⟨wr.heap.size, 4, none⟩ = some (.int .i64 y4) ∧ w'.cell? ⟨wr.heap.size, 5, none⟩ = some (.int .i64 y5) ∧ w'.cell? ⟨wr.heap.size, 6, none⟩ = some (.string y6) ∧ w'.cell? ⟨wr.heap.size, 7, none⟩ = some (.string y7) ∧ w'.cell? ⟨wr.heap.size, 8, none⟩ = some (.int .i64 y8) ∧ w'.cell? ⟨bb, o + ix * 9 + 1, none⟩ = some (.int .i64 pf))) (by kernel_rfl) (by (try dsimp only); go_keep) (fun hHeld => ?_)
      refine wpAnyH_take (i := 0) (oi := { dst := some 78, op := Go.Op.load 35 (Go.Operand.tmp 1), type := 35, pos := "l21_aviation.go:114", after := #[], guard := none }) (v := ?_) rfl (by kernel_rfl) (by kernel_rfl) (by kernel_rfl) (fun _ _ _ h => h) (Or.inl ⟨by rfl, ?_⟩) (by assumption) ?_
      rotate_left 1
      · (intro w hSw; (try dsimp only at hSw); go_simp); all_goals (with_reducible rfl)
      try simp only [Act.put, List.setIfInBounds_toArray, List.set_cons_zero, List.set_cons_succ]
      refine wpAnyH_take (i := 1) (oi := { dst := some 79, op := Go.Op.load 47 (Go.Operand.tmp 6), type := 47, pos := "l21_aviation.go:114", after := #[], guard := none }) (v := ?_) rfl (by kernel_rfl) (by kernel_rfl) (by kernel_rfl) (fun _ _ _ h => h) (Or.inl ⟨by rfl, ?_⟩) (by assumption) ?_
      rotate_left 1
      · (intro w hSw; (try dsimp only at hSw); go_simp); all_goals (with_reducible rfl)
      try simp only [Act.put, List.setIfInBounds_toArray, List.set_cons_zero, List.set_cons_succ]
      refine wpAnyH_ready (rs := [2]) (by kernel_rfl) (by simp) ?_
      refine AllReadyH.cons (o := { dst := some 80, op := Go.Op.call { callee := Go.Callee.value (Go.Operand.func 35), args := #[Go.Operand.tmp 78, Go.Operand.tmp 79], argTypes := #[35, 47] }, type := 4, pos := "l21_aviation.go:114", after := #[{ on := 0, ground := Go.Ground.data }, { on := 1, ground := Go.Ground.data }], guard := none }) rfl (fun K hK => ?_) AllReadyH.nil
      go_simp
      (refine (C7.out _).mono ?_; rintro e w1_ ⟨rfl, hb1⟩; have Q5 : Hid (Below wb.heap.size wb w1_) := QYd.out.trans (hb1.mono QYd.out.size); have K5 : Hid (Ch.CB w1_ wr.heap.size y0 y1 y2 y3 y4 y5 y6 y7 y8) := KYd.out.on hb1 KYd.out.lt; obtain ⟨m0, _, _, m1⟩ := CW.out w1_ Q5.out; have B5 : Hid (Below w.heap.size w w1_) := m1; obtain ⟨e0, e1, e2, e3, e4, e5, e6, e7, e8, e9, e10, _⟩ := m0.cells; obtain ⟨g0, g1, g2, g3, g4, g5, g6, g7, g8, _⟩ := K5.out.cells; clear m0 m1; have p1' := (HC.out w1_ B5.out ix hp).2.1; rw [hpp] at p1')
      go_wp2_with fail
      refine hK.out _ _ (by (try dsimp only); go_keep) (fun hHeld2 => ?_)
      clear hK K hHeld
      have hHeld := hHeld2
      clear hHeld2
      try simp only [Act.put, List.setIfInBounds_toArray, List.set_cons_zero, List.set_cons_succ]
      refine wpAnyH_take (i := 3) (oi := { dst := some 81, op := Go.Op.unOp Go.UnOp.not 4 (Go.Operand.tmp 80), type := 4, pos := "l21_aviation.go:114", after := #[{ on := 2, ground := Go.Ground.data }], guard := none }) (v := ?_) rfl (by kernel_rfl) (by kernel_rfl) (by kernel_rfl) (fun _ _ _ h => h) (Or.inl ⟨by rfl, ?_⟩) (by assumption) ?_
      rotate_left 1
      · (intro w hSw; (try dsimp only at hSw); go_simp); all_goals (with_reducible rfl)
      try simp only [Act.put, List.setIfInBounds_toArray, List.set_cons_zero, List.set_cons_succ]
      refine wpAnyH_take (i := 4) (oi := { dst := some 82, op := Go.Op.move (Go.Operand.tmp 81), type := 4, pos := "l21_aviation.go:114", after := #[{ on := 3, ground := Go.Ground.data }, { on := 2, ground := Go.Ground.chain }], guard := none }) (v := ?_) rfl (by kernel_rfl) (by kernel_rfl) (by kernel_rfl) (fun _ _ _ h => h) (Or.inl ⟨by rfl, ?_⟩) (by assumption) ?_
      rotate_left 1
      · (intro w hSw; (try dsimp only at hSw); go_simp); all_goals (with_reducible rfl)
      try simp only [Act.put, List.setIfInBounds_toArray, List.set_cons_zero, List.set_cons_succ]
      refine wpAnyH_take (i := 5) (oi := { dst := some 83, op := Go.Op.move (Go.Operand.tmp 5), type := 3, pos := "l21_aviation.go:114", after := #[{ on := 4, ground := Go.Ground.guard }], guard := some (4, false) }) (v := ?_) rfl (by kernel_rfl) (by kernel_rfl) (by kernel_rfl) (fun _ _ _ h => h) (Or.inl ⟨by rfl, ?_⟩) (by assumption) ?_
      rotate_left 1
      · (intro w hSw; (try dsimp only at hSw); go_simp); all_goals (with_reducible rfl)
      try simp only [Act.put, List.setIfInBounds_toArray, List.set_cons_zero, List.set_cons_succ]
      refine wpAnyH_take (i := 6) (oi := { dst := some 84, op := Go.Op.binOp Go.BinOp.gtr 3 (Go.Operand.tmp 83) (Go.Operand.const (Go.Value.int Go.IntKind.i64 0)) 3, type := 4, pos := "l21_aviation.go:114", after := #[{ on := 5, ground := Go.Ground.data }, { on := 4, ground := Go.Ground.guard }], guard := some (4, false) }) (v := ?_) rfl (by kernel_rfl) (by kernel_rfl) (by kernel_rfl) (fun _ _ _ h => h) (Or.inl ⟨by rfl, ?_⟩) (by assumption) ?_
      rotate_left 1
      · (intro w hSw; (try dsimp only at hSw); go_simp); all_goals (with_reducible rfl)
      try simp only [Act.put, List.setIfInBounds_toArray, List.set_cons_zero, List.set_cons_succ]
      refine wpAnyH_take (i := 7) (oi := { dst := some 85, op := Go.Op.move (Go.Operand.tmp 84), type := 4, pos := "l21_aviation.go:114", after := #[{ on := 6, ground := Go.Ground.data }, { on := 4, ground := Go.Ground.chain }, { on := 4, ground := Go.Ground.guard }], guard := some (4, false) }) (v := ?_) rfl (by kernel_rfl) (by kernel_rfl) (by kernel_rfl) (fun _ _ _ h => h) (Or.inl ⟨by rfl, ?_⟩) (by assumption) ?_
      rotate_left 1
      · (intro w hSw; (try dsimp only at hSw); go_simp); all_goals (with_reducible rfl)
      try simp only [Act.put, List.setIfInBounds_toArray, List.set_cons_zero, List.set_cons_succ]
      refine wpAnyH_take (i := 8) (oi := { dst := some 86, op := Go.Op.fieldAddr 47 (Go.Operand.tmp 6) 1, type := 0, pos := "l21_aviation.go:114", after := #[{ on := 7, ground := Go.Ground.guard }], guard := some (7, true) }) (v := ?_) rfl (by kernel_rfl) (by kernel_rfl) (by kernel_rfl) (fun _ _ _ h => h) (Or.inl ⟨by rfl, ?_⟩) (by assumption) ?_
      rotate_left 1
      · (intro w hSw; (try dsimp only at hSw); go_simp); all_goals (with_reducible rfl)
      try simp only [Act.put, List.setIfInBounds_toArray, List.set_cons_zero, List.set_cons_succ]
      refine wpAnyH_take (i := 9) (oi := { dst := some 87, op := Go.Op.load 2 (Go.Operand.tmp 86), type := 2, pos := "l21_aviation.go:114", after := #[{ on := 8, ground := Go.Ground.data }, { on := 7, ground := Go.Ground.guard }], guard := some (7, true) }) (v := ?_) rfl (by kernel_rfl) (by kernel_rfl) (by kernel_rfl) (fun _ _ _ h => h) (Or.inl ⟨by rfl, ?_⟩) (by assumption) ?_
      rotate_left 1
      · (intro w hSw; (try dsimp only at hSw); go_simp); all_goals (with_reducible rfl)
      try simp only [Act.put, List.setIfInBounds_toArray, List.set_cons_zero, List.set_cons_succ]
      refine wpAnyH_take (i := 10) (oi := { dst := some 88, op := Go.Op.fieldAddr 35 (Go.Operand.tmp 1) 4, type := 0, pos := "l21_aviation.go:114", after := #[{ on := 7, ground := Go.Ground.guard }], guard := some (7, true) }) (v := ?_) rfl (by kernel_rfl) (by kernel_rfl) (by kernel_rfl) (fun _ _ _ h => h) (Or.inl ⟨by rfl, ?_⟩) (by assumption) ?_
      rotate_left 1
      · (intro w hSw; (try dsimp only at hSw); go_simp); all_goals (with_reducible rfl)
      try simp only [Act.put, List.setIfInBounds_toArray, List.set_cons_zero, List.set_cons_succ]
      refine wpAnyH_take (i := 11) (oi := { dst := some 89, op := Go.Op.load 33 (Go.Operand.tmp 88), type := 33, pos := "l21_aviation.go:114", after := #[{ on := 10, ground := Go.Ground.data }, { on := 7, ground := Go.Ground.guard }], guard := some (7, true) }) (v := ?_) rfl (by kernel_rfl) (by kernel_rfl) (by kernel_rfl) (fun _ _ _ h => h) (Or.inl ⟨by rfl, ?_⟩) (by assumption) ?_
      rotate_left 1
      · (intro w hSw; (try dsimp only at hSw); go_simp); all_goals (with_reducible rfl)
      try simp only [Act.put, List.setIfInBounds_toArray, List.set_cons_zero, List.set_cons_succ]
      refine wpAnyH_take (i := 12) (oi := { dst := some 90, op := Go.Op.move (Go.Operand.tmp 5), type := 3, pos := "l21_aviation.go:114", after := #[{ on := 7, ground := Go.Ground.guard }], guard := some (7, true) }) (v := ?_) rfl (by kernel_rfl) (by kernel_rfl) (by kernel_rfl) (fun _ _ _ h => h) (Or.inl ⟨by rfl, ?_⟩) (by assumption) ?_
      rotate_left 1
      · (intro w hSw; (try dsimp only at hSw); go_simp); all_goals (with_reducible rfl)
      try simp only [Act.put, List.setIfInBounds_toArray, List.set_cons_zero, List.set_cons_succ]
      refine wpAnyH_take (i := 13) (oi := { dst := some 91, op := Go.Op.binOp Go.BinOp.sub 3 (Go.Operand.tmp 90) (Go.Operand.const (Go.Value.int Go.IntKind.i64 1)) 3, type := 3, pos := "l21_aviation.go:114", after := #[{ on := 12, ground := Go.Ground.data }, { on := 7, ground := Go.Ground.guard }], guard := some (7, true) }) (v := ?_) rfl (by kernel_rfl) (by kernel_rfl) (by kernel_rfl) (fun _ _ _ h => h) (Or.inl ⟨by rfl, ?_⟩) (by assumption) ?_
      rotate_left 1
      · (intro w hSw; (try dsimp only at hSw); go_simp); all_goals (with_reducible rfl)
      try simp only [Act.put, List.setIfInBounds_toArray, List.set_cons_zero, List.set_cons_succ]
      refine wpAnyH_take (i := 14) (oi := { dst := some 92, op := Go.Op.indexAddr 33 (Go.Operand.tmp 89) (Go.Operand.tmp 91), type := 0, pos := "l21_aviation.go:114", after := #[{ on := 11, ground := Go.Ground.data }, { on := 13, ground := Go.Ground.data }, { on := 7, ground := Go.Ground.guard }], guard := some (7, true) }) (v := ?_) rfl (by kernel_rfl) (by kernel_rfl) (by kernel_rfl) (fun _ _ _ h => h) (Or.inl ⟨by rfl, ?_⟩) (by assumption) ?_
      rotate_left 1
      · (intro w hSw; (try dsimp only at hSw); go_simp); all_goals (with_reducible rfl)
      try simp only [Act.put, List.setIfInBounds_toArray, List.set_cons_zero, List.set_cons_succ]
      refine wpAnyH_take (i := 15) (oi := { dst := some 93, op := Go.Op.fieldAddr 47 (Go.Operand.tmp 92) 1, type := 0, pos := "l21_aviation.go:114", after := #[{ on := 14, ground := Go.Ground.data }, { on := 7, ground := Go.Ground.guard }], guard := some (7, true) }) (v := ?_) rfl (by kernel_rfl) (by kernel_rfl) (by kernel_rfl) (fun _ _ _ h => h) (Or.inl ⟨by rfl, ?_⟩) (by assumption) ?_
      rotate_left 1
      · (intro w hSw; (try dsimp only at hSw); go_simp); all_goals (with_reducible rfl)
      try simp only [Act.put, List.setIfInBounds_toArray, List.set_cons_zero, List.set_cons_succ]
      refine wpAnyH_take (i := 16) (oi := { dst := some 94, op := Go.Op.load 2 (Go.Operand.tmp 93), type := 2, pos := "l21_aviation.go:114", after := #[{ on := 15, ground := Go.Ground.data }, { on := 7, ground := Go.Ground.guard }], guard := some (7, true) }) (v := ?_) rfl (by kernel_rfl) (by kernel_rfl) (by kernel_rfl) (fun _ _ _ h => h) (Or.inl ⟨by rfl, ?_⟩) (by assumption) ?_
      rotate_left 1
      · (intro w hSw; (try dsimp only at hSw); go_simp); all_goals (with_reducible rfl)
      try simp only [Act.put, List.setIfInBounds_toArray, List.set_cons_zero, List.set_cons_succ]
      refine wpAnyH_take (i := 17) (oi := { dst := some 95, op := Go.Op.binOp Go.BinOp.lss 2 (Go.Operand.tmp 87) (Go.Operand.tmp 94) 2, type := 4, pos := "l21_aviation.go:114", after := #[{ on := 9, ground := Go.Ground.data }, { on := 16, ground := Go.Ground.data }, { on := 7, ground := Go.Ground.guard }], guard := some (7, true) }) (v := ?_) rfl (by kernel_rfl) (by kernel_rfl) (by kernel_rfl) (fun _ _ _ h => h) (Or.inl ⟨by rfl, ?_⟩) (by assumption) ?_
      rotate_left 1
      · (intro w hSw; (try dsimp only at hSw); go_simp); all_goals (with_reducible rfl)
      try simp only [Act.put, List.setIfInBounds_toArray, List.set_cons_zero, List.set_cons_succ]
      refine wpAnyH_take (i := 18) (oi := { dst := some 96, op := Go.Op.pick (Go.Operand.tmp 85) (Go.Operand.tmp 95) (Go.Operand.const (Go.Value.bool false)), type := 4, pos := "l21_aviation.go:114", after := #[{ on := 7, ground := Go.Ground.data }, { on := 17, ground := Go.Ground.data }, { on := 4, ground := Go.Ground.guard }], guard := some (4, false) }) (v := ?_) rfl (by kernel_rfl) (by kernel_rfl) (by kernel_rfl) (fun _ _ _ h => h) (Or.inl ⟨by rfl, ?_⟩) (by assumption) ?_
      rotate_left 1
      · (intro w hSw; (try dsimp only at hSw); go_simp); all_goals (with_reducible rfl)
      try simp only [Act.put, List.setIfInBounds_toArray, List.set_cons_zero, List.set_cons_succ]
      refine wpAnyH_take (i := 19) (oi := { dst := some 97, op := Go.Op.pick (Go.Operand.tmp 82) (Go.Operand.const (Go.Value.bool true)) (Go.Operand.tmp 96), type := 4, pos := "l21_aviation.go:114", after := #[{ on := 4, ground := Go.Ground.data }, { on := 18, ground := Go.Ground.data }], guard := none }) (v := ?_) rfl (by kernel_rfl) (by kernel_rfl) (by kernel_rfl) (fun _ _ _ h => h) (Or.inl ⟨by rfl, ?_⟩) (by assumption) ?_
      rotate_left 1
      · (intro w hSw; (try dsimp only at hSw); go_simp); all_goals (with_reducible rfl)
      try simp only [Act.put, List.setIfInBounds_toArray, List.set_cons_zero, List.set_cons_succ]
      refine wpAnyH_done (by kernel_rfl) ?_ _
      clear g0 g1 g2 g3 g4 g5 g6 g7 g8 c0 c1 c2 c3 c4 c5 c6 c7 c8 c9 c10
      cases h1 : (y0 == 1)
      · cases h2 : (y0 == 2)
        · have hb2 : b2 = false := by rw [HL.out, h1, h2]; rfl
          subst hb2
          go_wp2_with fail
          go_roundw
          case rel => exact ⟨k + 1, by omega, by go_num, by rw [HE0.out rfl], all_succ HA.out (by rw [HK.out]; rfl), Q5⟩
          case measure => simp [intOf]; omega
        have e2 := eq_of_beq h2
        subst e2
        have hb2 : b2 = true := by rw [HL.out]; rfl
        subst hb2
        clear h1 h2
        by_cases hs : y1 < ek
        · go_wp2_with fail
          go_ret
          exact ⟨by rw [HNO.out (by rw [HK.out, decide_eq_false (show ¬ ek ≤ y1 by omega)]; rfl)]; rfl, B5.out⟩
        go_wp2_with fail
        go_roundw
        case rel => exact ⟨k + 1, by omega, by go_num, by rw [HE1.out rfl, mx y1 y2], all_succ HA.out (by rw [HK.out, decide_eq_true (show ek ≤ y1 by omega)]; rfl), Q5⟩
        case measure => simp [intOf]; omega
      · have e2 := eq_of_beq h1
        subst e2
        have hb2 : b2 = true := by rw [HL.out]; rfl
        subst hb2
        clear h1
        by_cases hs : y1 < ek
        · go_wp2_with fail
          go_ret
          exact ⟨by rw [HNO.out (by rw [HK.out, decide_eq_false (show ¬ ek ≤ y1 by omega)]; rfl)]; rfl, B5.out⟩
        go_wp2_with fail
        go_roundw
        case rel => exact ⟨k + 1, by omega, by go_num, by rw [HE1.out rfl, mx y1 y2], all_succ HA.out (by rw [HK.out, decide_eq_true (show ek ≤ y1 by omega)]; rfl), Q5⟩
        case measure => simp [intOf]; omega
    · have ek : k = n := by omega
      go_wp2_with fail
      go_ret
      exact ⟨by rw [HQ2.out, oks_yes (fun j hj => HA.out j (by rw [ek, HN.out]; exact hj))]; rfl, BR.out⟩
end Go.Proofs.YtoaabdmbgemkjaaGreatDoor.To
