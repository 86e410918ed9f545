/- ReadHeading in the program: three pieces or four, none of them empty. -/
import Derived.Test.YtepofpmdkphhdaaDoorRhJ
import Derived.Deep.RegionHeld3
namespace Go.Proofs.YtepofpmdkphhdaaDoor.Head
open Go.ChangeShapes Go.WideShapes Go.ChangeAt Go.RowKit Mk Fig
attribute [local go_sem ↓] Go.wp_at_zero Go.wp_at_succ

/-- what lies behind the pieces: the answer's block, still empty, and the heading that is made -/
structure HB (w wx : World) (v0 v1 v2 v3 v4 v5 v6 v7 : Value) : Prop where
  r : wx.cell? ⟨w.heap.size, 0, none⟩ = some (.string em) ∧ wx.cell? ⟨w.heap.size, 1, none⟩ = some (.string em) ∧ wx.cell? ⟨w.heap.size, 2, none⟩ = some (.int .i64 0) ∧ wx.cell? ⟨w.heap.size, 3, none⟩ = some (.string em) ∧ wx.cell? ⟨w.heap.size, 4, none⟩ = some (.int .i64 0) ∧ wx.cell? ⟨w.heap.size, 5, none⟩ = some (.int .i64 0) ∧ wx.cell? ⟨w.heap.size, 6, none⟩ = some (.int .i64 0) ∧ wx.cell? ⟨w.heap.size, 7, none⟩ = some (.string em)
  f : ∀ o, wx.frozen? ⟨w.heap.size, o, none⟩ = false
  h : wx.cell? ⟨w.heap.size + 2, 0, none⟩ = some v0 ∧ wx.cell? ⟨w.heap.size + 2, 1, none⟩ = some v1 ∧ wx.cell? ⟨w.heap.size + 2, 2, none⟩ = some v2 ∧ wx.cell? ⟨w.heap.size + 2, 3, none⟩ = some v3 ∧ wx.cell? ⟨w.heap.size + 2, 4, none⟩ = some v4 ∧ wx.cell? ⟨w.heap.size + 2, 5, none⟩ = some v5 ∧ wx.cell? ⟨w.heap.size + 2, 6, none⟩ = some v6 ∧ wx.cell? ⟨w.heap.size + 2, 7, none⟩ = some v7
  k : ∀ o, wx.frozen? ⟨w.heap.size + 2, o, none⟩ = false
  b : Below w.heap.size w wx
  z : w.heap.size + 2 < wx.heap.size
theorem below_drewN {B : Nat} {a w : World} (h : Below B a w) (n : Nat) : Below B a (w.drewN n) := ⟨h.os, h.tape, h.output, h.size, h.block⟩
theorem HB.next {w w1 w2 : World} {v0 v1 v2 v3 v4 v5 v6 v7 : Value} (h : HB w w1 v0 v1 v2 v3 v4 v5 v6 v7) (hb : Below w1.heap.size w1 w2) : HB w w2 v0 v1 v2 v3 v4 v5 v6 v7 := by
  have z := h.z
  obtain ⟨r0, r1, r2, r3, r4, r5, r6, r7⟩ := h.r
  obtain ⟨h0, h1, h2, h3, h4, h5, h6, h7⟩ := h.h
  obtain ⟨a0, a1, a2, a3, a4, a5, a6, a7, _⟩ := keep8 (g := w.heap.size) hb (by omega) r0 r1 r2 r3 r4 r5 r6 r7
  obtain ⟨b0, b1, b2, b3, b4, b5, b6, b7, _⟩ := keep8 (g := w.heap.size + 2) hb z h0 h1 h2 h3 h4 h5 h6 h7
  exact ⟨⟨a0, a1, a2, a3, a4, a5, a6, a7⟩, fun o => by rw [hb.frozen (p := ⟨w.heap.size, o, none⟩) (by show w.heap.size < _; omega)]; exact h.f o, ⟨b0, b1, b2, b3, b4, b5, b6, b7⟩, fun o => by rw [hb.frozen (p := ⟨w.heap.size + 2, o, none⟩) (by show w.heap.size + 2 < _; omega)]; exact h.k o, h.b.trans (hb.mono h.b.size), Nat.lt_of_lt_of_le z hb.size⟩
theorem ans_right {a b c M K A : ByteArray} {N D H I : Int} (hk : K0 a = K ∧ A0 a = A ∧ N0 a = N) (hc : D0 c = D ∧ H0 c = H ∧ I0 c = I) (h : fl a b c M = 0) : Value.tuple #[hd K A N b D H I M, .int .i64 0] = ansOf a b c M := by
  obtain ⟨rfl, rfl, rfl⟩ := hk
  obtain ⟨rfl, rfl, rfl⟩ := hc
  unfold ansOf
  rw [if_pos h]
theorem ans_wrong {a b c M : ByteArray} (h : fl a b c M ≠ 0) : Value.tuple #[none8, .int .i64 (fl a b c M)] = ansOf a b c M := by
  unfold ansOf
  rw [if_neg h]
  rfl
theorem ifl_any {a b c M K A : ByteArray} {N D H I : Int} (hk : K0 a = K ∧ A0 a = A ∧ N0 a = N) (hc : D0 c = D ∧ H0 c = H ∧ I0 c = I) (w : World) : Calls Tryd.prog 16 #[hd K A N b D H I M] w fun e w' => e = .returned (.int .i64 (fl a b c M)) ∧ Below w.heap.size w w' := by
  obtain ⟨rfl, rfl, rfl⟩ := hk
  obtain ⟨rfl, rfl, rfl⟩ := hc
  refine ifault_any _ _ _ _ _ _ _ _ w ?_ ?_
  · unfold K0
    split
    · rename_i h; rw [ext_size h (by omega)]; omega
    · decide
  · unfold A0
    split
    · rename_i h; rw [ext_size h (by omega)]; omega
    · decide

set_option maxHeartbeats 2000000 in
set_option maxRecDepth 100000 in
theorem iread_full3 (s : ByteArray) (w : World) (P0 P1 P2 : ByteArray) (hs : s.size ≤ 1048576) (hp : pcs s = [P0, P1, P2]) (hz : ¬ Emp (fun j => ([P0, P1, P2] : List ByteArray).getD j em) 3) :
    Calls Tryd.prog 8 #[.string s] w fun e w' => e = .returned (ansOf P0 P1 P2 em) ∧ Below w.heap.size w w' := by
  have SP : Hid (∀ w, Calls Tryd.prog 19 #[.string s, .string ⟨#[32]⟩] w fun e w' => e = .returned (.slice (some ⟨w.heap.size, 0, none⟩) 3 3) ∧ w' = w.alloc (.cells #[.string P0, .string P1, .string P2] 9)) := fun w => by
    have := isplit s w hs
    rw [hp] at this
    exact this
  have WI : Hid (∀ w, Calls Tryd.prog 20 #[.int .i64 3, .int .i64 3, .int .i64 4] w fun e w' => e = .returned (.bool true) ∧ w' = w) := fun w => within_any 3 3 4 w
  have CO : Hid (∀ (w : World) (b : Nat), (∀ j, j < 3 → w.cell? ⟨b, j, none⟩ = some (.string (([P0, P1, P2] : List ByteArray).getD j em))) → Calls Tryd.prog 21 #[.slice (some ⟨b, 0, none⟩) 3 3, .string ⟨#[]⟩] w fun e w' => e = .returned (.bool false) ∧ w' = w) := fun w b hc => contains_any b 3 3 (fun j => ([P0, P1, P2] : List ByteArray).getD j em) w false (by decide) hc ⟨fun h => absurd h (by decide), fun h => absurd h hz⟩
  have JO : Hid (∀ (w : World) (a : Option Addr) (c : Nat), Calls Tryd.prog 17 #[.slice a 0 c] w fun e w' => e = .returned (.string em) ∧ w' = w) := fun w a c => joined_none a c w
  clear hz hp
  go_enter Tryd.func8, Tryd.ntmps8
  go_wp2_with fail
  refine (SP.out _).mono ?_
  rintro e w1 ⟨rfl, hw⟩
  subst hw
  go_wp2_with fail
  refine (WI.out _).mono ?_
  rintro e w2 ⟨rfl, hw⟩
  have hw' := hw.symm
  subst hw'
  clear hw
  go_wp2_with fail
  refine (CO.out _ _ (fun j hj => match j, hj with | 0, _ => by simp [go_sem] | 1, _ => by simp [go_sem] | 2, _ => by simp [go_sem])).mono ?_
  rintro e w2 ⟨rfl, hw⟩
  have hw' := hw.symm
  subst hw'
  clear hw
  go_upto_region 4 with fail
  go_quiet (fail)
  go_upto_region 5 with fail
  go_cut [7] (fun a wx => a = .pointer (some ⟨w.heap.size + 2, 0, none⟩) ∧ Hid (HB w wx (.string em) (.string em) (.int .i64 0) (.string P1) (.int .i64 0) (.int .i64 0) (.int .i64 0) (.string em)))
  case first =>
    go_region_held3 (fun w' => w'.cell? ⟨w.heap.size + 1, 1, none⟩ = some (.string P1)) (go_keep)
      (first
      | (go_at_call 17; refine (JO.out _ _ _).mono ?_; rintro e wz ⟨rfl, hw⟩; have hw' := hw.symm; subst hw'))
    all_goals
      go_wp2_with fail
      go_meet
      refine ⟨rfl, ?_⟩
      exact ⟨by simp [go_sem], fun o => by simp [go_sem], by simp [go_sem], fun o => by simp [go_sem], (below_drewN (((Below.refl _ _).alloc (Nat.le_refl _) _).alloc (by simp) _) _).alloc (by simp; omega) _, by simp⟩
  case rest =>
    obtain ⟨rfl, HX⟩ := hcut
    have FIG : Hid (∀ x : ByteArray, x.size = 2 → ∀ w, Calls Tryd.prog 22 #[.string x] w fun e w' => e = .returned (.int .i64 (fig x)) ∧ w' = w) := fun x h w => ifig x w (by omega)
    clear SP WI CO JO nq
    by_cases h6 : P0.size = 6
    · have e6 : ((P0.size : Int) == 6) = true := by rw [h6]; rfl
      have HK : Hid (K0 P0 = P0.extract 0 2 ∧ A0 P0 = P0.extract 2 4 ∧ N0 P0 = fig (P0.extract 4 6)) := ⟨if_pos h6, if_pos h6, if_pos h6⟩
      have G1 : Hid (∀ w, Calls Tryd.prog 22 #[.string (P0.extract 4 6)] w fun e w' => e = .returned (.int .i64 (fig (P0.extract 4 6))) ∧ w' = w) := FIG.out _ (ext_size h6 (by omega))
      obtain ⟨r0, r1, r2, r3, r4, r5, r6, r7⟩ := HX.out.r
      obtain ⟨h0, h1, h2, h3, h4, h5, h7, h8⟩ := HX.out.h
      have rf := HX.out.f
      have hf := HX.out.k
      have hz := HX.out.z
      go_upto_region 7 with fail
      go_cut [] (fun wx => Hid (HB w wx (.string (P0.extract 0 2)) (.string (P0.extract 2 4)) (.int .i64 (fig (P0.extract 4 6))) (.string P1) (.int .i64 0) (.int .i64 0) (.int .i64 0) (.string em)))
      case first =>
        go_region_held3 (fun _ => True) (trivial)
          (first
          | (go_at_call 22; refine (G1.out _).mono ?_; rintro e wz ⟨rfl, hw⟩; have hw' := hw.symm; subst hw'))
        all_goals
          go_wp2_with fail
          go_meet
          refine ⟨?_, fun o => ?_, ?_, fun o => ?_, ?_, ?_⟩
          · simp [go_sem, r0, r1, r2, r3, r4, r5, r6, r7]
          · simp [go_sem, rf]
          · simp [go_sem, h0, h1, h2, h3, h4, h5, h7, h8]
          · simp [go_sem, hf]
          · exact (((HX.out.b.drew).setCell (by simp) _).setCell (by simp) _).setCell (by simp) _
          · simp; omega
      case rest =>
        have HX' := hcut
        clear r0 r1 r2 r3 r4 r5 r6 r7 h0 h1 h2 h3 h4 h5 h7 h8 rf hf hz HX hcut
        have HX : Hid (HB w wc (.string (P0.extract 0 2)) (.string (P0.extract 2 4)) (.int .i64 (fig (P0.extract 4 6))) (.string P1) (.int .i64 0) (.int .i64 0) (.int .i64 0) (.string em)) := HX'
        clear HX'
        obtain ⟨r0, r1, r2, r3, r4, r5, r6, r7⟩ := HX.out.r
        obtain ⟨h0, h1, h2, h3, h4, h5, h7, h8⟩ := HX.out.h
        have rf := HX.out.f
        have hf := HX.out.k
        have hz := HX.out.z
        by_cases g6 : P2.size = 6
        · have e62 : ((P2.size : Int) == 6) = true := by rw [g6]; rfl
          have HC : Hid (D0 P2 = fig (P2.extract 0 2) ∧ H0 P2 = fig (P2.extract 2 4) ∧ I0 P2 = fig (P2.extract 4 6)) := ⟨if_pos g6, if_pos g6, if_pos g6⟩
          have G1 : Hid (∀ w, Calls Tryd.prog 22 #[.string (P2.extract 0 2)] w fun e w' => e = .returned (.int .i64 (fig (P2.extract 0 2))) ∧ w' = w) := FIG.out _ (ext_size g6 (by omega))
          have G2 : Hid (∀ w, Calls Tryd.prog 22 #[.string (P2.extract 2 4)] w fun e w' => e = .returned (.int .i64 (fig (P2.extract 2 4))) ∧ w' = w) := FIG.out _ (ext_size g6 (by omega))
          have G3 : Hid (∀ w, Calls Tryd.prog 22 #[.string (P2.extract 4 6)] w fun e w' => e = .returned (.int .i64 (fig (P2.extract 4 6))) ∧ w' = w) := FIG.out _ (ext_size g6 (by omega))
          go_upto_region 9 with fail
          go_cut [] (fun wx => Hid (HB w wx (.string (P0.extract 0 2)) (.string (P0.extract 2 4)) (.int .i64 (fig (P0.extract 4 6))) (.string P1) (.int .i64 (fig (P2.extract 0 2))) (.int .i64 (fig (P2.extract 2 4))) (.int .i64 (fig (P2.extract 4 6))) (.string em)))
          case first =>
            go_region_held3 (fun _ => True) (trivial)
              (first
              | (go_at_call_of 22 (Value.string (P2.extract 0 2)); refine (G1.out _).mono ?_; rintro e wz ⟨rfl, hw⟩; have hw' := hw.symm; subst hw')
              | (go_at_call_of 22 (Value.string (P2.extract 2 4)); refine (G2.out _).mono ?_; rintro e wz ⟨rfl, hw⟩; have hw' := hw.symm; subst hw')
              | (go_at_call_of 22 (Value.string (P2.extract 4 6)); refine (G3.out _).mono ?_; rintro e wz ⟨rfl, hw⟩; have hw' := hw.symm; subst hw'))
            all_goals
              go_wp2_with fail
              go_meet
              refine ⟨?_, fun o => ?_, ?_, fun o => ?_, ?_, ?_⟩
              · simp [go_sem, r0, r1, r2, r3, r4, r5, r6, r7]
              · simp [go_sem, rf]
              · simp [go_sem, h0, h1, h2, h3, h4, h5, h7, h8]
              · simp [go_sem, hf]
              · exact (((HX.out.b.drew).setCell (by simp) _).setCell (by simp) _).setCell (by simp) _
              · simp; omega
          case rest =>
            have HX' := hcut
            clear r0 r1 r2 r3 r4 r5 r6 r7 h0 h1 h2 h3 h4 h5 h7 h8 rf hf hz HX hcut
            have HX : Hid (HB w wc (.string (P0.extract 0 2)) (.string (P0.extract 2 4)) (.int .i64 (fig (P0.extract 4 6))) (.string P1) (.int .i64 (fig (P2.extract 0 2))) (.int .i64 (fig (P2.extract 2 4))) (.int .i64 (fig (P2.extract 4 6))) (.string em)) := HX'
            clear HX'
            obtain ⟨r0, r1, r2, r3, r4, r5, r6, r7⟩ := HX.out.r
            obtain ⟨h0, h1, h2, h3, h4, h5, h7, h8⟩ := HX.out.h
            have rf := HX.out.f
            have hf := HX.out.k
            have hz := HX.out.z
            have IF : Hid (∀ w, Calls Tryd.prog 16 #[hd (P0.extract 0 2) (P0.extract 2 4) (fig (P0.extract 4 6)) P1 (fig (P2.extract 0 2)) (fig (P2.extract 2 4)) (fig (P2.extract 4 6)) em] w fun e w' => e = .returned (.int .i64 (fl P0 P1 P2 em)) ∧ Below w.heap.size w w') := fun w => ifl_any HK.out HC.out w
            have AR : Hid (fl P0 P1 P2 em = 0 → Value.tuple #[hd (P0.extract 0 2) (P0.extract 2 4) (fig (P0.extract 4 6)) P1 (fig (P2.extract 0 2)) (fig (P2.extract 2 4)) (fig (P2.extract 4 6)) em, .int .i64 0] = ansOf P0 P1 P2 em) := fun h => ans_right HK.out HC.out h
            have AW : Hid (fl P0 P1 P2 em ≠ 0 → Value.tuple #[none8, .int .i64 (fl P0 P1 P2 em)] = ansOf P0 P1 P2 em) := fun h => ans_wrong h
            generalize fl P0 P1 P2 em = f at *
            go_wp2_with fail
            refine (IF.out _).mono ?_
            rintro e w2 ⟨rfl, hb2⟩
            have H2 := HX.out.next hb2
            clear r0 r1 r2 r3 r4 r5 r6 r7 h0 h1 h2 h3 h4 h5 h7 h8 rf hf hz hb2 HX
            have HX : Hid (HB w w2 (.string (P0.extract 0 2)) (.string (P0.extract 2 4)) (.int .i64 (fig (P0.extract 4 6))) (.string P1) (.int .i64 (fig (P2.extract 0 2))) (.int .i64 (fig (P2.extract 2 4))) (.int .i64 (fig (P2.extract 4 6))) (.string em)) := H2
            clear H2
            obtain ⟨r0, r1, r2, r3, r4, r5, r6, r7⟩ := HX.out.r
            obtain ⟨h0, h1, h2, h3, h4, h5, h7, h8⟩ := HX.out.h
            have rf := HX.out.f
            have hf := HX.out.k
            have hz := HX.out.z
            by_cases ff : f = 0
            · have ff' : (f != 0) = false := by rw [ff]; rfl
              have AN' : Hid (Value.tuple #[hd (P0.extract 0 2) (P0.extract 2 4) (fig (P0.extract 4 6)) P1 (fig (P2.extract 0 2)) (fig (P2.extract 2 4)) (fig (P2.extract 4 6)) em, .int .i64 0] = ansOf P0 P1 P2 em) := AR.out ff
              clear ff AR AW
              go_wp2_with fail
              exact bodyPost_ret (v := .tuple #[hd (P0.extract 0 2) (P0.extract 2 4) (fig (P0.extract 4 6)) P1 (fig (P2.extract 0 2)) (fig (P2.extract 2 4)) (fig (P2.extract 4 6)) em, .int .i64 0]) (by simp [results, Tryd.results8, go_sem, r0, r1, r2, r3, r4, r5, r6, r7]) rfl ⟨congrArg Ending.returned AN'.out, set8 HX.out.b w.heap.size (Nat.le_refl _) _ _ _ _ _ _ _ _⟩
            · have ff' : (f != 0) = true := by simpa using ff
              have AN' : Hid (Value.tuple #[none8, .int .i64 f] = ansOf P0 P1 P2 em) := AW.out ff
              clear ff AR AW
              go_wp2_with fail
              exact bodyPost_ret (v := .tuple #[none8, .int .i64 f]) (by simp [results, Tryd.results8, go_sem, r0, r1, r2, r3, r4, r5, r6, r7]) rfl ⟨congrArg Ending.returned AN'.out, set8 HX.out.b w.heap.size (Nat.le_refl _) _ _ _ _ _ _ _ _⟩
        · have e62 : ((P2.size : Int) == 6) = false := by rw [beq_eq_false_iff_ne]; omega
          have HC : Hid (D0 P2 = 0 ∧ H0 P2 = 0 ∧ I0 P2 = 0) := ⟨if_neg g6, if_neg g6, if_neg g6⟩
          have IF : Hid (∀ w, Calls Tryd.prog 16 #[hd (P0.extract 0 2) (P0.extract 2 4) (fig (P0.extract 4 6)) P1 0 0 0 em] w fun e w' => e = .returned (.int .i64 (fl P0 P1 P2 em)) ∧ Below w.heap.size w w') := fun w => ifl_any HK.out HC.out w
          have AR : Hid (fl P0 P1 P2 em = 0 → Value.tuple #[hd (P0.extract 0 2) (P0.extract 2 4) (fig (P0.extract 4 6)) P1 0 0 0 em, .int .i64 0] = ansOf P0 P1 P2 em) := fun h => ans_right HK.out HC.out h
          have AW : Hid (fl P0 P1 P2 em ≠ 0 → Value.tuple #[none8, .int .i64 (fl P0 P1 P2 em)] = ansOf P0 P1 P2 em) := fun h => ans_wrong h
          generalize fl P0 P1 P2 em = f at *
          go_wp2_with fail
          refine (IF.out _).mono ?_
          rintro e w2 ⟨rfl, hb2⟩
          have H2 := HX.out.next hb2
          clear r0 r1 r2 r3 r4 r5 r6 r7 h0 h1 h2 h3 h4 h5 h7 h8 rf hf hz hb2 HX
          have HX : Hid (HB w w2 (.string (P0.extract 0 2)) (.string (P0.extract 2 4)) (.int .i64 (fig (P0.extract 4 6))) (.string P1) (.int .i64 0) (.int .i64 0) (.int .i64 0) (.string em)) := H2
          clear H2
          obtain ⟨r0, r1, r2, r3, r4, r5, r6, r7⟩ := HX.out.r
          obtain ⟨h0, h1, h2, h3, h4, h5, h7, h8⟩ := HX.out.h
          have rf := HX.out.f
          have hf := HX.out.k
          have hz := HX.out.z
          by_cases ff : f = 0
          · have ff' : (f != 0) = false := by rw [ff]; rfl
            have AN' : Hid (Value.tuple #[hd (P0.extract 0 2) (P0.extract 2 4) (fig (P0.extract 4 6)) P1 0 0 0 em, .int .i64 0] = ansOf P0 P1 P2 em) := AR.out ff
            clear ff AR AW
            go_wp2_with fail
            exact bodyPost_ret (v := .tuple #[hd (P0.extract 0 2) (P0.extract 2 4) (fig (P0.extract 4 6)) P1 0 0 0 em, .int .i64 0]) (by simp [results, Tryd.results8, go_sem, r0, r1, r2, r3, r4, r5, r6, r7]) rfl ⟨congrArg Ending.returned AN'.out, set8 HX.out.b w.heap.size (Nat.le_refl _) _ _ _ _ _ _ _ _⟩
          · have ff' : (f != 0) = true := by simpa using ff
            have AN' : Hid (Value.tuple #[none8, .int .i64 f] = ansOf P0 P1 P2 em) := AW.out ff
            clear ff AR AW
            go_wp2_with fail
            exact bodyPost_ret (v := .tuple #[none8, .int .i64 f]) (by simp [results, Tryd.results8, go_sem, r0, r1, r2, r3, r4, r5, r6, r7]) rfl ⟨congrArg Ending.returned AN'.out, set8 HX.out.b w.heap.size (Nat.le_refl _) _ _ _ _ _ _ _ _⟩
    · have e6 : ((P0.size : Int) == 6) = false := by rw [beq_eq_false_iff_ne]; omega
      have HK : Hid (K0 P0 = em ∧ A0 P0 = em ∧ N0 P0 = 0) := ⟨if_neg h6, if_neg h6, if_neg h6⟩
      obtain ⟨r0, r1, r2, r3, r4, r5, r6, r7⟩ := HX.out.r
      obtain ⟨h0, h1, h2, h3, h4, h5, h7, h8⟩ := HX.out.h
      have rf := HX.out.f
      have hf := HX.out.k
      have hz := HX.out.z
      by_cases g6 : P2.size = 6
      · have e62 : ((P2.size : Int) == 6) = true := by rw [g6]; rfl
        have HC : Hid (D0 P2 = fig (P2.extract 0 2) ∧ H0 P2 = fig (P2.extract 2 4) ∧ I0 P2 = fig (P2.extract 4 6)) := ⟨if_pos g6, if_pos g6, if_pos g6⟩
        have G1 : Hid (∀ w, Calls Tryd.prog 22 #[.string (P2.extract 0 2)] w fun e w' => e = .returned (.int .i64 (fig (P2.extract 0 2))) ∧ w' = w) := FIG.out _ (ext_size g6 (by omega))
        have G2 : Hid (∀ w, Calls Tryd.prog 22 #[.string (P2.extract 2 4)] w fun e w' => e = .returned (.int .i64 (fig (P2.extract 2 4))) ∧ w' = w) := FIG.out _ (ext_size g6 (by omega))
        have G3 : Hid (∀ w, Calls Tryd.prog 22 #[.string (P2.extract 4 6)] w fun e w' => e = .returned (.int .i64 (fig (P2.extract 4 6))) ∧ w' = w) := FIG.out _ (ext_size g6 (by omega))
        go_upto_region 9 with fail
        go_cut [] (fun wx => Hid (HB w wx (.string em) (.string em) (.int .i64 0) (.string P1) (.int .i64 (fig (P2.extract 0 2))) (.int .i64 (fig (P2.extract 2 4))) (.int .i64 (fig (P2.extract 4 6))) (.string em)))
        case first =>
          go_region_held3 (fun _ => True) (trivial)
            (first
            | (go_at_call_of 22 (Value.string (P2.extract 0 2)); refine (G1.out _).mono ?_; rintro e wz ⟨rfl, hw⟩; have hw' := hw.symm; subst hw')
            | (go_at_call_of 22 (Value.string (P2.extract 2 4)); refine (G2.out _).mono ?_; rintro e wz ⟨rfl, hw⟩; have hw' := hw.symm; subst hw')
            | (go_at_call_of 22 (Value.string (P2.extract 4 6)); refine (G3.out _).mono ?_; rintro e wz ⟨rfl, hw⟩; have hw' := hw.symm; subst hw'))
          all_goals
            go_wp2_with fail
            go_meet
            refine ⟨?_, fun o => ?_, ?_, fun o => ?_, ?_, ?_⟩
            · simp [go_sem, r0, r1, r2, r3, r4, r5, r6, r7]
            · simp [go_sem, rf]
            · simp [go_sem, h0, h1, h2, h3, h4, h5, h7, h8]
            · simp [go_sem, hf]
            · exact (((HX.out.b.drew).setCell (by simp) _).setCell (by simp) _).setCell (by simp) _
            · simp; omega
        case rest =>
          have HX' := hcut
          clear r0 r1 r2 r3 r4 r5 r6 r7 h0 h1 h2 h3 h4 h5 h7 h8 rf hf hz HX hcut
          have HX : Hid (HB w wc (.string em) (.string em) (.int .i64 0) (.string P1) (.int .i64 (fig (P2.extract 0 2))) (.int .i64 (fig (P2.extract 2 4))) (.int .i64 (fig (P2.extract 4 6))) (.string em)) := HX'
          clear HX'
          obtain ⟨r0, r1, r2, r3, r4, r5, r6, r7⟩ := HX.out.r
          obtain ⟨h0, h1, h2, h3, h4, h5, h7, h8⟩ := HX.out.h
          have rf := HX.out.f
          have hf := HX.out.k
          have hz := HX.out.z
          have IF : Hid (∀ w, Calls Tryd.prog 16 #[hd em em 0 P1 (fig (P2.extract 0 2)) (fig (P2.extract 2 4)) (fig (P2.extract 4 6)) em] w fun e w' => e = .returned (.int .i64 (fl P0 P1 P2 em)) ∧ Below w.heap.size w w') := fun w => ifl_any HK.out HC.out w
          have AR : Hid (fl P0 P1 P2 em = 0 → Value.tuple #[hd em em 0 P1 (fig (P2.extract 0 2)) (fig (P2.extract 2 4)) (fig (P2.extract 4 6)) em, .int .i64 0] = ansOf P0 P1 P2 em) := fun h => ans_right HK.out HC.out h
          have AW : Hid (fl P0 P1 P2 em ≠ 0 → Value.tuple #[none8, .int .i64 (fl P0 P1 P2 em)] = ansOf P0 P1 P2 em) := fun h => ans_wrong h
          generalize fl P0 P1 P2 em = f at *
          go_wp2_with fail
          refine (IF.out _).mono ?_
          rintro e w2 ⟨rfl, hb2⟩
          have H2 := HX.out.next hb2
          clear r0 r1 r2 r3 r4 r5 r6 r7 h0 h1 h2 h3 h4 h5 h7 h8 rf hf hz hb2 HX
          have HX : Hid (HB w w2 (.string em) (.string em) (.int .i64 0) (.string P1) (.int .i64 (fig (P2.extract 0 2))) (.int .i64 (fig (P2.extract 2 4))) (.int .i64 (fig (P2.extract 4 6))) (.string em)) := H2
          clear H2
          obtain ⟨r0, r1, r2, r3, r4, r5, r6, r7⟩ := HX.out.r
          obtain ⟨h0, h1, h2, h3, h4, h5, h7, h8⟩ := HX.out.h
          have rf := HX.out.f
          have hf := HX.out.k
          have hz := HX.out.z
          by_cases ff : f = 0
          · have ff' : (f != 0) = false := by rw [ff]; rfl
            have AN' : Hid (Value.tuple #[hd em em 0 P1 (fig (P2.extract 0 2)) (fig (P2.extract 2 4)) (fig (P2.extract 4 6)) em, .int .i64 0] = ansOf P0 P1 P2 em) := AR.out ff
            clear ff AR AW
            go_wp2_with fail
            exact bodyPost_ret (v := .tuple #[hd em em 0 P1 (fig (P2.extract 0 2)) (fig (P2.extract 2 4)) (fig (P2.extract 4 6)) em, .int .i64 0]) (by simp [results, Tryd.results8, go_sem, r0, r1, r2, r3, r4, r5, r6, r7]) rfl ⟨congrArg Ending.returned AN'.out, set8 HX.out.b w.heap.size (Nat.le_refl _) _ _ _ _ _ _ _ _⟩
          · have ff' : (f != 0) = true := by simpa using ff
            have AN' : Hid (Value.tuple #[none8, .int .i64 f] = ansOf P0 P1 P2 em) := AW.out ff
            clear ff AR AW
            go_wp2_with fail
            exact bodyPost_ret (v := .tuple #[none8, .int .i64 f]) (by simp [results, Tryd.results8, go_sem, r0, r1, r2, r3, r4, r5, r6, r7]) rfl ⟨congrArg Ending.returned AN'.out, set8 HX.out.b w.heap.size (Nat.le_refl _) _ _ _ _ _ _ _ _⟩
      · have e62 : ((P2.size : Int) == 6) = false := by rw [beq_eq_false_iff_ne]; omega
        have HC : Hid (D0 P2 = 0 ∧ H0 P2 = 0 ∧ I0 P2 = 0) := ⟨if_neg g6, if_neg g6, if_neg g6⟩
        have IF : Hid (∀ w, Calls Tryd.prog 16 #[hd em em 0 P1 0 0 0 em] w fun e w' => e = .returned (.int .i64 (fl P0 P1 P2 em)) ∧ Below w.heap.size w w') := fun w => ifl_any HK.out HC.out w
        have AR : Hid (fl P0 P1 P2 em = 0 → Value.tuple #[hd em em 0 P1 0 0 0 em, .int .i64 0] = ansOf P0 P1 P2 em) := fun h => ans_right HK.out HC.out h
        have AW : Hid (fl P0 P1 P2 em ≠ 0 → Value.tuple #[none8, .int .i64 (fl P0 P1 P2 em)] = ansOf P0 P1 P2 em) := fun h => ans_wrong h
        generalize fl P0 P1 P2 em = f at *
        go_wp2_with fail
        refine (IF.out _).mono ?_
        rintro e w2 ⟨rfl, hb2⟩
        have H2 := HX.out.next hb2
        clear r0 r1 r2 r3 r4 r5 r6 r7 h0 h1 h2 h3 h4 h5 h7 h8 rf hf hz hb2 HX
        have HX : Hid (HB w w2 (.string em) (.string em) (.int .i64 0) (.string P1) (.int .i64 0) (.int .i64 0) (.int .i64 0) (.string em)) := H2
        clear H2
        obtain ⟨r0, r1, r2, r3, r4, r5, r6, r7⟩ := HX.out.r
        obtain ⟨h0, h1, h2, h3, h4, h5, h7, h8⟩ := HX.out.h
        have rf := HX.out.f
        have hf := HX.out.k
        have hz := HX.out.z
        by_cases ff : f = 0
        · have ff' : (f != 0) = false := by rw [ff]; rfl
          have AN' : Hid (Value.tuple #[hd em em 0 P1 0 0 0 em, .int .i64 0] = ansOf P0 P1 P2 em) := AR.out ff
          clear ff AR AW
          go_wp2_with fail
          exact bodyPost_ret (v := .tuple #[hd em em 0 P1 0 0 0 em, .int .i64 0]) (by simp [results, Tryd.results8, go_sem, r0, r1, r2, r3, r4, r5, r6, r7]) rfl ⟨congrArg Ending.returned AN'.out, set8 HX.out.b w.heap.size (Nat.le_refl _) _ _ _ _ _ _ _ _⟩
        · have ff' : (f != 0) = true := by simpa using ff
          have AN' : Hid (Value.tuple #[none8, .int .i64 f] = ansOf P0 P1 P2 em) := AW.out ff
          clear ff AR AW
          go_wp2_with fail
          exact bodyPost_ret (v := .tuple #[none8, .int .i64 f]) (by simp [results, Tryd.results8, go_sem, r0, r1, r2, r3, r4, r5, r6, r7]) rfl ⟨congrArg Ending.returned AN'.out, set8 HX.out.b w.heap.size (Nat.le_refl _) _ _ _ _ _ _ _ _⟩

set_option maxHeartbeats 2000000 in
set_option maxRecDepth 100000 in
theorem iread_full4 (s : ByteArray) (w : World) (P0 P1 P2 P3 : ByteArray) (hs : s.size ≤ 1048576) (hp : pcs s = [P0, P1, P2, P3]) (hz : ¬ Emp (fun j => ([P0, P1, P2, P3] : List ByteArray).getD j em) 4) :
    Calls Tryd.prog 8 #[.string s] w fun e w' => e = .returned (ansOf P0 P1 P2 P3) ∧ Below w.heap.size w w' := by
  have SP : Hid (∀ w, Calls Tryd.prog 19 #[.string s, .string ⟨#[32]⟩] w fun e w' => e = .returned (.slice (some ⟨w.heap.size, 0, none⟩) 4 4) ∧ w' = w.alloc (.cells #[.string P0, .string P1, .string P2, .string P3] 9)) := fun w => by
    have := isplit s w hs
    rw [hp] at this
    exact this
  have WI : Hid (∀ w, Calls Tryd.prog 20 #[.int .i64 4, .int .i64 3, .int .i64 4] w fun e w' => e = .returned (.bool true) ∧ w' = w) := fun w => within_any 4 3 4 w
  have CO : Hid (∀ (w : World) (b : Nat), (∀ j, j < 4 → w.cell? ⟨b, j, none⟩ = some (.string (([P0, P1, P2, P3] : List ByteArray).getD j em))) → Calls Tryd.prog 21 #[.slice (some ⟨b, 0, none⟩) 4 4, .string ⟨#[]⟩] w fun e w' => e = .returned (.bool false) ∧ w' = w) := fun w b hc => contains_any b 4 4 (fun j => ([P0, P1, P2, P3] : List ByteArray).getD j em) w false (by decide) hc ⟨fun h => absurd h (by decide), fun h => absurd h hz⟩
  have JO : Hid (∀ (w : World) (b : Nat), w.cell? ⟨b, 3, none⟩ = some (.string P3) → Calls Tryd.prog 17 #[.slice (some ⟨b, 3, none⟩) 1 1] w fun e w' => e = .returned (.string P3) ∧ w' = w) := fun w b h => joined_one b 3 1 P3 w h
  clear hz hp
  go_enter Tryd.func8, Tryd.ntmps8
  go_wp2_with fail
  refine (SP.out _).mono ?_
  rintro e w1 ⟨rfl, hw⟩
  subst hw
  go_wp2_with fail
  refine (WI.out _).mono ?_
  rintro e w2 ⟨rfl, hw⟩
  have hw' := hw.symm
  subst hw'
  clear hw
  go_wp2_with fail
  refine (CO.out _ _ (fun j hj => match j, hj with | 0, _ => by simp [go_sem] | 1, _ => by simp [go_sem] | 2, _ => by simp [go_sem] | 3, _ => by simp [go_sem])).mono ?_
  rintro e w2 ⟨rfl, hw⟩
  have hw' := hw.symm
  subst hw'
  clear hw
  go_upto_region 4 with fail
  go_quiet (fail)
  go_upto_region 5 with fail
  go_cut [7] (fun a wx => a = .pointer (some ⟨w.heap.size + 2, 0, none⟩) ∧ Hid (HB w wx (.string em) (.string em) (.int .i64 0) (.string P1) (.int .i64 0) (.int .i64 0) (.int .i64 0) (.string P3)))
  case first =>
    go_region_held3 (fun w' => w'.cell? ⟨w.heap.size + 1, 1, none⟩ = some (.string P1) ∧ w'.cell? ⟨w.heap.size + 1, 3, none⟩ = some (.string P3)) (go_keep)
      (first
      | (go_at_call 17; refine (JO.out _ _ (by go_simp)).mono ?_; rintro e wz ⟨rfl, hw⟩; have hw' := hw.symm; subst hw'))
    all_goals
      go_wp2_with fail
      go_meet
      refine ⟨rfl, ?_⟩
      exact ⟨by simp [go_sem], fun o => by simp [go_sem], by simp [go_sem], fun o => by simp [go_sem], (below_drewN (((Below.refl _ _).alloc (Nat.le_refl _) _).alloc (by simp) _) _).alloc (by simp; omega) _, by simp⟩
  case rest =>
    obtain ⟨rfl, HX⟩ := hcut
    have FIG : Hid (∀ x : ByteArray, x.size = 2 → ∀ w, Calls Tryd.prog 22 #[.string x] w fun e w' => e = .returned (.int .i64 (fig x)) ∧ w' = w) := fun x h w => ifig x w (by omega)
    clear SP WI CO JO nq
    by_cases h6 : P0.size = 6
    · have e6 : ((P0.size : Int) == 6) = true := by rw [h6]; rfl
      have HK : Hid (K0 P0 = P0.extract 0 2 ∧ A0 P0 = P0.extract 2 4 ∧ N0 P0 = fig (P0.extract 4 6)) := ⟨if_pos h6, if_pos h6, if_pos h6⟩
      have G1 : Hid (∀ w, Calls Tryd.prog 22 #[.string (P0.extract 4 6)] w fun e w' => e = .returned (.int .i64 (fig (P0.extract 4 6))) ∧ w' = w) := FIG.out _ (ext_size h6 (by omega))
      obtain ⟨r0, r1, r2, r3, r4, r5, r6, r7⟩ := HX.out.r
      obtain ⟨h0, h1, h2, h3, h4, h5, h7, h8⟩ := HX.out.h
      have rf := HX.out.f
      have hf := HX.out.k
      have hz := HX.out.z
      go_upto_region 7 with fail
      go_cut [] (fun wx => Hid (HB w wx (.string (P0.extract 0 2)) (.string (P0.extract 2 4)) (.int .i64 (fig (P0.extract 4 6))) (.string P1) (.int .i64 0) (.int .i64 0) (.int .i64 0) (.string P3)))
      case first =>
        go_region_held3 (fun _ => True) (trivial)
          (first
          | (go_at_call 22; refine (G1.out _).mono ?_; rintro e wz ⟨rfl, hw⟩; have hw' := hw.symm; subst hw'))
        all_goals
          go_wp2_with fail
          go_meet
          refine ⟨?_, fun o => ?_, ?_, fun o => ?_, ?_, ?_⟩
          · simp [go_sem, r0, r1, r2, r3, r4, r5, r6, r7]
          · simp [go_sem, rf]
          · simp [go_sem, h0, h1, h2, h3, h4, h5, h7, h8]
          · simp [go_sem, hf]
          · exact (((HX.out.b.drew).setCell (by simp) _).setCell (by simp) _).setCell (by simp) _
          · simp; omega
      case rest =>
        have HX' := hcut
        clear r0 r1 r2 r3 r4 r5 r6 r7 h0 h1 h2 h3 h4 h5 h7 h8 rf hf hz HX hcut
        have HX : Hid (HB w wc (.string (P0.extract 0 2)) (.string (P0.extract 2 4)) (.int .i64 (fig (P0.extract 4 6))) (.string P1) (.int .i64 0) (.int .i64 0) (.int .i64 0) (.string P3)) := HX'
        clear HX'
        obtain ⟨r0, r1, r2, r3, r4, r5, r6, r7⟩ := HX.out.r
        obtain ⟨h0, h1, h2, h3, h4, h5, h7, h8⟩ := HX.out.h
        have rf := HX.out.f
        have hf := HX.out.k
        have hz := HX.out.z
        by_cases g6 : P2.size = 6
        · have e62 : ((P2.size : Int) == 6) = true := by rw [g6]; rfl
          have HC : Hid (D0 P2 = fig (P2.extract 0 2) ∧ H0 P2 = fig (P2.extract 2 4) ∧ I0 P2 = fig (P2.extract 4 6)) := ⟨if_pos g6, if_pos g6, if_pos g6⟩
          have G1 : Hid (∀ w, Calls Tryd.prog 22 #[.string (P2.extract 0 2)] w fun e w' => e = .returned (.int .i64 (fig (P2.extract 0 2))) ∧ w' = w) := FIG.out _ (ext_size g6 (by omega))
          have G2 : Hid (∀ w, Calls Tryd.prog 22 #[.string (P2.extract 2 4)] w fun e w' => e = .returned (.int .i64 (fig (P2.extract 2 4))) ∧ w' = w) := FIG.out _ (ext_size g6 (by omega))
          have G3 : Hid (∀ w, Calls Tryd.prog 22 #[.string (P2.extract 4 6)] w fun e w' => e = .returned (.int .i64 (fig (P2.extract 4 6))) ∧ w' = w) := FIG.out _ (ext_size g6 (by omega))
          go_upto_region 9 with fail
          go_cut [] (fun wx => Hid (HB w wx (.string (P0.extract 0 2)) (.string (P0.extract 2 4)) (.int .i64 (fig (P0.extract 4 6))) (.string P1) (.int .i64 (fig (P2.extract 0 2))) (.int .i64 (fig (P2.extract 2 4))) (.int .i64 (fig (P2.extract 4 6))) (.string P3)))
          case first =>
            go_region_held3 (fun _ => True) (trivial)
              (first
              | (go_at_call_of 22 (Value.string (P2.extract 0 2)); refine (G1.out _).mono ?_; rintro e wz ⟨rfl, hw⟩; have hw' := hw.symm; subst hw')
              | (go_at_call_of 22 (Value.string (P2.extract 2 4)); refine (G2.out _).mono ?_; rintro e wz ⟨rfl, hw⟩; have hw' := hw.symm; subst hw')
              | (go_at_call_of 22 (Value.string (P2.extract 4 6)); refine (G3.out _).mono ?_; rintro e wz ⟨rfl, hw⟩; have hw' := hw.symm; subst hw'))
            all_goals
              go_wp2_with fail
              go_meet
              refine ⟨?_, fun o => ?_, ?_, fun o => ?_, ?_, ?_⟩
              · simp [go_sem, r0, r1, r2, r3, r4, r5, r6, r7]
              · simp [go_sem, rf]
              · simp [go_sem, h0, h1, h2, h3, h4, h5, h7, h8]
              · simp [go_sem, hf]
              · exact (((HX.out.b.drew).setCell (by simp) _).setCell (by simp) _).setCell (by simp) _
              · simp; omega
          case rest =>
            have HX' := hcut
            clear r0 r1 r2 r3 r4 r5 r6 r7 h0 h1 h2 h3 h4 h5 h7 h8 rf hf hz HX hcut
            have HX : Hid (HB w wc (.string (P0.extract 0 2)) (.string (P0.extract 2 4)) (.int .i64 (fig (P0.extract 4 6))) (.string P1) (.int .i64 (fig (P2.extract 0 2))) (.int .i64 (fig (P2.extract 2 4))) (.int .i64 (fig (P2.extract 4 6))) (.string P3)) := HX'
            clear HX'
            obtain ⟨r0, r1, r2, r3, r4, r5, r6, r7⟩ := HX.out.r
            obtain ⟨h0, h1, h2, h3, h4, h5, h7, h8⟩ := HX.out.h
            have rf := HX.out.f
            have hf := HX.out.k
            have hz := HX.out.z
            have IF : Hid (∀ w, Calls Tryd.prog 16 #[hd (P0.extract 0 2) (P0.extract 2 4) (fig (P0.extract 4 6)) P1 (fig (P2.extract 0 2)) (fig (P2.extract 2 4)) (fig (P2.extract 4 6)) P3] w fun e w' => e = .returned (.int .i64 (fl P0 P1 P2 P3)) ∧ Below w.heap.size w w') := fun w => ifl_any HK.out HC.out w
            have AR : Hid (fl P0 P1 P2 P3 = 0 → Value.tuple #[hd (P0.extract 0 2) (P0.extract 2 4) (fig (P0.extract 4 6)) P1 (fig (P2.extract 0 2)) (fig (P2.extract 2 4)) (fig (P2.extract 4 6)) P3, .int .i64 0] = ansOf P0 P1 P2 P3) := fun h => ans_right HK.out HC.out h
            have AW : Hid (fl P0 P1 P2 P3 ≠ 0 → Value.tuple #[none8, .int .i64 (fl P0 P1 P2 P3)] = ansOf P0 P1 P2 P3) := fun h => ans_wrong h
            generalize fl P0 P1 P2 P3 = f at *
            go_wp2_with fail
            refine (IF.out _).mono ?_
            rintro e w2 ⟨rfl, hb2⟩
            have H2 := HX.out.next hb2
            clear r0 r1 r2 r3 r4 r5 r6 r7 h0 h1 h2 h3 h4 h5 h7 h8 rf hf hz hb2 HX
            have HX : Hid (HB w w2 (.string (P0.extract 0 2)) (.string (P0.extract 2 4)) (.int .i64 (fig (P0.extract 4 6))) (.string P1) (.int .i64 (fig (P2.extract 0 2))) (.int .i64 (fig (P2.extract 2 4))) (.int .i64 (fig (P2.extract 4 6))) (.string P3)) := H2
            clear H2
            obtain ⟨r0, r1, r2, r3, r4, r5, r6, r7⟩ := HX.out.r
            obtain ⟨h0, h1, h2, h3, h4, h5, h7, h8⟩ := HX.out.h
            have rf := HX.out.f
            have hf := HX.out.k
            have hz := HX.out.z
            by_cases ff : f = 0
            · have ff' : (f != 0) = false := by rw [ff]; rfl
              have AN' : Hid (Value.tuple #[hd (P0.extract 0 2) (P0.extract 2 4) (fig (P0.extract 4 6)) P1 (fig (P2.extract 0 2)) (fig (P2.extract 2 4)) (fig (P2.extract 4 6)) P3, .int .i64 0] = ansOf P0 P1 P2 P3) := AR.out ff
              clear ff AR AW
              go_wp2_with fail
              exact bodyPost_ret (v := .tuple #[hd (P0.extract 0 2) (P0.extract 2 4) (fig (P0.extract 4 6)) P1 (fig (P2.extract 0 2)) (fig (P2.extract 2 4)) (fig (P2.extract 4 6)) P3, .int .i64 0]) (by simp [results, Tryd.results8, go_sem, r0, r1, r2, r3, r4, r5, r6, r7]) rfl ⟨congrArg Ending.returned AN'.out, set8 HX.out.b w.heap.size (Nat.le_refl _) _ _ _ _ _ _ _ _⟩
            · have ff' : (f != 0) = true := by simpa using ff
              have AN' : Hid (Value.tuple #[none8, .int .i64 f] = ansOf P0 P1 P2 P3) := AW.out ff
              clear ff AR AW
              go_wp2_with fail
              exact bodyPost_ret (v := .tuple #[none8, .int .i64 f]) (by simp [results, Tryd.results8, go_sem, r0, r1, r2, r3, r4, r5, r6, r7]) rfl ⟨congrArg Ending.returned AN'.out, set8 HX.out.b w.heap.size (Nat.le_refl _) _ _ _ _ _ _ _ _⟩
        · have e62 : ((P2.size : Int) == 6) = false := by rw [beq_eq_false_iff_ne]; omega
          have HC : Hid (D0 P2 = 0 ∧ H0 P2 = 0 ∧ I0 P2 = 0) := ⟨if_neg g6, if_neg g6, if_neg g6⟩
          have IF : Hid (∀ w, Calls Tryd.prog 16 #[hd (P0.extract 0 2) (P0.extract 2 4) (fig (P0.extract 4 6)) P1 0 0 0 P3] w fun e w' => e = .returned (.int .i64 (fl P0 P1 P2 P3)) ∧ Below w.heap.size w w') := fun w => ifl_any HK.out HC.out w
          have AR : Hid (fl P0 P1 P2 P3 = 0 → Value.tuple #[hd (P0.extract 0 2) (P0.extract 2 4) (fig (P0.extract 4 6)) P1 0 0 0 P3, .int .i64 0] = ansOf P0 P1 P2 P3) := fun h => ans_right HK.out HC.out h
          have AW : Hid (fl P0 P1 P2 P3 ≠ 0 → Value.tuple #[none8, .int .i64 (fl P0 P1 P2 P3)] = ansOf P0 P1 P2 P3) := fun h => ans_wrong h
          generalize fl P0 P1 P2 P3 = f at *
          go_wp2_with fail
          refine (IF.out _).mono ?_
          rintro e w2 ⟨rfl, hb2⟩
          have H2 := HX.out.next hb2
          clear r0 r1 r2 r3 r4 r5 r6 r7 h0 h1 h2 h3 h4 h5 h7 h8 rf hf hz hb2 HX
          have HX : Hid (HB w w2 (.string (P0.extract 0 2)) (.string (P0.extract 2 4)) (.int .i64 (fig (P0.extract 4 6))) (.string P1) (.int .i64 0) (.int .i64 0) (.int .i64 0) (.string P3)) := H2
          clear H2
          obtain ⟨r0, r1, r2, r3, r4, r5, r6, r7⟩ := HX.out.r
          obtain ⟨h0, h1, h2, h3, h4, h5, h7, h8⟩ := HX.out.h
          have rf := HX.out.f
          have hf := HX.out.k
          have hz := HX.out.z
          by_cases ff : f = 0
          · have ff' : (f != 0) = false := by rw [ff]; rfl
            have AN' : Hid (Value.tuple #[hd (P0.extract 0 2) (P0.extract 2 4) (fig (P0.extract 4 6)) P1 0 0 0 P3, .int .i64 0] = ansOf P0 P1 P2 P3) := AR.out ff
            clear ff AR AW
            go_wp2_with fail
            exact bodyPost_ret (v := .tuple #[hd (P0.extract 0 2) (P0.extract 2 4) (fig (P0.extract 4 6)) P1 0 0 0 P3, .int .i64 0]) (by simp [results, Tryd.results8, go_sem, r0, r1, r2, r3, r4, r5, r6, r7]) rfl ⟨congrArg Ending.returned AN'.out, set8 HX.out.b w.heap.size (Nat.le_refl _) _ _ _ _ _ _ _ _⟩
          · have ff' : (f != 0) = true := by simpa using ff
            have AN' : Hid (Value.tuple #[none8, .int .i64 f] = ansOf P0 P1 P2 P3) := AW.out ff
            clear ff AR AW
            go_wp2_with fail
            exact bodyPost_ret (v := .tuple #[none8, .int .i64 f]) (by simp [results, Tryd.results8, go_sem, r0, r1, r2, r3, r4, r5, r6, r7]) rfl ⟨congrArg Ending.returned AN'.out, set8 HX.out.b w.heap.size (Nat.le_refl _) _ _ _ _ _ _ _ _⟩
    · have e6 : ((P0.size : Int) == 6) = false := by rw [beq_eq_false_iff_ne]; omega
      have HK : Hid (K0 P0 = em ∧ A0 P0 = em ∧ N0 P0 = 0) := ⟨if_neg h6, if_neg h6, if_neg h6⟩
      obtain ⟨r0, r1, r2, r3, r4, r5, r6, r7⟩ := HX.out.r
      obtain ⟨h0, h1, h2, h3, h4, h5, h7, h8⟩ := HX.out.h
      have rf := HX.out.f
      have hf := HX.out.k
      have hz := HX.out.z
      by_cases g6 : P2.size = 6
      · have e62 : ((P2.size : Int) == 6) = true := by rw [g6]; rfl
        have HC : Hid (D0 P2 = fig (P2.extract 0 2) ∧ H0 P2 = fig (P2.extract 2 4) ∧ I0 P2 = fig (P2.extract 4 6)) := ⟨if_pos g6, if_pos g6, if_pos g6⟩
        have G1 : Hid (∀ w, Calls Tryd.prog 22 #[.string (P2.extract 0 2)] w fun e w' => e = .returned (.int .i64 (fig (P2.extract 0 2))) ∧ w' = w) := FIG.out _ (ext_size g6 (by omega))
        have G2 : Hid (∀ w, Calls Tryd.prog 22 #[.string (P2.extract 2 4)] w fun e w' => e = .returned (.int .i64 (fig (P2.extract 2 4))) ∧ w' = w) := FIG.out _ (ext_size g6 (by omega))
        have G3 : Hid (∀ w, Calls Tryd.prog 22 #[.string (P2.extract 4 6)] w fun e w' => e = .returned (.int .i64 (fig (P2.extract 4 6))) ∧ w' = w) := FIG.out _ (ext_size g6 (by omega))
        go_upto_region 9 with fail
        go_cut [] (fun wx => Hid (HB w wx (.string em) (.string em) (.int .i64 0) (.string P1) (.int .i64 (fig (P2.extract 0 2))) (.int .i64 (fig (P2.extract 2 4))) (.int .i64 (fig (P2.extract 4 6))) (.string P3)))
        case first =>
          go_region_held3 (fun _ => True) (trivial)
            (first
            | (go_at_call_of 22 (Value.string (P2.extract 0 2)); refine (G1.out _).mono ?_; rintro e wz ⟨rfl, hw⟩; have hw' := hw.symm; subst hw')
            | (go_at_call_of 22 (Value.string (P2.extract 2 4)); refine (G2.out _).mono ?_; rintro e wz ⟨rfl, hw⟩; have hw' := hw.symm; subst hw')
            | (go_at_call_of 22 (Value.string (P2.extract 4 6)); refine (G3.out _).mono ?_; rintro e wz ⟨rfl, hw⟩; have hw' := hw.symm; subst hw'))
          all_goals
            go_wp2_with fail
            go_meet
            refine ⟨?_, fun o => ?_, ?_, fun o => ?_, ?_, ?_⟩
            · simp [go_sem, r0, r1, r2, r3, r4, r5, r6, r7]
            · simp [go_sem, rf]
            · simp [go_sem, h0, h1, h2, h3, h4, h5, h7, h8]
            · simp [go_sem, hf]
            · exact (((HX.out.b.drew).setCell (by simp) _).setCell (by simp) _).setCell (by simp) _
            · simp; omega
        case rest =>
          have HX' := hcut
          clear r0 r1 r2 r3 r4 r5 r6 r7 h0 h1 h2 h3 h4 h5 h7 h8 rf hf hz HX hcut
          have HX : Hid (HB w wc (.string em) (.string em) (.int .i64 0) (.string P1) (.int .i64 (fig (P2.extract 0 2))) (.int .i64 (fig (P2.extract 2 4))) (.int .i64 (fig (P2.extract 4 6))) (.string P3)) := HX'
          clear HX'
          obtain ⟨r0, r1, r2, r3, r4, r5, r6, r7⟩ := HX.out.r
          obtain ⟨h0, h1, h2, h3, h4, h5, h7, h8⟩ := HX.out.h
          have rf := HX.out.f
          have hf := HX.out.k
          have hz := HX.out.z
          have IF : Hid (∀ w, Calls Tryd.prog 16 #[hd em em 0 P1 (fig (P2.extract 0 2)) (fig (P2.extract 2 4)) (fig (P2.extract 4 6)) P3] w fun e w' => e = .returned (.int .i64 (fl P0 P1 P2 P3)) ∧ Below w.heap.size w w') := fun w => ifl_any HK.out HC.out w
          have AR : Hid (fl P0 P1 P2 P3 = 0 → Value.tuple #[hd em em 0 P1 (fig (P2.extract 0 2)) (fig (P2.extract 2 4)) (fig (P2.extract 4 6)) P3, .int .i64 0] = ansOf P0 P1 P2 P3) := fun h => ans_right HK.out HC.out h
          have AW : Hid (fl P0 P1 P2 P3 ≠ 0 → Value.tuple #[none8, .int .i64 (fl P0 P1 P2 P3)] = ansOf P0 P1 P2 P3) := fun h => ans_wrong h
          generalize fl P0 P1 P2 P3 = f at *
          go_wp2_with fail
          refine (IF.out _).mono ?_
          rintro e w2 ⟨rfl, hb2⟩
          have H2 := HX.out.next hb2
          clear r0 r1 r2 r3 r4 r5 r6 r7 h0 h1 h2 h3 h4 h5 h7 h8 rf hf hz hb2 HX
          have HX : Hid (HB w w2 (.string em) (.string em) (.int .i64 0) (.string P1) (.int .i64 (fig (P2.extract 0 2))) (.int .i64 (fig (P2.extract 2 4))) (.int .i64 (fig (P2.extract 4 6))) (.string P3)) := H2
          clear H2
          obtain ⟨r0, r1, r2, r3, r4, r5, r6, r7⟩ := HX.out.r
          obtain ⟨h0, h1, h2, h3, h4, h5, h7, h8⟩ := HX.out.h
          have rf := HX.out.f
          have hf := HX.out.k
          have hz := HX.out.z
          by_cases ff : f = 0
          · have ff' : (f != 0) = false := by rw [ff]; rfl
            have AN' : Hid (Value.tuple #[hd em em 0 P1 (fig (P2.extract 0 2)) (fig (P2.extract 2 4)) (fig (P2.extract 4 6)) P3, .int .i64 0] = ansOf P0 P1 P2 P3) := AR.out ff
            clear ff AR AW
            go_wp2_with fail
            exact bodyPost_ret (v := .tuple #[hd em em 0 P1 (fig (P2.extract 0 2)) (fig (P2.extract 2 4)) (fig (P2.extract 4 6)) P3, .int .i64 0]) (by simp [results, Tryd.results8, go_sem, r0, r1, r2, r3, r4, r5, r6, r7]) rfl ⟨congrArg Ending.returned AN'.out, set8 HX.out.b w.heap.size (Nat.le_refl _) _ _ _ _ _ _ _ _⟩
          · have ff' : (f != 0) = true := by simpa using ff
            have AN' : Hid (Value.tuple #[none8, .int .i64 f] = ansOf P0 P1 P2 P3) := AW.out ff
            clear ff AR AW
            go_wp2_with fail
            exact bodyPost_ret (v := .tuple #[none8, .int .i64 f]) (by simp [results, Tryd.results8, go_sem, r0, r1, r2, r3, r4, r5, r6, r7]) rfl ⟨congrArg Ending.returned AN'.out, set8 HX.out.b w.heap.size (Nat.le_refl _) _ _ _ _ _ _ _ _⟩
      · have e62 : ((P2.size : Int) == 6) = false := by rw [beq_eq_false_iff_ne]; omega
        have HC : Hid (D0 P2 = 0 ∧ H0 P2 = 0 ∧ I0 P2 = 0) := ⟨if_neg g6, if_neg g6, if_neg g6⟩
        have IF : Hid (∀ w, Calls Tryd.prog 16 #[hd em em 0 P1 0 0 0 P3] w fun e w' => e = .returned (.int .i64 (fl P0 P1 P2 P3)) ∧ Below w.heap.size w w') := fun w => ifl_any HK.out HC.out w
        have AR : Hid (fl P0 P1 P2 P3 = 0 → Value.tuple #[hd em em 0 P1 0 0 0 P3, .int .i64 0] = ansOf P0 P1 P2 P3) := fun h => ans_right HK.out HC.out h
        have AW : Hid (fl P0 P1 P2 P3 ≠ 0 → Value.tuple #[none8, .int .i64 (fl P0 P1 P2 P3)] = ansOf P0 P1 P2 P3) := fun h => ans_wrong h
        generalize fl P0 P1 P2 P3 = f at *
        go_wp2_with fail
        refine (IF.out _).mono ?_
        rintro e w2 ⟨rfl, hb2⟩
        have H2 := HX.out.next hb2
        clear r0 r1 r2 r3 r4 r5 r6 r7 h0 h1 h2 h3 h4 h5 h7 h8 rf hf hz hb2 HX
        have HX : Hid (HB w w2 (.string em) (.string em) (.int .i64 0) (.string P1) (.int .i64 0) (.int .i64 0) (.int .i64 0) (.string P3)) := H2
        clear H2
        obtain ⟨r0, r1, r2, r3, r4, r5, r6, r7⟩ := HX.out.r
        obtain ⟨h0, h1, h2, h3, h4, h5, h7, h8⟩ := HX.out.h
        have rf := HX.out.f
        have hf := HX.out.k
        have hz := HX.out.z
        by_cases ff : f = 0
        · have ff' : (f != 0) = false := by rw [ff]; rfl
          have AN' : Hid (Value.tuple #[hd em em 0 P1 0 0 0 P3, .int .i64 0] = ansOf P0 P1 P2 P3) := AR.out ff
          clear ff AR AW
          go_wp2_with fail
          exact bodyPost_ret (v := .tuple #[hd em em 0 P1 0 0 0 P3, .int .i64 0]) (by simp [results, Tryd.results8, go_sem, r0, r1, r2, r3, r4, r5, r6, r7]) rfl ⟨congrArg Ending.returned AN'.out, set8 HX.out.b w.heap.size (Nat.le_refl _) _ _ _ _ _ _ _ _⟩
        · have ff' : (f != 0) = true := by simpa using ff
          have AN' : Hid (Value.tuple #[none8, .int .i64 f] = ansOf P0 P1 P2 P3) := AW.out ff
          clear ff AR AW
          go_wp2_with fail
          exact bodyPost_ret (v := .tuple #[none8, .int .i64 f]) (by simp [results, Tryd.results8, go_sem, r0, r1, r2, r3, r4, r5, r6, r7]) rfl ⟨congrArg Ending.returned AN'.out, set8 HX.out.b w.heap.size (Nat.le_refl _) _ _ _ _ _ _ _ _⟩
end Go.Proofs.YtepofpmdkphhdaaDoor.Head
