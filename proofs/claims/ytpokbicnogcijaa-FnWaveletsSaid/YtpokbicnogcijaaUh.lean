/- FnWavelets: the law. -/
import Derived.Test.YtpokbicnogcijaaUg
namespace Go.Proofs.Ytpokbicnogcijaa.Rd
open Go.ChangeShapes Go.WideShapes Go.ChangeAt Go.RowKit
open Go.Proofs.Ytpokbicnogcijaa.Lists

theorem rep_snoc (k : Nat) (x : Int) : ints (List.replicate k x) ++ [.int .i64 x] = ints (List.replicate (k + 1) x) := by rw [List.replicate_succ']; simp [ints]

set_option maxRecDepth 40000 in
set_option maxHeartbeats 4000000 in
theorem waveLaw (a : Option Addr) (n cap : Nat) (w : World) (h : Code w a n cap) (hn : n < 9223372036854775808) : Calls Try.prog 4 #[.slice a n cap] w fun e w' => e = .returned (.bool true) ∧ Below w.heap.size w w' := by
  by_cases hb : 1048576 < n
  · have C : Hid (Calls Try.prog 11 #[.slice a n cap] w fun e w' => e = .returned (.bool true) ∧ w' = w) := big_yes a n cap w hb hn
    clear h hn hb
    go_enter Try.func4, Try.ntmps4
    go_wp2_with fail
    refine Calls.mono C.out ?_
    rintro e w1 ⟨rfl, hw⟩
    have hw' := hw.symm
    subst hw'
    go_wp2_with fail
    go_ret
    exact ⟨rfl, Below.refl _ _⟩
  · obtain ⟨i0, hi, hz0, hz1, hz2⟩ := info_parts Lists.Try.info2
    have C : Hid (Calls Try.prog 11 #[.slice a n cap] w fun e w' => e = .returned (.bool false) ∧ w' = w) := big_no a n cap w (by omega)
    have DC : Hid (Calls Try.prog 12 #[.slice a n cap] w fun e w' => DW w e w') := drawWave_any a n cap w h (by omega)
    clear h hn hb
    go_enter Try.func4, Try.ntmps4
    go_wp2_with fail
    refine Calls.mono C.out ?_
    rintro e w1 ⟨rfl, hw⟩
    have hw' := hw.symm
    subst hw'
    clear C
    go_wp2_with fail
    refine Calls.mono DC.out ?_
    rintro e w2 ⟨v, X, s, rfl, l9, hL, b2⟩
    have LI : Hid (Li w2 v X) := hL
    obtain ⟨g, c, ev, c1, c2, c3, c4⟩ := hL
    subst ev
    have B2 : Hid (Below w.heap.size w w2) := b2
    have SW : Hid (Calls Try.prog 13 #[.slice (some ⟨g, 0, none⟩) X.length c, .int .i64 s] w2 fun e w' => ∃ v, e = .returned (.tuple #[v, .bool (wvb X s)]) ∧ Below w2.heap.size w2 w') := swave_any w2 s g c X c3 c1 c2 c4
    have CC : Hid (X.length ≤ c ∧ c ≤ maxLen ∧ g < w2.heap.size) := ⟨c1, c2, c3⟩
    have C4 : Hid (∀ W, Below w2.heap.size w2 W → ∀ i, i < X.length → W.cell? ⟨g, i, none⟩ = some (.int .i64 (X.getD i 0))) := fun W hW i hi => (hW.cell (p := ⟨g, i, none⟩) c3).trans (c4 i hi)
    clear DC c4 b2 c1 c2 c3
    cases hk : wvb X s
    · have e1 : wvs X s = [] := by unfold wvs; unfold wvb at hk; rw [hk]; rfl
      rw [hk] at SW
      go_wp2_with fail
      refine SW.out.mono ?_
      rintro e w3 ⟨v3, rfl, b3⟩
      have B3 : Hid (Below w2.heap.size w2 w3) := b3
      have IW : Hid (Calls Try.prog 14 #[.slice (some ⟨g, 0, none⟩) X.length c, .int .i64 s] w3 fun e w' => ∃ v, e = .returned (.tuple #[v, .bool false]) ∧ w'.ownsRow w3.heap.size 2 1 v 0 (ints []) ∧ Below w3.heap.size w3 w') := (by
        have := iwave_any w3 s g c X (by have := CC.out.2.2; have := b3.size; omega) CC.out.1 CC.out.2.1 (C4.out w3 b3)
        rw [hk, e1] at this
        exact this)
      clear SW b3 e1 hk
      go_wp2_with fail
      refine IW.out.mono ?_
      rintro e w4 ⟨v4, rfl, o4, b4⟩
      obtain ⟨va, vc, ev⟩ := row_form o4
      subst ev
      have BF : Hid (Below w.heap.size w w4) := B2.out.trans ((B3.out.mono B2.out.size).trans (b4.mono (Nat.le_trans B2.out.size B3.out.size)))
      clear IW o4 b4
      go_wp2_with fail
      go_ret
      exact ⟨rfl, BF.out⟩
    · have hk' := hk
      unfold wvb at hk'
      simp only [Bool.and_eq_true] at hk'
      obtain ⟨hsm, hok⟩ := hk'
      obtain ⟨t, rfl⟩ : ∃ t : Nat, s = (t : Int) := ⟨s.toNat, by unfold okS at hok; simp at hok; omega⟩
      have ht : 1 ≤ t ∧ t ≤ 12 := by unfold okS at hok; simp at hok; omega
      have HS : Hid (sml 1099511627776 X = true) := hsm
      have BN : Hid (bnd X.length X) := fun i hi => (sml_iff.1 hsm).2 i hi
      rw [hk] at SW
      clear hsm hok hk
      obtain ⟨m, hm⟩ : ∃ m, m = X.length := ⟨_, rfl⟩
      have HM : Hid (m = X.length) := hm
      rw [← hm] at SW l9 ⊢
      clear hm
      go_wp2_with fail
      refine SW.out.mono ?_
      rintro e w3 ⟨v3, rfl, b3⟩
      have B3 : Hid (Below w2.heap.size w2 w3) := b3
      have IW : Hid (Calls Try.prog 14 #[.slice (some ⟨g, 0, none⟩) m c, .int .i64 (t : Int)] w3 fun e w' => ∃ g' c', e = .returned (.tuple #[.slice (some ⟨g', 0, none⟩) m c', .bool true]) ∧ w3.heap.size ≤ g' ∧ w'.ownsRow w3.heap.size 2 1 (.slice (some ⟨g', 0, none⟩) m c') m (ints (wav t m X)) ∧ Below w3.heap.size w3 w') := (by
        have := iwave_yes w3 t g c X ht HS.out (by have := CC.out.2.2; have := b3.size; omega) CC.out.1 CC.out.2.1 (C4.out w3 b3)
        rw [← HM.out] at this
        exact this)
      clear SW b3
      go_wp2_with fail
      refine IW.out.mono ?_
      rintro e w4 ⟨g4, c4, rfl, q4, o4, b4⟩
      have B4 : Hid (Below w2.heap.size w2 w4) := B3.out.trans (b4.mono B3.out.size)
      obtain ⟨g4', c4', e4, p1, p2, p3, p4⟩ := row_some o4 (fun e => by cases e)
      cases e4
      have UW : Hid (Calls Try.prog 7 #[.slice (some ⟨g4, 0, none⟩) m c4, .int .i64 (t : Int)] w4 fun e w' => ∃ g' c', e = .returned (.tuple #[.slice (some ⟨g', 0, none⟩) m c', .bool true]) ∧ w4.heap.size ≤ g' ∧ w'.ownsRow w4.heap.size 2 1 (.slice (some ⟨g', 0, none⟩) m c') m (ints X) ∧ Below w4.heap.size w4 w') :=
        iunwave_yes w4 t g4 m c4 X HM.out.symm (by omega) p2 p3 p4 ht (by rw [HM.out]; exact BN.out) (fun i hi => row_cell (L := wav t m X) (by rw [wav_len, ← HM.out]; exact o4) i (by rw [wav_len, ← HM.out]; exact hi))
      clear IW b4 o4 q4 p1 p2 p3 p4
      go_wp2_with fail
      refine UW.out.mono ?_
      rintro e w5 ⟨g5, c5, rfl, q5, o5, b5⟩
      have B5 : Hid (Below w2.heap.size w2 w5) := B4.out.trans (b5.mono B4.out.size)
      obtain ⟨g5', c5', e5, p1, p2, p3, p4⟩ := row_some o5 (fun e => by cases e)
      cases e5
      have L5 : Hid (Li w5 (.slice (some ⟨g5, 0, none⟩) m c5) X) := ⟨g5, c5, by rw [HM.out], by rw [← HM.out]; exact p3, p4, p2, fun i hi => row_cell (L := X) (by rw [← HM.out]; exact o5) i hi⟩
      have M5 : Hid (Li w5 (.slice (some ⟨g, 0, none⟩) m c) X) := (by have := LI.out.on B5.out; rw [← HM.out] at this; exact this)
      have SS : Hid (∀ j, Calls Try.prog 15 #[.slice (some ⟨g5, 0, none⟩) m c5, .slice (some ⟨g, 0, none⟩) m c] (w5.drewN j) fun e w' => e = .returned (.bool true) ∧ ∃ m, w' = w5.drewN m) := fun j => (by
        have b := below_drewN (Below.refl w5.heap.size w5) j
        refine (same_li (w5.drewN j) _ _ X (L5.out.on b) (M5.out.on b) (by rw [← HM.out]; exact l9)).mono ?_
        rintro e w' ⟨rfl, k, rfl⟩
        exact ⟨rfl, j + k, World.drewN_drewN _ _ _⟩)
      clear UW b5 o5 q5 p1 p2 p3 p4 L5 M5
      have S0 := SS.out 0
      rw [World.drewN_zero] at S0
      go_wp2_with fail
      refine Calls.mono S0 ?_
      rintro e w6 ⟨rfl, j6, rfl⟩
      by_cases hm0 : m = 0
      · subst hm0
        go_wp2_with fail
        refine (SS.out j6).mono ?_
        rintro e w7 ⟨rfl, j7, rfl⟩
        have BF : Hid (Below w.heap.size w (w5.drewN j7)) := below_drewN (B2.out.trans (B5.out.mono B2.out.size)) j7
        clear SS S0
        go_wp2_with fail
        go_ret
        exact ⟨rfl, BF.out⟩
      · have m1 : ¬ (m : Int) = 0 := by omega
        have m2 : ((m : Int) == 0) = false := beq_eq_false_iff_ne.2 m1
        obtain ⟨w7, hw7⟩ : ∃ w7, w7 = (w5.drewN j6).alloc (Obj.cells #[] 2) := ⟨_, rfl⟩
        have B7 : Hid (Below w2.heap.size w2 w7) := (by show Below _ _ _; rw [hw7]; exact (below_drewN B5.out j6).alloc (by show w2.heap.size ≤ w5.heap.size; exact B5.out.size) _)
        obtain ⟨b7, hb7⟩ : ∃ b7, b7 = w5.heap.size := ⟨_, rfl⟩
        have Z7 : Hid (w2.heap.size ≤ b7) := (by show _ ≤ _; rw [hb7]; exact B5.out.size)
        have O7 : Hid (w7.ownsRow b7 2 1 (.slice (some ⟨b7, 0, none⟩) 0 0) 0 (ints (List.replicate 0 (X.getD 0 0)))) := (by
          show World.ownsRow _ _ _ _ _ _ _
          rw [hw7, hb7]
          exact World.ownsRow_lit (w5.drewN j6) #[] 0 (Nat.le_refl _) (Nat.zero_le _) rfl)
        have X0 : Hid (sml 1099511627776 (List.replicate m (X.getD 0 0)) = true) := (by
          refine sml_iff.2 ⟨by rw [List.length_replicate]; omega, fun i hi => ?_⟩
          rw [List.length_replicate] at hi
          have := (sml_iff.1 HS.out).2 0 (by rw [← HM.out]; omega)
          have e : (List.replicate m (X.getD 0 0)).getD i 0 = X.getD 0 0 := by simp [List.getD_eq_getElem?_getD, hi]
          rw [e]; exact this)
        have C7 : Hid (∀ W, Below w2.heap.size w2 W → W.cell? ⟨g, 0, none⟩ = some (.int .i64 (X.getD 0 0))) := fun W hW => C4.out W hW 0 (by rw [← HM.out]; omega)
        clear SS S0
        go_upto_region 14 with fail
        have T7 : Hid (b7 < w7.heap.size) := (by show _ < _; rw [hw7, hb7]; simp)
        rw [← hw7, ← hb7]
        clear hw7 hb7 B5 B4 B3 C4
        generalize X.getD 0 0 = c0 at *
        go_wp2_with fail
        go_loopw [11, 12] (fun v i wr => ∃ k : Nat, k ≤ m ∧ i = .int .i64 k ∧ Hid (wr.ownsRow b7 2 1 v k (ints (List.replicate k c0))) ∧ Hid (Below w2.heap.size w2 wr) ∧ Hid (b7 < wr.heap.size)) (fun _ i _ => m - (intOf i).toNat)
        case atStart => exact ⟨0, Nat.zero_le _, rfl, O7, B7, T7⟩
        case round =>
          clear O7 B7 T7
          obtain ⟨k, hk, rfl, O, BB, TT⟩ := hrel
          obtain ⟨va, vc, ev⟩ := row_form O.out
          obtain ⟨vv, hvv⟩ : ∃ vv, vv = u11 := ⟨_, rfl⟩
          subst hvv
          subst ev
          by_cases hlt : k < m
          · have a1 : (k : Int) < (m : Int) := by omega
            have a2 : (0 : Int) < (m : Int) := by omega
            have x0 := C7.out wr BB.out
            have sz2 := TT.out
            go_wp2_with (at_builtin; refine wpList_append_own_at _ rfl _ _ 22 rfl b7 2 i0 (.int .i64 0) 1 8 Try.underlying22 hi hz0 hz1 hz2 rfl (by decide) _ _ _ rfl (O.out.alloc _) ⟨wr.heap.size, 0, none⟩ 1 1 [.int .i64 c0] rfl rfl (cell_one_new _ _ _) (by intro u hu; simp at hu; subst hu; rfl) (by unfold maxLen; omega) (by omega) (by simp; omega) ?_)
            intro v' w8 hown hgrow _ _
            have O8 : Hid (w8.ownsRow b7 2 1 v' (k + 1) (ints (List.replicate (k + 1) c0))) := (by show World.ownsRow _ _ _ _ _ _ _; rw [← rep_snoc, show ints (List.replicate k c0) = List.replicate k (.int .i64 c0) by simp [ints]]; exact hown)
            have B8 : Hid (Below w2.heap.size w2 w8) := (BB.out.alloc BB.out.size _).grown hgrow (by have := BB.out.size; simp; omega) (fun b hb => by have := (O.out.lt b hb).1; have := Z7.out; omega)
            have T8 : Hid (b7 < w8.heap.size) := (by show _ < _; have := hgrow.size; simp at this; have := TT.out; omega)
            clear hown hgrow O BB x0 TT
            go_wp2_with fail
            go_roundw
            case rel => exact ⟨k + 1, by omega, by go_num, O8, B8, T8⟩
            case measure => simp [intOf]; omega
          · have hkm : k = m := by omega
            subst hkm
            have jj : ¬ (k : Int) < (k : Int) := by omega
            have rl : (List.replicate k c0).length = k := List.length_replicate
            obtain ⟨gf, cf, ev, d1, d2, d3, d4⟩ := row_some O.out (fun e => by injection e with _ e _; omega)
            cases ev
            have OR : wr.ownsRow b7 2 1 (.slice (some ⟨gf, 0, none⟩) (List.replicate k c0).length vc) (List.replicate k c0).length (ints (List.replicate k c0)) := by rw [rl]; exact O.out
            have IW : Hid (Calls Try.prog 14 #[.slice (some ⟨gf, 0, none⟩) k vc, .int .i64 12] wr fun e w' => ∃ g' c', e = .returned (.tuple #[.slice (some ⟨g', 0, none⟩) k c', .bool true]) ∧ wr.heap.size ≤ g' ∧ w'.ownsRow wr.heap.size 2 1 (.slice (some ⟨g', 0, none⟩) k c') k (ints (flat k 1 c0)) ∧ Below wr.heap.size wr w') := (by
              have := iwave_yes wr 12 gf vc (List.replicate k c0) (by omega) X0.out d2 (by rw [rl]; exact d3) d4 (fun i hi => row_cell OR i hi)
              rw [rl, flat_end (by omega) l9] at this
              exact this)
            clear OR d1 d2 d3 d4 O
            go_wp2_with fail
            refine IW.out.mono ?_
            rintro e w9 ⟨g9, c9, rfl, q9, o9, b9⟩
            have B9 : Hid (Below w2.heap.size w2 w9) := BB.out.trans (b9.mono BB.out.size)
            have FL : Hid (∀ j i, i < k → (w9.drewN j).cell? ⟨g9, i, none⟩ = some (.int .i64 (if i < 1 then c0 else 0))) := fun j i hi => (by
              have := row_cell (L := flat k 1 c0) (by rw [flat_len]; exact o9) i (by rw [flat_len]; exact hi)
              rw [flat_get k 1 c0 hi] at this
              exact this)
            have BF : Hid (∀ j, Below w.heap.size w (w9.drewN j)) := fun j => below_drewN (B2.out.trans (B9.out.mono B2.out.size)) j
            have f0 := FL.out 0 0 (by omega)
            rw [if_pos (by omega), World.drewN_zero] at f0
            have x0 := C7.out w9 B9.out
            have nn : ((k : Int) != (k : Int)) = false := by simp
            have cc : (c0 != c0) = false := by simp
            have k0 : (0 : Int) < (k : Int) := by omega
            clear IW q9 o9 b9 BB
            go_wp2_with fail
            go_quiet (fail)
            go_wp2_with fail
            clear f0 x0
            go_loopw [15] (fun i wr => ∃ q j : Nat, 1 ≤ q ∧ q ≤ k ∧ i = .int .i64 q ∧ wr = w9.drewN j) (fun i _ => k - (intOf i).toNat)
            case atStart => exact ⟨1, nq, Nat.le_refl _, by omega, rfl, rfl⟩
            case round =>
              obtain ⟨q, j, hq1, hq, rfl, rfl⟩ := hrel
              have kl : (k : Int) ≤ 4096 := by omega
              by_cases hlt2 : q < k
              · have i1 : (q : Int) < (k : Int) := by omega
                have i0' : (0 : Int) ≤ (q : Int) := by omega
                have f1 := FL.out j q hlt2
                rw [if_neg (by omega)] at f1
                go_wp2_with fail
                go_roundw
                case rel => exact ⟨q + 1, j, by omega, by omega, by go_num, rfl⟩
                case measure => simp [intOf]; omega
              · have hqk : q = k := by omega
                subst hqk
                go_wp2_with fail
                go_ret
                exact ⟨rfl, BF.out j⟩
end Go.Proofs.Ytpokbicnogcijaa.Rd
