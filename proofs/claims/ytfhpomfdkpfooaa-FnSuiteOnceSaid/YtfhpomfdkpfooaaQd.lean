/- FnSuiteOnce: the law. -/
import Derived.Test.YtfhpomfdkpfooaaQc
import Derived.Deep.CutBlock
namespace Go.Proofs.Ytfhpomfdkpfooaa.Ty
open Go.ChangeShapes Go.WideShapes Go.ChangeAt Go.RowKit
open Go.Proofs.Ytfhpomfdkpfooaa.Lists Go.Proofs.Ytfhpomfdkpfooaa.Tm Go.Proofs.Ytfhpomfdkpfooaa.Rk Go.Proofs.Ytfhpomfdkpfooaa.Ru Go.Proofs.Ytfhpomfdkpfooaa.Al Go.Proofs.Ytfhpomfdkpfooaa.Rd Go.Proofs.Ytfhpomfdkpfooaa.Cp

theorem mem_next {x : Int} {L : List Int} {p : Nat} (hp : p < L.length) : decide (x ∈ L.take (p + 1)) = (decide (x ∈ L.take p) || decide (L.getD p 0 = x)) := by
  have e : L.take (p + 1) = L.take p ++ [L.getD p 0] := by
    rw [List.take_add_one, List.getElem?_eq_getElem hp, List.getD_eq_getElem?_getD, List.getElem?_eq_getElem hp]; rfl
  rw [e, Bool.eq_iff_iff, Bool.or_eq_true, decide_eq_true_eq, decide_eq_true_eq, decide_eq_true_eq, List.mem_append, List.mem_singleton]
  exact ⟨fun h => h.imp id Eq.symm, fun h => h.imp id Eq.symm⟩

set_option maxRecDepth 20000 in
set_option maxHeartbeats 16000000 in
theorem onceLaw (a : Option Addr) (len cap : Nat) (a2 : Option Addr) (len2 cap2 : Nat) (w : World) (hc : Rd.Code w a len cap) (hc2 : Rd.Code w a2 len2 cap2) (hn : len < 9223372036854775808) (hn2 : len2 < 9223372036854775808) : Calls Try.prog 5 #[.slice a len cap, .slice a2 len2 cap2] w fun e w' => e = .returned (.bool true) ∧ Below w.heap.size w w' := by
  by_cases hl : 1048576 < len
  · have C : Hid (Calls Try.prog 6 #[.slice a len cap] w fun e w' => e = .returned (.bool true) ∧ w' = w) := big_yes a len cap w hl hn
    clear hc hc2
    go_enter Try.func5, Try.ntmps5
    go_wp2_with fail
    refine C.out.mono ?_
    rintro e w1 ⟨rfl, hw⟩
    have hw' := hw.symm
    subst hw'
    go_wp2_with fail
    go_ret
    exact ⟨rfl, Below.refl _ _⟩
  have C : Hid (Calls Try.prog 6 #[.slice a len cap] w fun e w' => e = .returned (.bool false) ∧ w' = w) := big_no a len cap w (by omega)
  by_cases hl2 : 1048576 < len2
  · have C2 : Hid (Calls Try.prog 6 #[.slice a2 len2 cap2] w fun e w' => e = .returned (.bool true) ∧ w' = w) := big_yes a2 len2 cap2 w hl2 hn2
    clear hc hc2
    go_enter Try.func5, Try.ntmps5
    go_wp2_with fail
    refine C.out.mono ?_
    rintro e w1 ⟨rfl, hw⟩
    have hw' := hw.symm
    subst hw'
    go_wp2_with fail
    refine C2.out.mono ?_
    rintro e w1 ⟨rfl, hw⟩
    have hw' := hw.symm
    subst hw'
    go_wp2_with fail
    go_ret
    exact ⟨rfl, Below.refl _ _⟩
  have C2 : Hid (Calls Try.prog 6 #[.slice a2 len2 cap2] w fun e w' => e = .returned (.bool false) ∧ w' = w) := big_no a2 len2 cap2 w (by omega)
  have D : Hid (Calls Try.prog 15 #[.slice a len cap] w fun e w' => ∃ sT sL, e = .returned (Su.pv sT sL) ∧ Du.DW w sT sL w') := Du.dnew_any a len cap w hc (by omega)
  have HC2 : Hid (Rd.Code w a2 len2 cap2) := hc2
  clear hc hc2 hl
  go_enter Try.func5, Try.ntmps5
  go_wp2_with fail
  refine C.out.mono ?_
  rintro e w1 ⟨rfl, hw⟩
  have hw' := hw.symm
  subst hw'
  clear C hw
  go_wp2_with fail
  refine C2.out.mono ?_
  rintro e w1 ⟨rfl, hw⟩
  have hw' := hw.symm
  subst hw'
  clear C2 hw
  go_wp2_with fail
  refine D.out.mono ?_
  rintro e w1 ⟨sT, sL, rfl, R, X, g1, g2, b1⟩
  clear D
  obtain ⟨ta, tc, e1⟩ := g1.form
  obtain ⟨la, lc, e2⟩ := g2.form
  subst e1 e2
  obtain ⟨sb, hsb⟩ : ∃ y, y = w1.heap.size := ⟨_, rfl⟩
  have HSB : Hid (sb = w1.heap.size) := hsb
  obtain ⟨w2, hw2⟩ : ∃ y, y = w1.alloc (.cells #[.slice ta R.length tc, .slice la X.length lc] 27) := ⟨_, rfl⟩
  have HW2 : Hid (w2 = w1.alloc (.cells #[.slice ta R.length tc, .slice la X.length lc] 27)) := hw2
  have b12 : Below w1.heap.size w1 w2 := by rw [hw2]; exact (Below.refl _ _).alloc (Nat.le_refl _) _
  have S2 : Hid (SF sb ta tc la lc R X w2) := (by refine ⟨?_, g1.on b12, g2.on b12⟩; rw [hw2, hsb]; exact Bl.new w1 27 _)
  have B2 : Hid (Below w.heap.size w w2) := b1.trans (b12.mono b1.size)
  clear g1 g2 b1 hsb hw2 b12
  go_upto_region 4 with fail
  rw [← HW2.out, ← HSB.out]
  clear HW2 HSB
  have s0 : w2.cell? ⟨sb, 0, none⟩ = some (.slice ta R.length tc) := by rw [S2.out.bx.cell]; rfl
  have s1 : w2.cell? ⟨sb, 1, none⟩ = some (.slice la X.length lc) := by rw [S2.out.bx.cell]; rfl
  cases hok : So.okS R X
  · have N1 : Hid (∀ W, Below w2.heap.size w2 W → Calls Try.prog 16 #[Su.pv (.slice ta R.length tc) (.slice la X.length lc)] W fun e w' => e = .returned (.tuple #[rv (.slice none 0 0) (.slice none 0 0) 0 (.slice none 0 0), .bool false]) ∧ Below W.heap.size W w') := fun W hb => Nr.snew_no R X _ _ W (S2.out.on hb).rt (S2.out.on hb).lx hok
    have N2 : Hid (∀ W, Below w2.heap.size w2 W → Calls Try.prog 17 #[Su.pv (.slice ta R.length tc) (.slice la X.length lc)] W fun e w' => e = .returned (.tuple #[rv (.slice none 0 0) (.slice none 0 0) 0 (.slice none 0 0), .bool false]) ∧ Below W.heap.size W w') := fun W hb => Nr.inew_no R X _ _ W (S2.out.on hb).rt (S2.out.on hb).lx hok
    clear hok
    go_wp2_with fail
    refine (N1.out w2 (Below.refl _ _)).mono ?_
    rintro e w3 ⟨rfl, b3⟩
    obtain ⟨w4, hw4⟩ : ∃ y, y = w3.alloc (.cells #[.slice none 0 0, .slice none 0 0, .int .i64 0, .slice none 0 0] 30) := ⟨_, rfl⟩
    have HW4 : Hid (w4 = w3.alloc (.cells #[.slice none 0 0, .slice none 0 0, .int .i64 0, .slice none 0 0] 30)) := hw4
    have B4 : Hid (Below w2.heap.size w2 w4) := (by show Below _ _ _; rw [hw4]; exact b3.alloc b3.size _)
    clear b3 hw4 s0 s1
    go_upto_region 5 with fail
    rw [← HW4.out]
    clear HW4
    have s0 : w4.cell? ⟨sb, 0, none⟩ = some (.slice ta R.length tc) := by rw [(S2.out.on B4.out).bx.cell]; rfl
    have s1 : w4.cell? ⟨sb, 1, none⟩ = some (.slice la X.length lc) := by rw [(S2.out.on B4.out).bx.cell]; rfl
    go_wp2_with fail
    refine (N2.out w4 B4.out).mono ?_
    rintro e w5 ⟨rfl, b5⟩
    have B5 : Hid (Below w.heap.size w w5) := (by
      have q := B4.out.trans (b5.mono B4.out.size)
      exact B2.out.trans (q.mono B2.out.size))
    clear b5
    go_wp2_with fail
    go_ret
    exact ⟨rfl, B5.out.alloc B5.out.size _⟩
  · have Y1 : Hid (∀ W, Below w2.heap.size w2 W → Calls Try.prog 16 #[Su.pv (.slice ta R.length tc) (.slice la X.length lc)] W fun e w' => ∃ ra rc xa xc ja jc, e = .returned (.tuple #[rv (.slice ra R.length rc) (.slice xa X.length xc) 0 (.slice ja R.length jc), .bool true]) ∧ Below W.heap.size W w') := fun W hb => (Nr.snew_yes R X _ _ W (S2.out.on hb).rt (S2.out.on hb).lx hok).mono (by
      rintro e w' ⟨r, x, j, rfl, ⟨h1, h2, h3⟩, hb'⟩
      obtain ⟨ra, rc, rfl⟩ := h1.reads.form
      obtain ⟨xa, xc, rfl⟩ := (Lists.reads_row h2).form
      obtain ⟨ja, jc, rfl⟩ := h3.reads.form
      rw [Nr.zs_len]
      exact ⟨ra, rc, xa, xc, ja, jc, rfl, hb'⟩)
    have Y2 : Hid (∀ W, Below w2.heap.size w2 W → Calls Try.prog 17 #[Su.pv (.slice ta R.length tc) (.slice la X.length lc)] W fun e w' => ∃ ra rc xa xc ja jc, e = .returned (.tuple #[rv (.slice ra R.length rc) (.slice xa X.length xc) 0 (.slice ja R.length jc), .bool true]) ∧ PO R X (Nr.zs R.length) W ra rc xa xc ja jc w') := fun W hb => (Nr.inew_yes R X _ _ W (S2.out.on hb).rt (S2.out.on hb).lx hok).mono (by
      rintro e w' ⟨r, x, j, xs, rfl, h1, hb'⟩
      obtain ⟨ra, rc, rfl⟩ := h1.reads.1.form
      obtain ⟨xa, xc, rfl⟩ := h1.reads.2.1.form
      obtain ⟨ja, jc, rfl⟩ := h1.reads.2.2.form
      rw [Nr.zs_len] at h1 ⊢
      exact ⟨ra, rc, xa, xc, ja, jc, rfl, ⟨xs, h1⟩, hb'⟩)
    have OKN : Hid (okR R X 0 (Nr.zs R.length) = true) := new_ok hok
    have F := fit_of hok
    have HF : Hid (Fit R X) := F
    have r1 := F.r1
    have r60 := F.r60
    have x6 := F.x6
    clear hok F
    go_wp2_with fail
    refine (Y1.out w2 (Below.refl _ _)).mono ?_
    rintro e w3 ⟨p1, p2, p3, p4, p5, p6, rfl, b3⟩
    obtain ⟨w4, hw4⟩ : ∃ y, y = w3.alloc (.cells #[.slice p1 R.length p2, .slice p3 X.length p4, .int .i64 0, .slice p5 R.length p6] 30) := ⟨_, rfl⟩
    have HW4 : Hid (w4 = w3.alloc (.cells #[.slice p1 R.length p2, .slice p3 X.length p4, .int .i64 0, .slice p5 R.length p6] 30)) := hw4
    have B4 : Hid (Below w2.heap.size w2 w4) := (by show Below _ _ _; rw [hw4]; exact b3.alloc b3.size _)
    clear b3 hw4 s0 s1
    go_upto_region 5 with fail
    rw [← HW4.out]
    clear HW4
    have s0 : w4.cell? ⟨sb, 0, none⟩ = some (.slice ta R.length tc) := by rw [(S2.out.on B4.out).bx.cell]; rfl
    have s1 : w4.cell? ⟨sb, 1, none⟩ = some (.slice la X.length lc) := by rw [(S2.out.on B4.out).bx.cell]; rfl
    go_wp2_with fail
    refine (Y2.out w4 B4.out).mono ?_
    rintro e w6 ⟨ra0, rc0, xa0, xc0, ja0, jc0, rfl, ⟨⟨xs6, ro6⟩, b6⟩⟩
    obtain ⟨ZI, hZI⟩ : ∃ ZI, ZI = madeCells (Value.int .i64 0).cells (R.length * 1) := ⟨_, rfl⟩
    obtain ⟨ZB, hZB⟩ : ∃ ZB, ZB = madeCells (Value.bool false).cells (R.length * 1) := ⟨_, rfl⟩
    have hmi : ∀ w, (Instr.makeSlice 25 (.int .i64 (R.length : Int)) (.int .i64 (R.length : Int))).run Try.prog w = .ok (.slice (some ⟨w.heap.size, 0, none⟩) R.length R.length) (w.alloc (.cells ZI 2)) := fun w => (by rw [hZI]; exact make_ints R.length (by omega) w)
    have hmb : ∀ w, (Instr.makeSlice 46 (.int .i64 (R.length : Int)) (.int .i64 (R.length : Int))).run Try.prog w = .ok (.slice (some ⟨w.heap.size, 0, none⟩) R.length R.length) (w.alloc (.cells ZB 4)) := fun w => (by rw [hZB]; exact make_bools R.length (by omega) w)
    obtain ⟨w9, hw9⟩ : ∃ y, y = ((w6.alloc (.cells #[.slice ra0 R.length rc0, .slice xa0 X.length xc0, .int .i64 0, .slice ja0 R.length jc0] 30)).alloc (.cells ZI 2)).alloc (.cells ZB 4) := ⟨_, rfl⟩
    have HW9 : Hid (w9 = ((w6.alloc (.cells #[.slice ra0 R.length rc0, .slice xa0 X.length xc0, .int .i64 0, .slice ja0 R.length jc0] 30)).alloc (.cells ZI 2)).alloc (.cells ZB 4)) := hw9
    obtain ⟨bb, hbb⟩ : ∃ y, y = w6.heap.size := ⟨_, rfl⟩
    have HBB : Hid (bb = w6.heap.size) := hbb
    obtain ⟨db, hdb⟩ : ∃ y, y = w6.heap.size + 1 := ⟨_, rfl⟩
    have HDB : Hid (db = w6.heap.size + 1) := hdb
    obtain ⟨rk0, hrk⟩ : ∃ y, y = w6.heap.size + 1 + 1 := ⟨_, rfl⟩
    have HRK : Hid (rk0 = w6.heap.size + 1 + 1) := hrk
    have T0 : Hid (ST w2 bb db rk0 R.length (.slice ra0 R.length rc0) (.slice xa0 X.length xc0) (.slice ja0 R.length jc0) R X (Nr.zs R.length) (dl (Nr.zs R.length) R.length) (rl (Nr.zs R.length) R.length) w9) := (by
      show ST _ _ _ _ _ _ _ _ _ _ _ _ _ _
      rw [hw9, hbb, hdb, hrk, hZI, hZB]
      exact ST.new B4.out ro6 b6 (by omega) (rl_new R.length R.length))
    have SFW : Hid (∀ W, Below w2.heap.size w2 W → SF sb ta tc la lc R X W) := fun W hb => S2.out.on hb
    have s0' : w6.cell? ⟨sb, 0, none⟩ = some (.slice ta R.length tc) := by rw [(S2.out.on (B4.out.trans (b6.mono B4.out.size))).bx.cell]; rfl
    have sbl : sb < w6.heap.size := (S2.out.on (B4.out.trans (b6.mono B4.out.size))).bx.lt
    have NEWB : Hid (∀ (bb db rk : Nat) (vr vx vj : Value) (J : Jb.Ls) (D : List Int) (B : List Bool) (W : World), ST w2 bb db rk R.length vr vx vj R X J D B W → ST w2 bb db W.heap.size R.length vr vx vj R X J D (List.replicate R.length false) (W.alloc (.cells ZB 4))) := fun bb db rk vr vx vj J D B W h => (by rw [hZB]; exact h.newB (by omega))
    clear ro6 b6 hw9 hbb hdb hrk s0 s1 hZI hZB
    go_upto_region 13 with fail
    rw [← HW9.out, ← HRK.out, ← HDB.out, ← HBB.out]
    clear HW9 HRK HDB HBB s0' sbl hmi Y1 Y2 B4
    obtain ⟨M, hM⟩ : ∃ M : Nat, 60 + 4 * (R.length : Int) = (M : Int) := ⟨60 + 4 * R.length, by omega⟩
    have HM : Hid (M = 60 + 4 * R.length) := (by show _ = _; omega)
    have hM300 : M ≤ 300 := by omega
    go_upto_region 14 with fail
    try rw [hM]
    clear hM
    go_wp2_with fail
    go_loopw [12, 14] (fun rs c wr => ∃ (k rk : Nat) (J : Jb.Ls) (ra : Option Addr) (rc : Nat) (xa : Option Addr) (xc : Nat) (ja : Option Addr) (jc : Nat), k ≤ M ∧ c = .int .i64 k ∧ rs = .slice (some ⟨rk, 0, none⟩) R.length R.length ∧ Hid (ST w2 bb db rk R.length (.slice ra R.length rc) (.slice xa X.length xc) (.slice ja R.length jc) R X J (dl J R.length) (rl J R.length) wr) ∧ Hid (okR R X 0 J = true) ∧ Hid ((k : Int) - 60 ≤ (cdn J R.length : Int) ∨ FIN R X J R.length)) (fun _ c _ => M - (intOf c).toNat)
    case atStart => exact ⟨0, rk0, _, _, _, _, _, _, _, Nat.zero_le _, rfl, rfl, T0, OKN, Or.inl (by omega)⟩
    case round => as_aux_lemma =>
      clear T0 OKN
      obtain ⟨k, rk, J, ra, rc, xa, xc, ja, jc, hk, rfl, rfl, T, OK, INV⟩ := hrel
      obtain ⟨wo, hwo⟩ : ∃ x : World, x = wr := ⟨_, rfl⟩
      subst hwo
      have HJL : Hid (J.length = R.length) := (okR_iff.1 OK.out).2.2.1
      by_cases hlt : k < M
      · have i2 : (k : Int) < (M : Int) := by omega
        go_upto_region 18 with fail
        go_cut [79] (fun v wx => v = .bool (decide (k < len2) && decide (k < 60)) ∧ wx = wo)
        case first => as_aux_lemma =>
          by_cases q1 : k < len2
          · have q1i : (k : Int) < (len2 : Int) := by omega
            by_cases q2 : k < 60
            · have q2i : (k : Int) < 60 := by omega
              have e1 : (decide (k < len2) && decide (k < 60)) = true := by simp [q1, q2]
              have E1 : Hid ((decide (k < len2) && decide (k < 60)) = true) := e1
              clear e1
              go_wp2_with fail
              go_meet
              first | exact ⟨by rw [E1.out], rfl⟩ | simp [q1, q2]
            · have q2i : ¬ (k : Int) < 60 := by omega
              have e1 : (decide (k < len2) && decide (k < 60)) = false := by simp [q2]
              have E1 : Hid ((decide (k < len2) && decide (k < 60)) = false) := e1
              clear e1
              go_wp2_with fail
              go_meet
              first | exact ⟨by rw [E1.out], rfl⟩ | simp [q1, q2]
          · have q1i : ¬ (k : Int) < (len2 : Int) := by omega
            have e1 : (decide (k < len2) && decide (k < 60)) = false := by simp [q1]
            have E1 : Hid ((decide (k < len2) && decide (k < 60)) = false) := e1
            clear e1
            go_wp2_with fail
            go_meet
            first | exact ⟨by rw [E1.out], rfl⟩ | simp [q1]
        case rest => as_aux_lemma =>
          obtain ⟨rfl, hwc⟩ := hcut
          have hwc' := hwc.symm
          subst hwc'
          clear hwc
          go_upto_if 79 with fail
          go_cut [14, 15] (fun c x wx => ∃ (kk u : Nat), c = .int .i64 kk ∧ x = .int .u8 u ∧ u ≤ 255 ∧ kk < M ∧ k ≤ kk ∧ (60 ≤ kk → u = 0) ∧ Hid ((kk : Int) - 60 ≤ (cdn J R.length : Int) ∨ FIN R X J R.length) ∧ wx = wo)
          case first => as_aux_lemma =>
            by_cases q1 : k < len2 ∧ k < 60
            · have e1 : (decide (k < len2) && decide (k < 60)) = true := by simp [q1.1, q1.2]
              rw [e1]
              obtain ⟨ub, uo, uu, e2, hu1, hu2⟩ : ∃ b o, ∃ u : Nat, a2 = some ⟨b, o, none⟩ ∧ u ≤ 255 ∧ wo.cell? ⟨b, o + k, none⟩ = some (.int .u8 u) := by
                rcases HC2.out with e | ⟨b, o, e, hb, _, _, hh⟩
                · omega
                · obtain ⟨u, g1, g2⟩ := hh k q1.1
                  have bw := B2.out.trans (T.out.bel.mono B2.out.size)
                  exact ⟨b, o, u, e, g1, (bw.cell (p := ⟨b, o + k, none⟩) hb).trans g2⟩
              subst e2
              have q1i : (k : Int) < (len2 : Int) := by omega
              have k0 : (0 : Int) ≤ (k : Int) := by omega
              have k60 : ¬ 60 ≤ k := by omega
              clear e1
              go_wp2_with fail
              go_meet
              exact ⟨k, uu, rfl, rfl, hu1, hlt, Nat.le_refl _, fun q => absurd q k60, INV, rfl⟩
            · have e1 : (decide (k < len2) && decide (k < 60)) = false := by
                by_cases q2 : k < len2
                · simp [q2]; omega
                · simp [q2]
              rw [e1]
              clear e1
              by_cases q2 : k < 60
              · have q2i : (k : Int) < 60 := by omega
                have m60 : 60 < M := by have := HM.out; omega
                go_wp2_with fail
                go_meet
                exact ⟨60, 0, rfl, rfl, by omega, m60, by omega, fun _ => rfl, Or.inl (by omega), rfl⟩
              · have q2i : ¬ (k : Int) < 60 := by omega
                go_wp2_with fail
                go_meet
                exact ⟨k, 0, rfl, rfl, by omega, hlt, Nat.le_refl _, fun _ => rfl, INV, rfl⟩
          case rest => as_aux_lemma =>
            clear INV
            obtain ⟨kk, u, rfl, rfl, hu, hkM, hkk, hu0, INV, hwc⟩ := hcut
            have hwc' := hwc.symm
            subst hwc'
            clear hwc
            by_cases h240 : 240 ≤ u
            · have h240i : (240 : Int) ≤ (u : Int) := by omega
              have kk60 : ¬ 60 ≤ kk := fun q => by have := hu0 q; omega
              obtain ⟨c0, c1, c2, c3⟩ := T.out.cells
              go_wp2_with fail
              refine (pcrash OK.out wo _ _ _ T.out.reads).mono ?_
              rintro e w7 ⟨p1, p2, p3, p4, p5, p6, rfl, po⟩
              obtain ⟨d0, d1, d2, d3⟩ := (T.out.up po.2).cells
              obtain ⟨f0, f1, f2, f3⟩ := (T.out.up po.2).free
              obtain ⟨w8, hw8⟩ : ∃ y, y = put4 w7 bb (.slice p1 R.length p2) (.slice p3 X.length p4) (.int .i64 0) (.slice p5 R.length p6) := ⟨_, rfl⟩
              have HW8 : Hid (w8 = (((w7.setCell ⟨bb, 0, none⟩ (.slice p1 R.length p2)).setCell ⟨bb, 1, none⟩ (.slice p3 X.length p4)).setCell ⟨bb, 2, none⟩ (.int .i64 0)).setCell ⟨bb, 3, none⟩ (.slice p5 R.length p6)) := hw8
              have T8 : Hid (ST w2 bb db w8.heap.size R.length (.slice p1 R.length p2) (.slice p3 X.length p4) (.slice p5 R.length p6) R X (crs J J.length) (dl (crs J J.length) R.length) (rl (crs J J.length) R.length) (w8.alloc (.cells ZB 4))) := (by
                show ST _ _ _ _ _ _ _ _ _ _ _ _ _ _
                rw [(rl_crs HJL.out).1, (rl_crs HJL.out).2, hw8]
                exact NEWB.out _ _ _ _ _ _ _ _ _ _ (po.st T.out))
              have OK8 : Hid (okR R X 0 (crs J J.length) = true) := crs_ok OK.out
              clear po hw8 c0 c1 c2 c3 T
              go_upto_region 24 with fail
              rw [← HW8.out]
              clear HW8 d0 d1 d2 d3 f0 f1 f2 f3
              go_wp2_with fail
              go_roundw
              case rel => exact ⟨kk + 1, w8.heap.size, _, _, _, _, _, _, _, by omega, by go_num, rfl, T8, OK8, Or.inl (by omega)⟩
              case measure => simp [intOf]; omega
            · have h240i : ¬ (240 : Int) ≤ (u : Int) := by omega
              obtain ⟨c0, c1, c2, c3⟩ := T.out.cells
              go_wp2_with fail
              refine (pstart OK.out wo _ _ _ T.out.reads).mono ?_
              rintro e w7 ⟨p1, p2, p3, p4, p5, p6, l1, l2, rfl, po, ow⟩
              obtain ⟨C, hC⟩ : ∃ C, C = jn R X J R.length := ⟨_, rfl⟩
              obtain ⟨L, hL⟩ : ∃ L, L = ln R X J R.length := ⟨_, rfl⟩
              have HC : Hid (C = jn R X J R.length) := hC
              have HL : Hid (L = ln R X J R.length) := hL
              rw [← hC] at po
              rw [← hL] at ow ⊢
              obtain ⟨nx, hnx⟩ : ∃ y, y = w7.heap.size := ⟨_, rfl⟩
              have HNX : Hid (nx = w7.heap.size) := hnx
              obtain ⟨w8, hw8⟩ : ∃ y, y = w7.alloc (.cells #[.slice p1 R.length p2, .slice p3 X.length p4, .int .i64 0, .slice p5 R.length p6] 30) := ⟨_, rfl⟩
              have HW8 : Hid (w8 = w7.alloc (.cells #[.slice p1 R.length p2, .slice p3 X.length p4, .int .i64 0, .slice p5 R.length p6] 30)) := hw8
              have b8 : Below w7.heap.size w7 w8 := by rw [hw8]; exact (Below.refl _ _).alloc (Nat.le_refl _) _
              have U8 := T.out.up (po.2.trans (b8.mono po.2.size))
              have X8 : Bl w8 nx 30 #[.slice p1 R.length p2, .slice p3 X.length p4, .int .i64 0, .slice p5 R.length p6] := by rw [hw8, hnx]; exact Bl.new w7 30 _
              obtain ⟨w9, hw9⟩ : ∃ y, y = put4 w8 bb (.slice p1 R.length p2) (.slice p3 X.length p4) (.int .i64 0) (.slice p5 R.length p6) := ⟨_, rfl⟩
              have HW9' : Hid (w9 = (((w8.setCell ⟨bb, 0, none⟩ (.slice p1 R.length p2)).setCell ⟨bb, 1, none⟩ (.slice p3 X.length p4)).setCell ⟨bb, 2, none⟩ (.int .i64 0)).setCell ⟨bb, 3, none⟩ (.slice p5 R.length p6)) := hw9
              have hl0 : L.length ≤ R.length := by rw [hL]; exact ln_len _ _ _ _
              have T9 : Hid (ST w2 bb db rk R.length (.slice p1 R.length p2) (.slice p3 X.length p4) (.slice p5 R.length p6) R X C (dl J R.length) (rb R X J R.length 0) w9 ∧ w9.ownsRow 0 2 1 (.slice l1 L.length l2) L.length (ints L)) := (by
                refine ⟨?_, ?_⟩
                · rw [rb_zero, hw9, hw8]
                  exact po.st2 T.out _
                · rw [hw9]
                  have q := row_kb (S := fun _ => False) ow (KB.of_below b8) (fun _ _ z => z)
                  exact row_kb q ((((kb_set w8 bb 0 _).trans (kb_set _ bb 1 _)).trans (kb_set _ bb 2 _)).trans (kb_set _ bb 3 _)) (fun g hg e => (row_ty q g hg).ne U8.bx.ty (by decide) e))
              have OKC : Hid (okR R X 0 C = true) := (by show _ = _; rw [hC]; exact jn_fin OK.out)
              obtain ⟨d0, d1, d2, d3⟩ := U8.cells
              obtain ⟨f0, f1, f2, f3⟩ := U8.free
              have y0 : w8.cell? ⟨nx, 0, none⟩ = some (.slice p1 R.length p2) := by rw [X8.cell]; rfl
              have y1 : w8.cell? ⟨nx, 1, none⟩ = some (.slice p3 X.length p4) := by rw [X8.cell]; rfl
              have y2 : w8.cell? ⟨nx, 2, none⟩ = some (.int .i64 0) := by rw [X8.cell]; rfl
              have y3 : w8.cell? ⟨nx, 3, none⟩ = some (.slice p5 R.length p6) := by rw [X8.cell]; rfl
              clear po ow hw8 hw9 hC hL hnx b8 U8 X8 c0 c1 c2 c3 T
              go_upto_region 26 with fail
              rw [← HW8.out, ← HNX.out]
              clear HW8 HNX
              go_upto_region 27 with fail
              rw [← HW9'.out]
              clear HW9' d0 d1 d2 d3 f0 f1 f2 f3 y0 y1 y2 y3
              go_wp2_with fail
              go_loopw [18] (fun c wr => ∃ p : Nat, p ≤ L.length ∧ c = .int .i64 p ∧ Hid (ST w2 bb db rk R.length (.slice p1 R.length p2) (.slice p3 X.length p4) (.slice p5 R.length p6) R X C (dl J R.length) (rb R X J R.length p) wr ∧ wr.ownsRow 0 2 1 (.slice l1 L.length l2) L.length (ints L))) (fun c _ => L.length - (intOf c).toNat)
              case atStart => exact ⟨0, Nat.zero_le _, rfl, T9⟩
              case round => as_aux_lemma =>
                clear T9
                obtain ⟨p, hp, rfl, T⟩ := hrel
                obtain ⟨w10, hw10⟩ : ∃ x : World, x = wr := ⟨_, rfl⟩
                subst hw10
                by_cases hpl : p < L.length
                · have p0 : (0 : Int) ≤ (p : Int) := by omega
                  have pl : (p : Int) < (L.length : Int) := by omega
                  obtain ⟨i, hLi, hin, h0, hfr, hnot⟩ : ∃ i : Nat, L.getD p 0 = (i : Int) + 1 ∧ i < R.length ∧ hw J i = 0 ∧ fr R J i = true ∧ ((i : Int) + 1) ∉ L.take p := by
                    have := ln_at (R := R) (X := X) (J := J) (n := R.length) (p := p) (by rw [← HL.out]; exact hpl)
                    rw [← HL.out] at this
                    exact this
                  obtain ⟨gb, go', e1, v1⟩ := read_at (Lists.reads_row T.out.2) p hpl
                  subst e1
                  rw [hLi] at v1
                  obtain ⟨q1, q2⟩ := T.out.1.rcell i hin
                  rw [rb_at hin, show (hw J i == 1) = false by rw [h0]; rfl, ← HL.out, decide_eq_false hnot, Bool.or_false] at q1
                  obtain ⟨q3, _⟩ := T.out.1.dcell i hin
                  rw [dl_at hin, if_neg (by omega)] at q3
                  have SF1 := SFW.out w10 T.out.1.bel
                  have sc0 : w10.cell? ⟨sb, 0, none⟩ = some (.slice ta R.length tc) := by rw [SF1.bx.cell]; rfl
                  obtain ⟨tb, tof, e2, _, ua, uc, v2, v3⟩ := SF1.task i hin
                  subst e2
                  have NB : Hid (ST w2 bb db rk R.length (.slice p1 R.length p2) (.slice p3 X.length p4) (.slice p5 R.length p6) R X C (dl J R.length) (rb R X J R.length (p + 1)) (w10.setCell ⟨rk, i, none⟩ (.bool true)) ∧ (w10.setCell ⟨rk, i, none⟩ (.bool true)).ownsRow 0 2 1 (.slice (some ⟨gb, go', none⟩) L.length l2) L.length (ints L)) := (by
                    refine ⟨?_, row_kb T.out.2 (kb_set w10 rk i _) (fun g hg e => (row_ty T.out.2 g hg).ne (row_ty T.out.1.rn rk rfl) (by decide) e)⟩
                    have := T.out.1.setB i true
                    rw [rb_next (by rw [← HL.out]; exact hpl) (by rw [← HL.out]; exact hLi)] at this
                    exact this)
                  have AFT : Hid (∀ m, m < (Tk.cl R i).length → ∃ (b o : Nat) (j : Nat), ua = some ⟨b, o, none⟩ ∧ w10.cell? ⟨b, o + m, none⟩ = some (.int .i64 ((j : Int) + 1)) ∧ j < R.length ∧ w10.cell? ⟨db, j, none⟩ = some (.int .i64 1)) := fun m hm => (by
                    obtain ⟨b, o, e, v⟩ := read_at v3 m hm
                    have A := HF.out.aft i hin m hm
                    have d2' := done_two hfr hm
                    obtain ⟨j, hj⟩ : ∃ j : Nat, j = ((Tk.cl R i).getD m 0 - 1).toNat := ⟨_, rfl⟩
                    rw [← hj] at d2'
                    have dc := (T.out.1.dcell j (by omega)).1
                    rw [dl_at (by omega), if_pos d2'] at dc
                    refine ⟨b, o, j, e, ?_, by omega, dc⟩
                    rw [v, show (Tk.cl R i).getD m 0 = (j : Int) + 1 by omega])
                  have i1 : ¬ (i : Int) + 1 < 1 := by omega
                  have i3 : ¬ (R.length : Int) < (i : Int) + 1 := by omega
                  have i4 : (0 : Int) ≤ (i : Int) := by omega
                  have i5 : (i : Int) < (R.length : Int) := by omega
                  have cl60 : (Tk.cl R i).length ≤ 60 := HF.out.len i hin
                  clear hLi h0 hfr hnot SF1 v3 T hp
                  generalize (Tk.cl R i).length = cn' at *
                  go_wp2_with fail
                  go_loopw [21] (fun c wr => ∃ m : Nat, m ≤ cn' ∧ c = .int .i64 m ∧ wr = w10) (fun c _ => cn' - (intOf c).toNat)
                  case atStart => exact ⟨0, Nat.zero_le _, rfl, rfl⟩
                  case round => as_aux_lemma =>
                    obtain ⟨m, hm, rfl, hwr⟩ := hrel
                    have hwr' := hwr.symm
                    subst hwr'
                    clear hwr
                    by_cases hml : m < cn'
                    · have m0 : (0 : Int) ≤ (m : Int) := by omega
                      have m1 : (m : Int) < (cn' : Int) := by omega
                      obtain ⟨ab, ao, j, e3, v4, j1, v5⟩ := AFT.out m hml
                      subst e3
                      have j0 : (0 : Int) ≤ (j : Int) := by omega
                      have j2 : (j : Int) < (R.length : Int) := by omega
                      go_wp2_with fail
                      go_roundw
                      case rel => exact ⟨m + 1, by omega, by go_num, trivial⟩
                      case measure => simp [intOf]; omega
                    · have m1 : ¬ (m : Int) < (cn' : Int) := by omega
                      go_wp2_with fail
                      go_roundw
                      case rel => exact ⟨p + 1, by omega, by go_num, NB⟩
                      case measure => simp [intOf]; omega
                · have pl : ¬ (p : Int) < (L.length : Int) := by omega
                  have ep : p = L.length := by omega
                  have TC : Hid (ST w2 bb db rk R.length (.slice p1 R.length p2) (.slice p3 X.length p4) (.slice p5 R.length p6) R X C (dl C R.length) (rl C R.length) w10) := (by
                    have := T.out.1
                    rw [ep, HL.out, rb_end HJL.out, ← HC.out] at this
                    have e := dl_jn (R := R) (X := X) HJL.out
                    rw [← HC.out] at e
                    rw [e]
                    exact this)
                  have SF1 := SFW.out w10 TC.out.bel
                  have sc0 : w10.cell? ⟨sb, 0, none⟩ = some (.slice ta R.length tc) := by rw [SF1.bx.cell]; rfl
                  have sc1 : w10.cell? ⟨sb, 1, none⟩ = some (.slice la X.length lc) := by rw [SF1.bx.cell]; rfl
                  have HSF : Hid (SF sb ta tc la lc R X w10) := SF1
                  clear SF1 T ep hp
                  go_wp2_with fail
                  go_loopw [22] (fun c wr => ∃ g : Nat, g ≤ X.length ∧ c = .int .i64 g ∧ wr = w10) (fun c _ => X.length - (intOf c).toNat)
                  case atStart => exact ⟨0, Nat.zero_le _, rfl, rfl⟩
                  case round => as_aux_lemma =>
                    obtain ⟨g, hg, rfl, hwr⟩ := hrel
                    have hwr' := hwr.symm
                    subst hwr'
                    clear hwr
                    by_cases hgl : g < X.length
                    · have g0 : (0 : Int) ≤ (g : Int) := by omega
                      have g1 : (g : Int) < (X.length : Int) := by omega
                      obtain ⟨xb, xo, e4, v6⟩ := HSF.out.lim g hgl
                      subst e4
                      have LIM : Hid (rn R C ((g : Int) + 1) R.length ≤ X.getD g 0) := (by
                        obtain ⟨_, _, o3, _, o5⟩ := okR_iff.1 OKC.out
                        have := o5 g hgl
                        rw [o3] at this
                        exact this)
                      go_wp2_with fail
                      go_loopw [23, 24] (fun s c wr => ∃ t : Nat, t ≤ R.length ∧ c = .int .i64 t ∧ s = .int .i64 (rn R C ((g : Int) + 1) t) ∧ wr = w10) (fun _ c _ => R.length - (intOf c).toNat)
                      case atStart => exact ⟨0, Nat.zero_le _, rfl, rfl, rfl⟩
                      case round => as_aux_lemma =>
                        obtain ⟨t, ht, rfl, rfl, hwr⟩ := hrel
                        have hwr' := hwr.symm
                        subst hwr'
                        clear hwr
                        obtain ⟨rb1, rb2⟩ := rn_rng R C ((g : Int) + 1) t
                        by_cases htl : t < R.length
                        · have t0' : (0 : Int) ≤ (t : Int) := by omega
                          have t1' : (t : Int) < (R.length : Int) := by omega
                          obtain ⟨q1, _⟩ := TC.out.rcell t htl
                          rw [rl_at htl] at q1
                          obtain ⟨tb, tof, e5, v7, _⟩ := HSF.out.task t htl
                          subst e5
                          have NX := rn_next R C ((g : Int) + 1) t
                          cases hq : (hw C t == 1)
                          · rw [hq] at q1 NX
                            rw [Bool.false_and, if_neg (by simp)] at NX
                            have HNX : Hid (rn R C ((g : Int) + 1) (t + 1) = rn R C ((g : Int) + 1) t) := NX
                            clear NX hq
                            generalize rn R C ((g : Int) + 1) t = rr at *
                            go_wp2_with fail
                            go_roundw
                            case rel => exact ⟨t + 1, by omega, by go_num, by rw [HNX.out], trivial⟩
                            case measure => simp [intOf]; omega
                          · rw [hq] at q1 NX
                            rw [Bool.true_and] at NX
                            by_cases hz : Tk.cz R t 1 = (g : Int) + 1
                            · rw [if_pos (by simpa using hz)] at NX
                              have HNX : Hid (rn R C ((g : Int) + 1) (t + 1) = rn R C ((g : Int) + 1) t + 1) := NX
                              rw [hz] at v7
                              clear NX hq hz
                              generalize rn R C ((g : Int) + 1) t = rr at *
                              go_wp2_with fail
                              go_roundw
                              case rel => exact ⟨t + 1, by omega, by go_num, by rw [HNX.out], trivial⟩
                              case measure => simp [intOf]; omega
                            · rw [if_neg (by simpa using hz)] at NX
                              have HNX : Hid (rn R C ((g : Int) + 1) (t + 1) = rn R C ((g : Int) + 1) t) := NX
                              have hz' : (Tk.cz R t 1 == (g : Int) + 1) = false := by simpa using hz
                              clear NX hq
                              generalize rn R C ((g : Int) + 1) t = rr at *
                              generalize Tk.cz R t 1 = zz at *
                              go_wp2_with fail
                              go_roundw
                              case rel => exact ⟨t + 1, by omega, by go_num, by rw [HNX.out], trivial⟩
                              case measure => simp [intOf]; omega
                        · have t1' : ¬ (t : Int) < (R.length : Int) := by omega
                          have et : t = R.length := by omega
                          subst et
                          have lim' : ¬ X.getD g 0 < rn R C ((g : Int) + 1) R.length := by have := LIM.out; omega
                          generalize rn R C ((g : Int) + 1) R.length = rr at *
                          generalize X.getD g 0 = xx at *
                          go_wp2_with fail
                          go_roundw
                          case rel => exact ⟨g + 1, by omega, by go_num, trivial⟩
                          case measure => simp [intOf]; omega
                    · have g1 : ¬ (g : Int) < (X.length : Int) := by omega
                      go_wp2_with fail
                      clear sc0 sc1
                      go_loopw [25] (fun c wr => ∃ t : Nat, t ≤ R.length ∧ c = .int .i64 t ∧ Hid (∀ q : Nat, q < t → hw C (((q : Int) + (u : Int)) % (R.length : Int)).toNat ≠ 1) ∧ wr = w10) (fun c _ => R.length - (intOf c).toNat)
                      case atStart => exact ⟨0, Nat.zero_le _, rfl, fun q hq => absurd hq (by omega), rfl⟩
                      case round => as_aux_lemma =>
                        obtain ⟨t, ht, rfl, NO, hwr⟩ := hrel
                        have hwr' := hwr.symm
                        subst hwr'
                        clear hwr
                        have HCL : Hid (C.length = R.length) := (okR_iff.1 OKC.out).2.2.1
                        by_cases htl : t < R.length
                        · have t1' : (t : Int) < (R.length : Int) := by omega
                          obtain ⟨ax, hat⟩ : ∃ x : Nat, (x : Int) = ((t : Int) + (u : Int)) % (R.length : Int) := ⟨(((t : Int) + (u : Int)) % (R.length : Int)).toNat, by have := Int.emod_nonneg ((t : Int) + (u : Int)) (show (R.length : Int) ≠ 0 by omega); omega⟩
                          have atn : ax < R.length := by have := Int.emod_lt_of_pos ((t : Int) + (u : Int)) (show (0 : Int) < (R.length : Int) by omega); omega
                          have tm : ((t : Int) + (u : Int)).tmod (R.length : Int) = (ax : Int) := by rw [Int.tmod_eq_emod_of_nonneg (by omega), hat]
                          have tm2 : ((t : Int) + (u : Int)) % (R.length : Int) = (ax : Int) := hat.symm
                          have nz : ¬ (R.length : Int) = 0 := by omega
                          have a0 : (0 : Int) ≤ (ax : Int) := by omega
                          have a1 : (ax : Int) < (R.length : Int) := by omega
                          obtain ⟨q1, q2⟩ := TC.out.rcell ax atn
                          rw [rl_at atn] at q1
                          cases hq : (hw C ax == 1)
                          · rw [hq] at q1
                            have NO2 : Hid (∀ q : Nat, q < t + 1 → hw C (((q : Int) + (u : Int)) % (R.length : Int)).toNat ≠ 1) := fun q hql => (by
                              by_cases e : q = t
                              · subst e
                                rw [tm2, Int.toNat_natCast]
                                simpa using hq
                              · exact NO.out q (by omega))
                            clear hq hat
                            go_wp2_with fail
                            go_roundw
                            case rel => exact ⟨t + 1, by omega, by go_num, NO2, trivial⟩
                            case measure => simp [intOf]; omega
                          · have h1 : hw C ax = 1 := by simpa using hq
                            have H1 : Hid (hw C ax = 1) := h1
                            rw [hq] at q1
                            clear hq hat h1 NO
                            obtain ⟨r3, hr3⟩ : ∃ r3 : Nat, r3 = u % 3 := ⟨_, rfl⟩
                            have um1 : (u : Int).tmod 3 = (r3 : Int) := by rw [Int.tmod_eq_emod_of_nonneg (by omega)]; omega
                            have um2 : (u : Int) % 3 = (r3 : Int) := by omega
                            clear hr3
                            obtain ⟨gd, hgd⟩ : ∃ gd : Bool, gd = (decide (60 ≤ kk) || !(r3 == 0)) := ⟨_, rfl⟩
                            have HGD : Hid (gd = (decide (60 ≤ kk) || !(r3 == 0))) := hgd
                            clear hgd
                            go_upto_region 56 with fail
                            go_cut [27] (fun v wx => v = .bool gd ∧ wx = w10)
                            case first => as_aux_lemma =>
                              by_cases k6 : 60 ≤ kk
                              · have E : Hid (gd = true) := (by show _ = _; rw [HGD.out, decide_eq_true k6]; rfl)
                                have k6i : (60 : Int) ≤ (kk : Int) := by omega
                                go_wp2_with fail
                                go_meet
                                exact ⟨by rw [E.out], rfl⟩
                              · have k6i : ¬ (60 : Int) ≤ (kk : Int) := by omega
                                by_cases r0 : r3 = 0
                                · have E : Hid (gd = false) := (by show _ = _; rw [HGD.out, decide_eq_false k6, r0]; rfl)
                                  subst r0
                                  go_wp2_with fail
                                  go_meet
                                  exact ⟨by rw [E.out], rfl⟩
                                · have E : Hid (gd = true) := (by show _ = _; rw [HGD.out, decide_eq_false k6]; simp [r0])
                                  have r0i : ¬ (r3 : Int) = 0 := by omega
                                  have r0b : ((r3 : Int) != 0) = true := by simp; omega
                                  go_wp2_with fail
                                  go_meet
                                  exact ⟨by rw [E.out], rfl⟩
                            case rest => as_aux_lemma =>
                              obtain ⟨rfl, hwc⟩ := hcut
                              have hwc' := hwc.symm
                              subst hwc'
                              clear hwc um1 um2
                              obtain ⟨c0, c1, c2, c3⟩ := TC.out.cells
                              go_wp2_with fail
                              refine (preport (ok := gd) OKC.out atn H1.out w10 _ _ _ TC.out.reads).mono ?_
                              rintro e w11 ⟨z1, z2, z3, z4, z5, z6, rfl, po⟩
                              obtain ⟨C2, hC2⟩ : ∃ C2, C2 = rps R C ((ax : Int) + 1) gd := ⟨_, rfl⟩
                              have HC2' : Hid (C2 = rps R C ((ax : Int) + 1) gd) := hC2
                              rw [← hC2] at po
                              obtain ⟨ny, hny⟩ : ∃ y, y = w11.heap.size := ⟨_, rfl⟩
                              have HNY : Hid (ny = w11.heap.size) := hny
                              obtain ⟨w12, hw12⟩ : ∃ y, y = w11.alloc (.cells #[.slice z1 R.length z2, .slice z3 X.length z4, .int .i64 0, .slice z5 R.length z6] 30) := ⟨_, rfl⟩
                              have HW12 : Hid (w12 = w11.alloc (.cells #[.slice z1 R.length z2, .slice z3 X.length z4, .int .i64 0, .slice z5 R.length z6] 30)) := hw12
                              have b12 : Below w11.heap.size w11 w12 := by rw [hw12]; exact (Below.refl _ _).alloc (Nat.le_refl _) _
                              have U12 := TC.out.up (po.2.trans (b12.mono po.2.size))
                              have X12 : Bl w12 ny 30 #[.slice z1 R.length z2, .slice z3 X.length z4, .int .i64 0, .slice z5 R.length z6] := by rw [hw12, hny]; exact Bl.new w11 30 _
                              obtain ⟨w13, hw13⟩ : ∃ y, y = put4 w12 bb (.slice z1 R.length z2) (.slice z3 X.length z4) (.int .i64 0) (.slice z5 R.length z6) := ⟨_, rfl⟩
                              have HW13 : Hid (w13 = (((w12.setCell ⟨bb, 0, none⟩ (.slice z1 R.length z2)).setCell ⟨bb, 1, none⟩ (.slice z3 X.length z4)).setCell ⟨bb, 2, none⟩ (.int .i64 0)).setCell ⟨bb, 3, none⟩ (.slice z5 R.length z6)) := hw13
                              have T13 : Hid (ST w2 bb db rk R.length (.slice z1 R.length z2) (.slice z3 X.length z4) (.slice z5 R.length z6) R X C2 (dl C R.length) (rl C R.length) w13) := (by
                                show ST _ _ _ _ _ _ _ _ _ _ _ _ _ _
                                rw [hw13, hw12]
                                exact po.st2 TC.out _)
                              have OK2 : Hid (okR R X 0 C2 = true) := (by show _ = _; rw [hC2]; exact rps_ok OKC.out _ _)
                              obtain ⟨d0, d1, d2, d3⟩ := U12.cells
                              obtain ⟨f0, f1, f2, f3⟩ := U12.free
                              have y0 : w12.cell? ⟨ny, 0, none⟩ = some (.slice z1 R.length z2) := by rw [X12.cell]; rfl
                              have y1 : w12.cell? ⟨ny, 1, none⟩ = some (.slice z3 X.length z4) := by rw [X12.cell]; rfl
                              have y2 : w12.cell? ⟨ny, 2, none⟩ = some (.int .i64 0) := by rw [X12.cell]; rfl
                              have y3 : w12.cell? ⟨ny, 3, none⟩ = some (.slice z5 R.length z6) := by rw [X12.cell]; rfl
                              clear po hC2 hny hw12 hw13 b12 U12 X12 c0 c1 c2 c3 q1 q2
                              go_upto_region 58 with fail
                              rw [← HW12.out, ← HNY.out]
                              clear HW12 HNY
                              go_upto_region 61 with fail
                              rw [← HW13.out]
                              clear HW13 d0 d1 d2 d3 f0 f1 f2 f3 y0 y1 y2 y3
                              obtain ⟨q1, q2⟩ := T13.out.rcell ax atn
                              have T14 : Hid (ST w2 bb db rk R.length (.slice z1 R.length z2) (.slice z3 X.length z4) (.slice z5 R.length z6) R X C2 (dl C R.length) (rl C2 R.length) (w13.setCell ⟨rk, ax, none⟩ (.bool false))) := (by
                                have := T13.out.setB ax false
                                rw [rl_rps (R := R) (ok := gd) HCL.out atn H1.out, ← HC2'.out] at this
                                exact this)
                              obtain ⟨w14, hw14⟩ : ∃ y, y = w13.setCell ⟨rk, ax, none⟩ (.bool false) := ⟨_, rfl⟩
                              have HW14 : Hid (w14 = w13.setCell ⟨rk, ax, none⟩ (.bool false)) := hw14
                              rw [← hw14] at T14
                              clear hw14 T13
                              go_upto_region 62 with fail
                              rw [← HW14.out]
                              clear HW14 q1 q2
                              cases gd
                              · have T15 : Hid (ST w2 bb db rk R.length (.slice z1 R.length z2) (.slice z3 X.length z4) (.slice z5 R.length z6) R X C2 (dl C2 R.length) (rl C2 R.length) w14) := (by
                                  have := T14.out
                                  rw [← dl_bad (R := R) HCL.out atn H1.out, ← HC2'.out] at this
                                  exact this)
                                have k6 : ¬ 60 ≤ kk := fun q => by have := HGD.out; rw [decide_eq_true q] at this; simp at this
                                clear T14
                                go_wp2_with fail
                                go_roundw
                                case rel => exact ⟨kk + 1, rk, C2, _, _, _, _, _, _, by omega, by go_num, rfl, T15, OK2, Or.inl (by omega)⟩
                                case measure => simp [intOf]; omega
                              · obtain ⟨q3, q4⟩ := T14.out.dcell ax atn
                                rw [dl_at atn, if_neg (by have := H1.out; omega)] at q3
                                have T15 : Hid (ST w2 bb db rk R.length (.slice z1 R.length z2) (.slice z3 X.length z4) (.slice z5 R.length z6) R X C2 (dl C2 R.length) (rl C2 R.length) (w14.setCell ⟨db, ax, none⟩ (.int .i64 1))) := (by
                                  have := T14.out.setD ax 1
                                  rw [dl_good (R := R) HCL.out atn H1.out, ← HC2'.out] at this
                                  exact this)
                                have INV2 : Hid (((kk + 1 : Nat) : Int) - 60 ≤ (cdn C2 R.length : Int) ∨ FIN R X C2 R.length) := (by
                                  have e1 := rep_cdn (R := R) HCL.out atn H1.out
                                  rw [← HC2'.out] at e1
                                  have e2 := jn_cdn (R := R) (X := X) R.length HJL.out
                                  rw [← HC.out] at e2
                                  rcases INV.out with q | q
                                  · left; omega
                                  · exfalso
                                    have e3 := fin_jn q.2 R.length (Nat.le_refl _)
                                    rw [← HC.out] at e3
                                    have := q.1 ax atn
                                    rw [← e3] at this
                                    exact this H1.out)
                                clear T14
                                go_wp2_with fail
                                go_roundw
                                case rel => exact ⟨kk + 1, rk, C2, _, _, _, _, _, _, by omega, by go_num, rfl, T15, OK2, INV2⟩
                                case measure => simp [intOf]; omega
                        · have t1' : ¬ (t : Int) < (R.length : Int) := by omega
                          have et : t = R.length := by omega
                          have FN : Hid (FIN R X C R.length) := (by
                            have h := NO.out
                            rw [et] at h
                            have h2 := turn_all (by omega) (u : Int) (P := fun i => hw C i ≠ 1) h
                            have q := fin_of (R := R) (X := X) HJL.out (by rw [← HC.out]; exact h2)
                            rw [← HC.out] at q
                            rw [q.2]
                            exact q.1)
                          clear NO et
                          go_wp2_with fail
                          go_roundw
                          case rel => exact ⟨kk + 1, rk, C, _, _, _, _, _, _, by omega, by go_num, rfl, TC, OKC, Or.inr FN.out⟩
                          case measure => simp [intOf]; omega
      · have i2 : ¬ (k : Int) < (M : Int) := by omega
        have FINJ : Hid (FIN R X J R.length) := (by
          rcases INV.out with q | q
          · exfalso
            have := cdn_le J R.length
            have := HM.out
            omega
          · exact q)
        obtain ⟨c0, c1, c2, c3⟩ := T.out.cells
        obtain ⟨SL, hSL⟩ : ∃ SL, SL = sl R J R.length := ⟨_, rfl⟩
        have HSL : Hid (SL = sl R J R.length) := hSL
        have STK : Hid (Calls Try.prog 20 #[rv (.slice ra R.length rc) (.slice xa X.length xc) 0 (.slice ja R.length jc)] wo fun e w' => ∃ la lc, e = .returned (.slice la SL.length lc) ∧ w'.ownsRow wo.heap.size 2 1 (.slice la SL.length lc) SL.length (ints SL) ∧ Below wo.heap.size wo w') := (by rw [hSL]; exact istuck_yes R X 0 J _ _ _ wo T.out.reads OK.out)
        have sl60 : SL.length ≤ R.length := by rw [hSL]; exact sl_len _ _ _
        clear hSL
        go_wp2_with fail
        refine STK.out.mono ?_
        rintro e w7 ⟨sa, sc, rfl, so, b7⟩
        have T7 : Hid (ST w2 bb db rk R.length (.slice ra R.length rc) (.slice xa X.length xc) (.slice ja R.length jc) R X J (dl J R.length) (rl J R.length) w7) := T.out.up b7
        have SO : Hid (Lists.Reads w7 (.slice sa SL.length sc) SL) := Lists.reads_row so
        clear so b7 c0 c1 c2 c3 T STK
        obtain ⟨c0, c1, c2, c3⟩ := T7.out.cells
        have BEL : Hid (Below w.heap.size w w7) := B2.out.trans (T7.out.bel.mono B2.out.size)
        go_wp2_with fail
        go_loopw [31] (fun c wr => ∃ t : Nat, t ≤ R.length ∧ c = .int .i64 ((t : Int) + 1) ∧ wr = w7) (fun c _ => R.length + 1 - (intOf c).toNat)
        case atStart => exact ⟨0, Nat.zero_le _, rfl, rfl⟩
        case round => as_aux_lemma =>
          obtain ⟨t, ht, rfl, hwr⟩ := hrel
          have hwr' := hwr.symm
          subst hwr'
          clear hwr
          by_cases htl : t < R.length
          · have t1' : (t : Int) + 1 ≤ (R.length : Int) := by omega
            have t2' : (0 : Int) ≤ (t : Int) := by omega
            have t3' : (t : Int) < (R.length : Int) := by omega
            have LT : Hid (decide (((t : Int) + 1) ∈ SL) = !(hw J t == 2)) := (by rw [HSL.out]; exact last_told OK.out HJL.out FINJ.out htl)
            obtain ⟨q3, _⟩ := T7.out.dcell t htl
            rw [dl_at htl] at q3
            obtain ⟨jb, jo, e1, j0⟩ : ∃ b o, ja = some ⟨b, o, none⟩ ∧ w7.cell? ⟨b, o + t * 2, none⟩ = some (.int .i64 (hw J t)) := by
              rcases T7.out.reads.2.2 with ⟨e, _⟩ | ⟨b, o, c, e, _, _, _, hh⟩
              · have := HJL.out; rw [e] at this; simp at this; omega
              · simp at e
                exact ⟨b, o, e.1, (hh t (by have := HJL.out; omega)).1⟩
            subst e1
            go_wp2_with fail
            go_loopw [32, 33] (fun lv c wr => ∃ p : Nat, p ≤ SL.length ∧ c = .int .i64 p ∧ lv = .bool (decide (((t : Int) + 1) ∈ SL.take p)) ∧ wr = w7) (fun _ c _ => SL.length - (intOf c).toNat)
            case atStart => exact ⟨0, Nat.zero_le _, rfl, by simp, rfl⟩
            case round => as_aux_lemma =>
              obtain ⟨p, hp, rfl, rfl, hwr⟩ := hrel
              have hwr' := hwr.symm
              subst hwr'
              clear hwr
              by_cases hpl : p < SL.length
              · have p0 : (0 : Int) ≤ (p : Int) := by omega
                have p1 : (p : Int) < (SL.length : Int) := by omega
                have MN : Hid (decide (((t : Int) + 1) ∈ SL.take (p + 1)) = (decide (((t : Int) + 1) ∈ SL.take p) || decide (SL.getD p 0 = (t : Int) + 1))) := mem_next hpl
                obtain ⟨gb, go', e2, v1⟩ := read_at SO.out p hpl
                subst e2
                cases hb : decide (((t : Int) + 1) ∈ SL.take p)
                · by_cases hz : SL.getD p 0 = (t : Int) + 1
                  · have MN2 : Hid (decide (((t : Int) + 1) ∈ SL.take (p + 1)) = true) := (by show _ = _; rw [MN.out, decide_eq_true hz, Bool.or_true])
                    rw [hz] at v1
                    clear hb hz MN
                    go_wp2_with fail
                    go_roundw
                    case rel => exact ⟨p + 1, by omega, by go_num, by rw [MN2.out], trivial⟩
                    case measure => simp [intOf]; omega
                  · have MN2 : Hid (decide (((t : Int) + 1) ∈ SL.take (p + 1)) = false) := (by show _ = _; rw [MN.out, decide_eq_false hz, hb]; rfl)
                    have hz' : (SL.getD p 0 == (t : Int) + 1) = false := by simpa using hz
                    clear hb MN
                    generalize SL.getD p 0 = zz at *
                    go_wp2_with fail
                    go_roundw
                    case rel => exact ⟨p + 1, by omega, by go_num, by rw [MN2.out], trivial⟩
                    case measure => simp [intOf]; omega
                · have MN2 : Hid (decide (((t : Int) + 1) ∈ SL.take (p + 1)) = true) := (by show _ = _; rw [MN.out, hb]; rfl)
                  clear hb MN
                  go_wp2_with fail
                  go_roundw
                  case rel => exact ⟨p + 1, by omega, by go_num, by rw [MN2.out], trivial⟩
                  case measure => simp [intOf]; omega
              · have p1 : ¬ (p : Int) < (SL.length : Int) := by omega
                have ep : p = SL.length := by omega
                subst ep
                rw [List.take_length, LT.out]
                by_cases h2 : hw J t = 2
                · have e3 : (hw J t == 2) = true := by simpa using h2
                  rw [e3]
                  rw [if_pos h2] at q3
                  rw [h2] at j0
                  clear e3 h2 LT
                  go_wp2_with fail
                  go_roundw
                  case rel => exact ⟨t + 1, by omega, by go_num, trivial⟩
                  case measure => simp [intOf]; omega
                · have e3 : (hw J t == 2) = false := by simpa using h2
                  rw [e3]
                  rw [if_neg h2] at q3
                  clear LT
                  generalize hw J t = hh at *
                  go_wp2_with fail
                  go_roundw
                  case rel => exact ⟨t + 1, by omega, by go_num, trivial⟩
                  case measure => simp [intOf]; omega
          · have t1' : ¬ (t : Int) + 1 ≤ (R.length : Int) := by omega
            go_wp2_with fail
            go_ret
            exact ⟨rfl, BEL.out⟩
end Go.Proofs.Ytfhpomfdkpfooaa.Ty
