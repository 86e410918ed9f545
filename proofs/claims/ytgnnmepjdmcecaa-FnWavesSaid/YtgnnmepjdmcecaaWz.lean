/- The law of waves, walked. -/
import Derived.Test.YtgnnmepjdmcecaaWq
namespace Go.Proofs.Ytgnnmepjdmcecaa.Flt
open Go.ChangeShapes Go.WideShapes Go.ChangeAt Go.RowKit
open Go.Proofs.Ytgnnmepjdmcecaa.Wv
attribute [local go_sem] run_store_float

set_option maxHeartbeats 400000 in
theorem big_yes (a : Option Addr) (n cap : Nat) (w : World) (h : 1048576 < n) (hn : n < 9223372036854775808) : Calls Try.prog 4 #[.slice a n cap] w fun e w' => e = .returned (.bool true) ∧ w' = w := by
  have h' : (1048576 : Int) < (n : Int) := by omega
  go_enter Try.func4, Try.ntmps4
  go_wp2
  go_ret
  exact ⟨rfl, rfl⟩
set_option maxHeartbeats 400000 in
theorem big_no (a : Option Addr) (n cap : Nat) (w : World) (h : n ≤ 1048576) : Calls Try.prog 4 #[.slice a n cap] w fun e w' => e = .returned (.bool false) ∧ w' = w := by
  have h' : ¬ ((1048576 : Int) < (n : Int)) := by omega
  go_enter Try.func4, Try.ntmps4
  go_wp2
  go_ret
  exact ⟨rfl, rfl⟩

theorem row_cs {w : World} {base g n c : Nat} {L : Pr.Ls} (h : Pr.Row w base (.slice (some ⟨g, 0, none⟩) n c) L) (i : Nat) (hi : i < L.length) : Pr.Cs w g 0 L i := by
  rcases h.reads with ⟨e, _⟩ | ⟨b, o, cap, e, _, _, _, h5⟩
  · rw [e] at hi; exact absurd hi (by simp)
  · simp only [Value.slice.injEq, Option.some.injEq, Addr.mk.injEq] at e
    obtain ⟨⟨rfl, rfl, _⟩, _⟩ := e
    exact h5 i hi


theorem Row.im0 {w : World} {base g c k : Nat} {D : Pr.Ls} (h : Pr.Row w base (.slice (some ⟨g, 0, none⟩) D.length c) D) (hk : k < D.length) : Pr.Row (w.setCell ⟨g, k * 2 + 1, none⟩ (.float .f64 0)) base (.slice (some ⟨g, 0, none⟩) D.length c) (D.set k (Pr.c0 D k, 0)) := by
  obtain ⟨xs, R, G⟩ := h
  have lx : xs.length = D.length * 2 := R.1
  refine ⟨xs.set (k * 2 + 1) (.float .f64 0), by rw [List.length_set]; exact (R.stored (k * 2 + 1) _).1, ?_⟩
  intro i hi
  rw [List.length_set] at hi
  obtain ⟨a0, a1⟩ := G i hi
  unfold Pr.c0 Pr.c1 at *
  rw [Wv.set_at hk]
  by_cases e : i = k
  · subst e
    rw [if_pos rfl]
    refine ⟨?_, ?_⟩
    · rw [List.getElem?_set_ne (by omega)]; exact a0
    · rw [List.getElem?_set_self (by omega)]
  · rw [if_neg e]
    refine ⟨?_, ?_⟩
    · rw [List.getElem?_set_ne (by omega)]; exact a0
    · rw [List.getElem?_set_ne (by omega)]; exact a1
theorem row_st {w : World} {base g c n k : Nat} {D : Pr.Ls} (h : Pr.Row w base (.slice (some ⟨g, 0, none⟩) n c) D) (hn : D.length = n) : w.frozen? ⟨g, k, none⟩ = false ∧ g < w.heap.size ∧ base ≤ g := by
  subst hn
  obtain ⟨xs, R, G⟩ := h
  exact ⟨R.frozenAt _, (R.lt g rfl).2, (R.lt g rfl).1⟩
theorem grown_below {w wa wb : World} {g : Nat} (h : w.grownBy wa (some g)) (hb : Below wa.heap.size wa wb) : w.grownBy wb (some g) :=
  ⟨hb.os.trans h.os, hb.tape.trans h.tape, hb.output.trans h.output, Nat.le_trans h.size hb.size, fun k hk hne => (hb.block k (Nat.lt_of_lt_of_le hk h.size)).trans (h.block k hk hne)⟩
def fl0 (D : Pr.Ls) (k : Nat) (C : Pr.Ls) : Prop := ∀ i, i < C.length → Pr.c0 D i = Pr.c0 C i ∧ (i < k → Pr.c1 D i = 0) ∧ (k ≤ i → Pr.c1 D i = Pr.c1 C i)
theorem fl0.step {D C : Pr.Ls} {k : Nat} (h : fl0 D k C) (hl : D.length = C.length) (hk : k < C.length) : fl0 (D.set k (Pr.c0 D k, 0)) (k + 1) C := by
  intro i hi
  obtain ⟨h0, h1, h2⟩ := h i hi
  unfold Pr.c0 Pr.c1 at *
  rw [Wv.set_at (by omega)]
  by_cases e : i = k
  · subst e
    rw [if_pos rfl]
    exact ⟨h0, fun _ => rfl, fun q => absurd q (by omega)⟩
  · rw [if_neg e]
    exact ⟨h0, fun q => h1 (by omega), fun q => h2 (by omega)⟩
set_option maxRecDepth 20000 in
set_option maxHeartbeats 4000000 in
theorem wavesLaw (a : Option Addr) (len cap : Nat) (w : World) (hc : Fd.Code w a len cap) (hn : len < 9223372036854775808) : Calls Try.prog 3 #[.slice a len cap] w fun e w' => e = .returned (.bool true) ∧ Below w.heap.size w w' := by
  by_cases hl : 1048576 < len
  · have C : Hid (Calls Try.prog 4 #[.slice a len cap] w fun e w' => e = .returned (.bool true) ∧ w' = w) := big_yes a len cap w hl hn
    clear hc
    go_enter Try.func3, Try.ntmps3
    go_wp2_with fail
    refine C.out.mono ?_
    rintro e w1 ⟨rfl, hw⟩
    subst hw
    go_wp2_with fail
    go_ret
    exact ⟨rfl, Below.refl _ _⟩
  have C : Hid (Calls Try.prog 4 #[.slice a len cap] w fun e w' => e = .returned (.bool false) ∧ w' = w) := big_no a len cap w (by omega)
  obtain ⟨B, hB, hcod⟩ := hc.bytes
  obtain ⟨X, hX⟩ := Fd.waves_draw B (by omega)
  rw [hB] at hX
  have D : Hid (∀ w', Below w.heap.size w w' → Calls Try.prog 5 #[.slice a len cap] w' fun e w'' => ∃ v C, e = .returned v ∧ C.map Fd.cnp = X ∧ Pr.Row w'' (w'.heap.size + 1) v C ∧ Below w'.heap.size w' w'') := fun w' hb => hX a cap w' ((hcod.kept hb (Nat.le_refl _)).up hb.size)
  clear hc hX hcod hB
  obtain ⟨m, hm⟩ : ∃ m, m = if Lg.lg X.length then X.length else 0 := ⟨_, rfl⟩
  have HM : Hid (m = if Lg.lg X.length then X.length else 0) := hm
  clear hm
  go_enter Try.func3, Try.ntmps3
  go_wp2_with fail
  refine C.out.mono ?_
  rintro e w1 ⟨rfl, hw⟩
  have hw' := hw.symm
  subst hw'
  clear hw
  go_wp2_with fail
  refine (D.out _ (Below.refl _ _)).mono ?_
  rintro e w2 ⟨v3, C3, rfl, hC3, R3, b2⟩
  have B2 : Hid (Below w.heap.size w w2) := b2
  have K3 : Hid (Pr.Row w2 (w.heap.size + 1) v3 C3 ∧ C3.map Fd.cnp = X) := ⟨R3, hC3⟩
  have l3 : C3.length = X.length := by rw [← hC3, List.length_map]
  obtain ⟨a3, c3, hv3⟩ := R3.form
  rw [l3] at hv3
  clear b2 R3 hC3 C
  subst hv3
  go_wp2_with fail
  refine (swaves C3 _ w2 K3.out.1.reads).mono ?_
  rintro e w3 ⟨v4, C4, rfl, T4, R4, b3⟩
  have B3 : Hid (Below w2.heap.size w2 w3) := b3
  have B3' : Hid (Below w.heap.size w w3) := B2.out.trans (b3.mono B2.out.size)
  obtain ⟨a4, c4, hv4⟩ := R4.form
  rw [T4.1, l3, ← HM.out] at hv4
  clear b3 R4 T4 C4
  subst hv4
  go_wp2_with fail
  refine (D.out _ B3'.out).mono ?_
  rintro e w4 ⟨v5, C5, rfl, hC5, R5, b4⟩
  have B4 : Hid (Below w3.heap.size w3 w4) := b4
  have l5 : C5.length = X.length := by rw [← hC5, List.length_map]
  have K5 : Hid (Pr.Reads w4 v5 C5) := R5.reads
  have E5 : Hid (wf C5 (-1) X.length = wf C3 (-1) X.length) := wf_same (hC5.trans K3.out.2.symm) _
  obtain ⟨a5, c5, hv5⟩ := R5.form
  rw [l5] at hv5
  clear b4 R5 hC5 D
  subst hv5
  go_wp2_with fail
  refine (iwaves C5 _ w4 K5.out).mono ?_
  rintro e w5 ⟨v6, C6, rfl, T6, R6, b5⟩
  rw [l5, E5.out, ← HM.out] at T6
  have B5 : Hid (Below w4.heap.size w4 w5) := b5
  have T6' : Hid (Wl.Tells C6 (wf C3 (-1) X.length) m) := T6
  have K6 : Hid (Pr.Row w5 w4.heap.size v6 C6) := R6
  obtain ⟨a6, c6, hv6⟩ := R6.form
  rw [T6.1] at hv6
  clear b5 R6 T6 E5 K5 l5
  subst hv6
  have B25 : Hid (Below w2.heap.size w2 w5) := (B3.out.trans (B4.out.mono B3.out.size)).trans (B5.out.mono (Nat.le_trans B3.out.size B4.out.size))
  have BW : Hid (Below w.heap.size w w5) := B2.out.trans (B25.out.mono B2.out.size)
  have K3' : Hid (Pr.Row w5 (w.heap.size + 1) (.slice a3 X.length c3) C3) := K3.out.1.on B25.out
  have HK : Hid (w2.heap.size ≤ w4.heap.size) := Nat.le_trans B3.out.size B4.out.size
  clear B3' B3 B4 B5 B25
  have hfit := K3'.out.reads.fits
  rw [l3] at hfit
  cases hlg : Lg.lg X.length
  · have hm0 : m = 0 := by rw [HM.out, hlg]; rfl
    subst hm0
    go_wp2_with fail
    refine (iun_no C3 _ w5 K3'.out.reads (by rw [l3]; exact hlg)).mono ?_
    rintro e w6 ⟨v7, C7, rfl, T7, R7, b6⟩
    obtain ⟨a7, c7, hv7⟩ := R7.form
    rw [T7.1] at hv7
    have B6 : Hid (Below w.heap.size w w6) := BW.out.trans (b6.mono BW.out.size)
    clear T7 R7 b6
    subst hv7
    go_wp2_with fail
    go_ret
    exact ⟨rfl, B6.out⟩
  · obtain ⟨n1, n36⟩ := Lg.lg_le hlg
    have hmn : m = X.length := by rw [HM.out, hlg]; rfl
    subst hmn
    have n0 : ¬ ((X.length : Int) = 0) := by omega
    obtain ⟨g3, p3, hv3, hg3⟩ := row_at K3'.out (by omega)
    rw [l3] at hv3
    simp only [Value.slice.injEq] at hv3
    obtain ⟨rfl, _, rfl⟩ := hv3
    go_wp2_with fail
    go_loopw [7, 8] (fun p i wr => ∃ (k : Nat) (b : Bool), k ≤ X.length ∧ i = .int .i64 k ∧ p = .bool b ∧ (b = true → ∀ i, i < k → Pw (cn (Pr.c0 C3 i)) ∧ Pw (cn (Pr.c1 C3 i))) ∧ Hid (Below w5.heap.size w5 wr)) (fun _ i _ => X.length - (intOf i).toNat)
    case atStart => exact ⟨0, true, Nat.zero_le _, rfl, rfl, fun _ i hi => absurd hi (by omega), Below.refl _ _⟩
    case round => as_aux_lemma =>
      obtain ⟨k, b, hk, rfl, rfl, HP, BB⟩ := hrel
      have HPH : Hid (b = true → ∀ i, i < k → Pw (cn (Pr.c0 C3 i)) ∧ Pw (cn (Pr.c1 C3 i))) := HP
      clear HP
      by_cases hlt : k < X.length
      · have i2 : (k : Int) < (X.length : Int) := by omega
        obtain ⟨q0, q1⟩ := row_cs (K3'.out.on BB.out) k (by omega)
        rw [Nat.zero_add] at q0 q1
        have HN : Hid (∀ z : Bool, (z = true → b = true ∧ Pw (cn (Pr.c0 C3 k)) ∧ Pw (cn (Pr.c1 C3 k))) → z = true → ∀ i, i < k + 1 → Pw (cn (Pr.c0 C3 i)) ∧ Pw (cn (Pr.c1 C3 i))) := fun z hz ht i hi => by
          obtain ⟨h1, h2⟩ := hz ht
          by_cases e : i = k
          · subst e; exact h2
          · exact HPH.out h1 i (by omega)
        have BA : Hid (∀ x y, Below w5.heap.size w5 (wr.alloc (.cells #[.float .f64 x, .float .f64 y] 29))) := fun x y => BB.out.alloc BB.out.size _
        have PX : Hid (∀ x, (ord x 13875379345695965184 == some .gt) = true → (ord x 4652007308841189376 == some .lt) = true → ∃ v, floatToIntVal .f64 x .i64 = some v ∧ v.natAbs < 1000 ∧ ((ord x (floatOfInt .f64 v) == some .eq) = true → Pw (cn x))) := pw_of
        clear HPH
        generalize Pr.c0 C3 k = x at *
        generalize Pr.c1 C3 k = y at *
        cases b
        · go_wp2_with fail
          go_roundw
          case rel => exact ⟨k + 1, false, by omega, by go_num, rfl, HN.out false (fun h => Bool.noConfusion h), BA.out _ _⟩
          case measure => simp [intOf]; omega
        · cases h1 : (ord x 13875379345695965184 == some .gt)
          · go_wp2_with fail
            go_roundw
            case rel => exact ⟨k + 1, false, by omega, by go_num, rfl, HN.out false (fun h => Bool.noConfusion h), BA.out _ _⟩
            case measure => simp [intOf]; omega
          cases h2 : (ord x 4652007308841189376 == some .lt)
          · go_wp2_with fail
            go_roundw
            case rel => exact ⟨k + 1, false, by omega, by go_num, rfl, HN.out false (fun h => Bool.noConfusion h), BA.out _ _⟩
            case measure => simp [intOf]; omega
          cases h3 : (ord y 13875379345695965184 == some .gt)
          · go_wp2_with fail
            go_roundw
            case rel => exact ⟨k + 1, false, by omega, by go_num, rfl, HN.out false (fun h => Bool.noConfusion h), BA.out _ _⟩
            case measure => simp [intOf]; omega
          cases h4 : (ord y 4652007308841189376 == some .lt)
          · go_wp2_with fail
            go_roundw
            case rel => exact ⟨k + 1, false, by omega, by go_num, rfl, HN.out false (fun h => Bool.noConfusion h), BA.out _ _⟩
            case measure => simp [intOf]; omega
          obtain ⟨vx, ex, bx, px⟩ := PX.out x h1 h2
          obtain ⟨vy, ey, by_, py⟩ := PX.out y h3 h4
          have PXX : Hid ((ord x (floatOfInt .f64 vx) == some .eq) = true → Pw (cn x)) := px
          have PYY : Hid ((ord y (floatOfInt .f64 vy) == some .eq) = true → Pw (cn y)) := py
          have cx : ∀ w, (convert 27 2 (.float .f64 x)).run Try.prog w = .ok (.int .i64 vx) w := fun w => run_convert_float_int w 27 2 .f64 .i64 x _ (by rw [Try.underlying27]; rfl) Try.underlying2 ex
          have cy : ∀ w, (convert 27 2 (.float .f64 y)).run Try.prog w = .ok (.int .i64 vy) w := fun w => run_convert_float_int w 27 2 .f64 .i64 y _ (by rw [Try.underlying27]; rfl) Try.underlying2 ey
          clear px py PX ex ey
          cases h5 : (ord x (floatOfInt .f64 vx) == some .eq)
          · go_wp2_with fail
            go_roundw
            case rel => exact ⟨k + 1, false, by omega, by go_num, rfl, HN.out false (fun h => Bool.noConfusion h), BA.out _ _⟩
            case measure => simp [intOf]; omega
          cases h6 : (ord y (floatOfInt .f64 vy) == some .eq)
          · go_wp2_with fail
            go_roundw
            case rel => exact ⟨k + 1, false, by omega, by go_num, rfl, HN.out false (fun h => Bool.noConfusion h), BA.out _ _⟩
            case measure => simp [intOf]; omega
          have HB : Hid (Pw (cn x) ∧ Pw (cn y)) := ⟨PXX.out h5, PYY.out h6⟩
          go_wp2_with fail
          go_roundw
          case rel => exact ⟨k + 1, true, by omega, by go_num, rfl, HN.out true (fun _ => ⟨rfl, HB.out⟩), BA.out _ _⟩
          case measure => simp [intOf]; omega
      · have hkn : k = X.length := by omega
        subst hkn
        cases b
        · clear HPH
          have BF : Hid (Below w.heap.size w wr) := BW.out.trans (BB.out.mono BW.out.size)
          go_wp2_with fail
          go_ret
          exact ⟨rfl, BF.out⟩
        · have HPl : Hid (Plain C3) := fun i hi => HPH.out rfl i (by rw [← l3]; exact hi)
          clear HPH
          have K6r : Hid (Pr.Row wr w4.heap.size (.slice a6 X.length c6) C6) := K6.out.on BB.out
          have l6 : C6.length = X.length := T6'.out.1
          go_wp2_with fail
          refine (iun_yes C6 _ wr K6r.out.reads (by rw [l6]; exact hlg)).mono ?_
          rintro e w6 ⟨v7, C7, rfl, T7, R7, b6⟩
          rw [l6] at T7
          have T7' : Hid (Wl.Tells C7 (uf C6) X.length) := T7
          have K7 : Hid (Pr.Row w6 wr.heap.size v7 C7) := R7
          have B6 : Hid (Below wr.heap.size wr w6) := b6
          have l7 : C7.length = X.length := T7.1
          obtain ⟨g7, c7, hv7, hg7⟩ := row_at R7 (by omega)
          rw [l7] at hv7
          clear b6 R7 T7
          subst hv7
          have K6s : Hid (Pr.Row w6 w4.heap.size (.slice a6 X.length c6) C6) := K6r.out.on B6.out
          go_wp2_with fail
          refine (Cu.icut_any C6 (X.length : Int) w6 _ K6s.out.reads).mono ?_
          rintro e w7 ⟨v8, rfl, R8, b7⟩
          obtain ⟨l8, hce⟩ := cut_at C6 (by rw [l6]; exact hlg)
          rw [l6] at l8 hce
          have B7 : Hid (Below w6.heap.size w6 w7) := b7
          generalize Cu.cutA C6 (X.length : Int) = C8 at *
          have HCE : Hid (∀ i, i < X.length → Pr.c0 C8 i = Pr.c0 C6 i ∧ Pr.c1 C8 i = Pr.c1 C6 i) := hce
          have K8 : Hid (Pr.Row w7 w6.heap.size v8 C8) := R8
          obtain ⟨g8, c8, hv8, hg8⟩ := row_at R8 (by omega)
          rw [l8] at hv8
          clear b7 R8 hce
          subst hv8
          have K6t : Hid (Pr.Row w7 w4.heap.size (.slice a6 X.length c6) C6) := K6s.out.on B7.out
          have K7t : Hid (Pr.Row w7 wr.heap.size (.slice (some ⟨g7, 0, none⟩) X.length c7) C7) := K7.out.on B7.out
          have B67 : Hid (Below wr.heap.size wr w7) := B6.out.trans (B7.out.mono B6.out.size)
          have K3t : Hid (Pr.Row w7 (w.heap.size + 1) (.slice (some ⟨g3, 0, none⟩) X.length c3) C3) := (K3'.out.on BB.out).on B67.out
          have BT : Hid (Below w.heap.size w w7) := BW.out.trans ((BB.out.trans (B67.out.mono BB.out.size)).mono BW.out.size)
          obtain ⟨g6, p6, hv6, hg6⟩ := row_at K6t.out (by omega)
          rw [l6] at hv6
          simp only [Value.slice.injEq] at hv6
          obtain ⟨rfl, _, rfl⟩ := hv6
          have lt3 : g3 < w2.heap.size := (K3.out.1.lt g3 rfl).2
          have ne6 : g6 ≠ g3 := by have := HK.out; omega
          have ne7 : g7 ≠ g3 := by have := HK.out; have := K6r.out; have := BB.out.size; have := (K6.out.lt g6 rfl).2; omega
          have ne8 : g8 ≠ g3 := by have := HK.out; have := BB.out.size; have := B6.out.size; have := (K6.out.lt g6 rfl).2; omega
          have HEQ1 : Hid (∀ j, j < X.length → (ord (Pr.c0 C8 j) (Pr.c0 C6 j) == some .eq) = true ∧ (ord (Pr.c1 C8 j) (Pr.c1 C6 j) == some .eq) = true) := fun j hj => by
            rw [(HCE.out j hj).1, (HCE.out j hj).2]
            exact waves_known HPl.out (by rw [l3]; exact hlg) (by rw [l3]; exact T6'.out) j (by rw [l3]; exact hj)
          have HEQ2 : Hid (X.length = 1 ∨ X.length = 2 ∨ X.length = 4 → ∀ j, j < X.length → (ord (Pr.c0 C7 j) (Pr.c0 C3 j) == some .eq) = true ∧ (ord (Pr.c1 C7 j) (Pr.c1 C3 j) == some .eq) = true) := fun hh j hj =>
            back_eq HPl.out (by rw [l3]; exact hh) (by rw [l3]; exact T6'.out) (by rw [l3]; exact T7'.out) j (by rw [l3]; exact hj)
          have HG : Hid (w.heap.size ≤ g3) := (by show _ ≤ _; omega)
          clear K6r K6s B6 B7 B67 K7 K6 K3' HK BB BW T7' HCE
          obtain ⟨b7, hb7⟩ : ∃ b, b = wr.heap.size := ⟨_, rfl⟩
          rw [← hb7] at K7t
          clear hb7
          have F0 : Hid (fl0 C3 0 C3) := fun i _ => ⟨rfl, fun q => absurd q (by omega), fun _ => rfl⟩
          go_wp2_with fail
          go_loopw [12] (fun i wZ => ∃ (j : Nat) (DD : Pr.Ls), j ≤ X.length ∧ i = .int .i64 j ∧ DD.length = X.length ∧ Hid (Pr.Row wZ (w.heap.size + 1) (.slice (some ⟨g3, 0, none⟩) X.length c3) DD) ∧ Hid (fl0 DD j C3) ∧ Hid (w7.grownBy wZ (some g3)) ∧ Hid (Below w.heap.size w wZ)) (fun i _ => X.length - (intOf i).toNat)
          case atStart => exact ⟨0, C3, Nat.zero_le _, rfl, l3, K3t, F0, World.grownBy.refl _ _, BT⟩
          case round => as_aux_lemma =>
            obtain ⟨j, DD, hj, rfl, hD, RZ, FZ, GW, BZ⟩ := hrel
            by_cases hlt : j < X.length
            · have i2 : (j : Int) < (X.length : Int) := by omega
              have Z8 : Hid (Pr.Row wr w6.heap.size (.slice (some ⟨g8, 0, none⟩) X.length c8) C8) := K8.out.grown GW.out (fun g hg => by simp [Value.ownBlock] at hg; subst hg; simpa using fun e => ne8 e.symm)
              have Z6 : Hid (Pr.Row wr w4.heap.size (.slice (some ⟨g6, 0, none⟩) X.length c6) C6) := K6t.out.grown GW.out (fun g hg => by simp [Value.ownBlock] at hg; subst hg; simpa using fun e => ne6 e.symm)
              have Z7 : Hid (Pr.Row wr b7 (.slice (some ⟨g7, 0, none⟩) X.length c7) C7) := K7t.out.grown GW.out (fun g hg => by simp [Value.ownBlock] at hg; subst hg; simpa using fun e => ne7 e.symm)
              have KB : Hid (∀ w', Below wr.heap.size wr w' → w'.cell? ⟨g8, j * 2, none⟩ = some (.float .f64 (Pr.c0 C8 j)) ∧ w'.cell? ⟨g8, j * 2 + 1, none⟩ = some (.float .f64 (Pr.c1 C8 j)) ∧ w'.cell? ⟨g6, j * 2, none⟩ = some (.float .f64 (Pr.c0 C6 j)) ∧ w'.cell? ⟨g6, j * 2 + 1, none⟩ = some (.float .f64 (Pr.c1 C6 j)) ∧ w'.cell? ⟨g7, j * 2, none⟩ = some (.float .f64 (Pr.c0 C7 j)) ∧ w'.cell? ⟨g7, j * 2 + 1, none⟩ = some (.float .f64 (Pr.c1 C7 j)) ∧ w'.cell? ⟨g3, j * 2, none⟩ = some (.float .f64 (Pr.c0 C3 j)) ∧ w'.cell? ⟨g3, j * 2 + 1, none⟩ = some (.float .f64 (Pr.c1 C3 j))) := fun w' hb => by
                obtain ⟨a0, a1⟩ := row_cs (Z8.out.on hb) j (by omega)
                obtain ⟨a2, a3⟩ := row_cs (Z6.out.on hb) j (by omega)
                obtain ⟨a4, a5⟩ := row_cs (Z7.out.on hb) j (by omega)
                obtain ⟨a6, a7⟩ := row_cs (RZ.out.on hb) j (by omega)
                rw [Nat.zero_add] at a0 a1 a2 a3 a4 a5 a6 a7
                rw [(FZ.out j (by omega)).1] at a6
                rw [(FZ.out j (by omega)).2.2 (Nat.le_refl _)] at a7
                exact ⟨a0, a1, a2, a3, a4, a5, a6, a7⟩
              have EQ1 := HEQ1.out j hlt
              have EQ1 : Hid _ := EQ1
              have EQ2 : Hid (X.length = 1 ∨ X.length = 2 ∨ X.length = 4 → (ord (Pr.c0 C7 j) (Pr.c0 C3 j) == some .eq) = true ∧ (ord (Pr.c1 C7 j) (Pr.c1 C3 j) == some .eq) = true) := fun h => HEQ2.out h j hlt
              have FS : Hid (fl0 (DD.set j (Pr.c0 DD j, 0)) (j + 1) C3) := FZ.out.step (by omega) (by omega)
              have PUT : Hid (∀ u : World, Pr.Row u (w.heap.size + 1) (.slice (some ⟨g3, 0, none⟩) X.length c3) DD → Pr.Row (u.setCell ⟨g3, j * 2 + 1, none⟩ (.float .f64 0)) (w.heap.size + 1) (.slice (some ⟨g3, 0, none⟩) X.length c3) (DD.set j (Pr.c0 DD j, 0))) := fun u h => by
                have h' := h
                rw [← hD] at h'
                have := Row.im0 h' (k := j) (by omega)
                rw [hD] at this
                exact this
              clear HEQ1 HEQ2 Z8 Z6 Z7 FZ HPl F0 K8 K6t K7t K3t BT K3 T6' B2
              generalize Pr.c0 C8 j = x8 at *
              generalize Pr.c1 C8 j = y8 at *
              generalize Pr.c0 C6 j = x6 at *
              generalize Pr.c1 C6 j = y6 at *
              generalize Pr.c0 C7 j = x7 at *
              generalize Pr.c1 C7 j = y7 at *
              generalize Pr.c0 C3 j = x3 at *
              generalize Pr.c1 C3 j = y3 at *
              have BD : Hid (Below wr.heap.size wr wr.drew) := (Below.refl _ _).drew
              by_cases q1 : X.length = 1
              · have d1 : decide ((X.length : Int) = 1) = true := decide_eq_true (by omega)
                have bi1 : ((X.length : Int) == 1) = true := beq_iff_eq.2 (by omega)
                have bn1 : (X.length == 1) = true := beq_iff_eq.2 (by omega)
                have e1 : decide (X.length = 1) = true := decide_eq_true (by omega)
                have QH : Hid (X.length = 1 ∨ X.length = 2 ∨ X.length = 4) := Or.inl q1
                clear q1
                go_upto_region 26 with fail
                refine wp_region_held_drew (S := fun w' => w'.cell? ⟨g8, j * 2, none⟩ = some (.float .f64 x8) ∧ w'.cell? ⟨g8, j * 2 + 1, none⟩ = some (.float .f64 y8) ∧ w'.cell? ⟨g6, j * 2, none⟩ = some (.float .f64 x6) ∧ w'.cell? ⟨g6, j * 2 + 1, none⟩ = some (.float .f64 y6) ∧ w'.cell? ⟨g7, j * 2, none⟩ = some (.float .f64 x7) ∧ w'.cell? ⟨g7, j * 2 + 1, none⟩ = some (.float .f64 y7) ∧ w'.cell? ⟨g3, j * 2, none⟩ = some (.float .f64 x3) ∧ w'.cell? ⟨g3, j * 2 + 1, none⟩ = some (.float .f64 y3)) (by kernel_rfl) (by (try dsimp only); (first | (exact ⟨r0, r1, r2, r3, r4, r5, r6, r7⟩) | exact (KB.out _ BD.out))) (fun hHeld => ?_)
                refine wpAnyH_take (i := 0) (oi := { dst := some 108, op := Go.Op.move (Go.Operand.tmp 11), type := 24, pos := "laws.go:1309", after := #[], guard := none }) (v := ?_) rfl (by kernel_rfl) (by kernel_rfl) (by kernel_rfl) (fun _ _ _ h => h) (Or.inl ⟨by rfl, ?_⟩) (by assumption) ?_
                rotate_left 1
                · (intro w hSw; (try dsimp only at hSw); go_simp); all_goals (with_reducible rfl)
                try simp only [Act.put, List.setIfInBounds_toArray, List.set_cons_zero, List.set_cons_succ]
                refine wpAnyH_take (i := 1) (oi := { dst := some 109, op := Go.Op.move (Go.Operand.tmp 12), type := 3, pos := "laws.go:1309", after := #[], guard := none }) (v := ?_) rfl (by kernel_rfl) (by kernel_rfl) (by kernel_rfl) (fun _ _ _ h => h) (Or.inl ⟨by rfl, ?_⟩) (by assumption) ?_
                rotate_left 1
                · (intro w hSw; (try dsimp only at hSw); go_simp); all_goals (with_reducible rfl)
                try simp only [Act.put, List.setIfInBounds_toArray, List.set_cons_zero, List.set_cons_succ]
                refine wpAnyH_take (i := 2) (oi := { dst := some 110, op := Go.Op.indexAddr 24 (Go.Operand.tmp 108) (Go.Operand.tmp 109), type := 0, pos := "laws.go:1309", after := #[{ on := 0, ground := Go.Ground.data }, { on := 1, ground := Go.Ground.data }], guard := none }) (v := ?_) rfl (by kernel_rfl) (by kernel_rfl) (by kernel_rfl) (fun _ _ _ h => h) (Or.inl ⟨by rfl, ?_⟩) (by assumption) ?_
                rotate_left 1
                · (intro w hSw; (try dsimp only at hSw); go_simp); all_goals (with_reducible rfl)
                try simp only [Act.put, List.setIfInBounds_toArray, List.set_cons_zero, List.set_cons_succ]
                refine wpAnyH_take (i := 3) (oi := { dst := some 111, op := Go.Op.load 29 (Go.Operand.tmp 110), type := 29, pos := "laws.go:1309", after := #[{ on := 2, ground := Go.Ground.data }], guard := none }) (v := ?_) rfl (by kernel_rfl) (by kernel_rfl) (by kernel_rfl) (fun _ _ _ h => h) (Or.inl ⟨by rfl, ?_⟩) (by assumption) ?_
                rotate_left 1
                · (intro w hSw; (try dsimp only at hSw); go_simp); all_goals (with_reducible rfl)
                try simp only [Act.put, List.setIfInBounds_toArray, List.set_cons_zero, List.set_cons_succ]
                refine wpAnyH_take (i := 4) (oi := { dst := some 112, op := Go.Op.move (Go.Operand.tmp 5), type := 24, pos := "laws.go:1309", after := #[], guard := none }) (v := ?_) rfl (by kernel_rfl) (by kernel_rfl) (by kernel_rfl) (fun _ _ _ h => h) (Or.inl ⟨by rfl, ?_⟩) (by assumption) ?_
                rotate_left 1
                · (intro w hSw; (try dsimp only at hSw); go_simp); all_goals (with_reducible rfl)
                try simp only [Act.put, List.setIfInBounds_toArray, List.set_cons_zero, List.set_cons_succ]
                refine wpAnyH_take (i := 5) (oi := { dst := some 113, op := Go.Op.move (Go.Operand.tmp 12), type := 3, pos := "laws.go:1309", after := #[], guard := none }) (v := ?_) rfl (by kernel_rfl) (by kernel_rfl) (by kernel_rfl) (fun _ _ _ h => h) (Or.inl ⟨by rfl, ?_⟩) (by assumption) ?_
                rotate_left 1
                · (intro w hSw; (try dsimp only at hSw); go_simp); all_goals (with_reducible rfl)
                try simp only [Act.put, List.setIfInBounds_toArray, List.set_cons_zero, List.set_cons_succ]
                refine wpAnyH_take (i := 6) (oi := { dst := some 114, op := Go.Op.indexAddr 24 (Go.Operand.tmp 112) (Go.Operand.tmp 113), type := 0, pos := "laws.go:1309", after := #[{ on := 4, ground := Go.Ground.data }, { on := 5, ground := Go.Ground.data }], guard := none }) (v := ?_) rfl (by kernel_rfl) (by kernel_rfl) (by kernel_rfl) (fun _ _ _ h => h) (Or.inl ⟨by rfl, ?_⟩) (by assumption) ?_
                rotate_left 1
                · (intro w hSw; (try dsimp only at hSw); go_simp); all_goals (with_reducible rfl)
                try simp only [Act.put, List.setIfInBounds_toArray, List.set_cons_zero, List.set_cons_succ]
                refine wpAnyH_take (i := 7) (oi := { dst := some 115, op := Go.Op.load 29 (Go.Operand.tmp 114), type := 29, pos := "laws.go:1309", after := #[{ on := 6, ground := Go.Ground.data }], guard := none }) (v := ?_) rfl (by kernel_rfl) (by kernel_rfl) (by kernel_rfl) (fun _ _ _ h => h) (Or.inl ⟨by rfl, ?_⟩) (by assumption) ?_
                rotate_left 1
                · (intro w hSw; (try dsimp only at hSw); go_simp); all_goals (with_reducible rfl)
                try simp only [Act.put, List.setIfInBounds_toArray, List.set_cons_zero, List.set_cons_succ]
                refine wpAnyH_ready (rs := [8]) (by kernel_rfl) (by simp) ?_
                refine AllReadyH.cons (o := { dst := some 116, op := Go.Op.call { callee := Go.Callee.value (Go.Operand.func 10), args := #[Go.Operand.tmp 111, Go.Operand.tmp 115], argTypes := #[29, 29] }, type := 4, pos := "laws.go:1309", after := #[{ on := 3, ground := Go.Ground.data }, { on := 7, ground := Go.Ground.data }], guard := none }) rfl (fun K hK => ?_) AllReadyH.nil
                go_simp
                go_at_call 10; (with_reducible refine (equal_any x8 y8 x6 y6 EQ1.out.1 EQ1.out.2 _).mono ?_); rintro e u1 ⟨rfl, hb⟩; have D1 : Hid (Below wr.heap.size wr u1) := BD.out.trans (hb.mono BD.out.size); clear hb; obtain ⟨r0, r1, r2, r3, r4, r5, r6, r7⟩ := KB.out u1 D1.out
                go_wp2_with fail
                refine hK.out _ _ (by (try dsimp only); (first | (exact ⟨r0, r1, r2, r3, r4, r5, r6, r7⟩) | exact (KB.out _ BD.out))) (fun hHeld2 => ?_)
                clear hK K hHeld
                have hHeld := hHeld2
                clear hHeld2
                try simp only [Act.put, List.setIfInBounds_toArray, List.set_cons_zero, List.set_cons_succ]
                refine wpAnyH_take (i := 9) (oi := { dst := some 117, op := Go.Op.unOp Go.UnOp.not 4 (Go.Operand.tmp 116), type := 4, pos := "laws.go:1309", after := #[{ on := 8, ground := Go.Ground.data }], guard := none }) (v := ?_) rfl (by kernel_rfl) (by kernel_rfl) (by kernel_rfl) (fun _ _ _ h => h) (Or.inl ⟨by rfl, ?_⟩) (by assumption) ?_
                rotate_left 1
                · (intro w hSw; (try dsimp only at hSw); go_simp); all_goals (with_reducible rfl)
                try simp only [Act.put, List.setIfInBounds_toArray, List.set_cons_zero, List.set_cons_succ]
                refine wpAnyH_take (i := 10) (oi := { dst := some 118, op := Go.Op.move (Go.Operand.tmp 117), type := 4, pos := "laws.go:1309", after := #[{ on := 9, ground := Go.Ground.data }, { on := 8, ground := Go.Ground.chain }], guard := none }) (v := ?_) rfl (by kernel_rfl) (by kernel_rfl) (by kernel_rfl) (fun _ _ _ h => h) (Or.inl ⟨by rfl, ?_⟩) (by assumption) ?_
                rotate_left 1
                · (intro w hSw; (try dsimp only at hSw); go_simp); all_goals (with_reducible rfl)
                try simp only [Act.put, List.setIfInBounds_toArray, List.set_cons_zero, List.set_cons_succ]
                refine wpAnyH_take (i := 11) (oi := { dst := some 119, op := Go.Op.move (Go.Operand.tmp 6), type := 3, pos := "laws.go:1309", after := #[{ on := 10, ground := Go.Ground.guard }], guard := some (10, false) }) (v := ?_) rfl (by kernel_rfl) (by kernel_rfl) (by kernel_rfl) (fun _ _ _ h => h) (Or.inl ⟨by rfl, ?_⟩) (by assumption) ?_
                rotate_left 1
                · (intro w hSw; (try dsimp only at hSw); go_simp); all_goals (with_reducible rfl)
                try simp only [Act.put, List.setIfInBounds_toArray, List.set_cons_zero, List.set_cons_succ]
                refine wpAnyH_take (i := 12) (oi := { dst := some 120, op := Go.Op.binOp Go.BinOp.eql 3 (Go.Operand.tmp 119) (Go.Operand.const (Go.Value.int Go.IntKind.i64 1)) 3, type := 4, pos := "laws.go:1309", after := #[{ on := 11, ground := Go.Ground.data }, { on := 10, ground := Go.Ground.guard }], guard := some (10, false) }) (v := ?_) rfl (by kernel_rfl) (by kernel_rfl) (by kernel_rfl) (fun _ _ _ h => h) (Or.inl ⟨by rfl, ?_⟩) (by assumption) ?_
                rotate_left 1
                · (intro w hSw; (try dsimp only at hSw); go_simp); all_goals (with_reducible rfl)
                try simp only [Act.put, List.setIfInBounds_toArray, List.set_cons_zero, List.set_cons_succ]
                refine wpAnyH_take (i := 13) (oi := { dst := some 121, op := Go.Op.move (Go.Operand.tmp 120), type := 4, pos := "laws.go:1309", after := #[{ on := 12, ground := Go.Ground.data }, { on := 10, ground := Go.Ground.chain }, { on := 10, ground := Go.Ground.guard }], guard := some (10, false) }) (v := ?_) rfl (by kernel_rfl) (by kernel_rfl) (by kernel_rfl) (fun _ _ _ h => h) (Or.inl ⟨by rfl, ?_⟩) (by assumption) ?_
                rotate_left 1
                · (intro w hSw; (try dsimp only at hSw); go_simp); all_goals (with_reducible rfl)
                try simp only [Act.put, List.setIfInBounds_toArray, List.set_cons_zero, List.set_cons_succ]
                refine wpAnyH_take (i := 14) (oi := { dst := some 122, op := Go.Op.move (Go.Operand.tmp 6), type := 3, pos := "laws.go:1309", after := #[{ on := 13, ground := Go.Ground.guard }], guard := some (13, false) }) (v := undef) rfl (by kernel_rfl) (by kernel_rfl) (by kernel_rfl) (fun _ _ _ h => h) (Or.inr ⟨by rfl, rfl⟩) (by assumption) ?_
                try simp only [Act.put, List.setIfInBounds_toArray, List.set_cons_zero, List.set_cons_succ]
                refine wpAnyH_take (i := 15) (oi := { dst := some 123, op := Go.Op.binOp Go.BinOp.eql 3 (Go.Operand.tmp 122) (Go.Operand.const (Go.Value.int Go.IntKind.i64 2)) 3, type := 4, pos := "laws.go:1309", after := #[{ on := 14, ground := Go.Ground.data }, { on := 13, ground := Go.Ground.guard }], guard := some (13, false) }) (v := undef) rfl (by kernel_rfl) (by kernel_rfl) (by kernel_rfl) (fun _ _ _ h => h) (Or.inr ⟨by rfl, rfl⟩) (by assumption) ?_
                try simp only [Act.put, List.setIfInBounds_toArray, List.set_cons_zero, List.set_cons_succ]
                refine wpAnyH_take (i := 16) (oi := { dst := some 124, op := Go.Op.pick (Go.Operand.tmp 121) (Go.Operand.const (Go.Value.bool true)) (Go.Operand.tmp 123), type := 4, pos := "laws.go:1309", after := #[{ on := 13, ground := Go.Ground.data }, { on := 15, ground := Go.Ground.data }, { on := 10, ground := Go.Ground.guard }], guard := some (10, false) }) (v := ?_) rfl (by kernel_rfl) (by kernel_rfl) (by kernel_rfl) (fun _ _ _ h => h) (Or.inl ⟨by rfl, ?_⟩) (by assumption) ?_
                rotate_left 1
                · (intro w hSw; (try dsimp only at hSw); go_simp); all_goals (with_reducible rfl)
                try simp only [Act.put, List.setIfInBounds_toArray, List.set_cons_zero, List.set_cons_succ]
                refine wpAnyH_take (i := 17) (oi := { dst := some 125, op := Go.Op.move (Go.Operand.tmp 124), type := 4, pos := "laws.go:1309", after := #[{ on := 16, ground := Go.Ground.data }, { on := 13, ground := Go.Ground.chain }, { on := 10, ground := Go.Ground.guard }], guard := some (10, false) }) (v := ?_) rfl (by kernel_rfl) (by kernel_rfl) (by kernel_rfl) (fun _ _ _ h => h) (Or.inl ⟨by rfl, ?_⟩) (by assumption) ?_
                rotate_left 1
                · (intro w hSw; (try dsimp only at hSw); go_simp); all_goals (with_reducible rfl)
                try simp only [Act.put, List.setIfInBounds_toArray, List.set_cons_zero, List.set_cons_succ]
                refine wpAnyH_take (i := 18) (oi := { dst := some 126, op := Go.Op.move (Go.Operand.tmp 6), type := 3, pos := "laws.go:1309", after := #[{ on := 17, ground := Go.Ground.guard }], guard := some (17, false) }) (v := undef) rfl (by kernel_rfl) (by kernel_rfl) (by kernel_rfl) (fun _ _ _ h => h) (Or.inr ⟨by rfl, rfl⟩) (by assumption) ?_
                try simp only [Act.put, List.setIfInBounds_toArray, List.set_cons_zero, List.set_cons_succ]
                refine wpAnyH_take (i := 19) (oi := { dst := some 127, op := Go.Op.binOp Go.BinOp.eql 3 (Go.Operand.tmp 126) (Go.Operand.const (Go.Value.int Go.IntKind.i64 4)) 3, type := 4, pos := "laws.go:1309", after := #[{ on := 18, ground := Go.Ground.data }, { on := 17, ground := Go.Ground.guard }], guard := some (17, false) }) (v := undef) rfl (by kernel_rfl) (by kernel_rfl) (by kernel_rfl) (fun _ _ _ h => h) (Or.inr ⟨by rfl, rfl⟩) (by assumption) ?_
                try simp only [Act.put, List.setIfInBounds_toArray, List.set_cons_zero, List.set_cons_succ]
                refine wpAnyH_take (i := 20) (oi := { dst := some 128, op := Go.Op.pick (Go.Operand.tmp 125) (Go.Operand.const (Go.Value.bool true)) (Go.Operand.tmp 127), type := 4, pos := "laws.go:1309", after := #[{ on := 17, ground := Go.Ground.data }, { on := 19, ground := Go.Ground.data }, { on := 10, ground := Go.Ground.guard }], guard := some (10, false) }) (v := ?_) rfl (by kernel_rfl) (by kernel_rfl) (by kernel_rfl) (fun _ _ _ h => h) (Or.inl ⟨by rfl, ?_⟩) (by assumption) ?_
                rotate_left 1
                · (intro w hSw; (try dsimp only at hSw); go_simp); all_goals (with_reducible rfl)
                try simp only [Act.put, List.setIfInBounds_toArray, List.set_cons_zero, List.set_cons_succ]
                refine wpAnyH_take (i := 21) (oi := { dst := some 129, op := Go.Op.move (Go.Operand.tmp 128), type := 4, pos := "laws.go:1309", after := #[{ on := 20, ground := Go.Ground.data }, { on := 17, ground := Go.Ground.chain }, { on := 10, ground := Go.Ground.guard }], guard := some (10, false) }) (v := ?_) rfl (by kernel_rfl) (by kernel_rfl) (by kernel_rfl) (fun _ _ _ h => h) (Or.inl ⟨by rfl, ?_⟩) (by assumption) ?_
                rotate_left 1
                · (intro w hSw; (try dsimp only at hSw); go_simp); all_goals (with_reducible rfl)
                try simp only [Act.put, List.setIfInBounds_toArray, List.set_cons_zero, List.set_cons_succ]
                refine wpAnyH_take (i := 22) (oi := { dst := some 130, op := Go.Op.move (Go.Operand.tmp 10), type := 24, pos := "laws.go:1309", after := #[{ on := 21, ground := Go.Ground.guard }], guard := some (21, true) }) (v := ?_) rfl (by kernel_rfl) (by kernel_rfl) (by kernel_rfl) (fun _ _ _ h => h) (Or.inl ⟨by rfl, ?_⟩) (by assumption) ?_
                rotate_left 1
                · (intro w hSw; (try dsimp only at hSw); go_simp); all_goals (with_reducible rfl)
                try simp only [Act.put, List.setIfInBounds_toArray, List.set_cons_zero, List.set_cons_succ]
                refine wpAnyH_take (i := 23) (oi := { dst := some 131, op := Go.Op.move (Go.Operand.tmp 12), type := 3, pos := "laws.go:1309", after := #[{ on := 21, ground := Go.Ground.guard }], guard := some (21, true) }) (v := ?_) rfl (by kernel_rfl) (by kernel_rfl) (by kernel_rfl) (fun _ _ _ h => h) (Or.inl ⟨by rfl, ?_⟩) (by assumption) ?_
                rotate_left 1
                · (intro w hSw; (try dsimp only at hSw); go_simp); all_goals (with_reducible rfl)
                try simp only [Act.put, List.setIfInBounds_toArray, List.set_cons_zero, List.set_cons_succ]
                refine wpAnyH_take (i := 24) (oi := { dst := some 132, op := Go.Op.indexAddr 24 (Go.Operand.tmp 130) (Go.Operand.tmp 131), type := 0, pos := "laws.go:1309", after := #[{ on := 22, ground := Go.Ground.data }, { on := 23, ground := Go.Ground.data }, { on := 21, ground := Go.Ground.guard }], guard := some (21, true) }) (v := ?_) rfl (by kernel_rfl) (by kernel_rfl) (by kernel_rfl) (fun _ _ _ h => h) (Or.inl ⟨by rfl, ?_⟩) (by assumption) ?_
                rotate_left 1
                · (intro w hSw; (try dsimp only at hSw); go_simp); all_goals (with_reducible rfl)
                try simp only [Act.put, List.setIfInBounds_toArray, List.set_cons_zero, List.set_cons_succ]
                refine wpAnyH_take (i := 25) (oi := { dst := some 133, op := Go.Op.load 29 (Go.Operand.tmp 132), type := 29, pos := "laws.go:1309", after := #[{ on := 24, ground := Go.Ground.data }, { on := 21, ground := Go.Ground.guard }], guard := some (21, true) }) (v := ?_) rfl (by kernel_rfl) (by kernel_rfl) (by kernel_rfl) (fun _ _ _ h => h) (Or.inl ⟨by rfl, ?_⟩) (by assumption) ?_
                rotate_left 1
                · (intro w hSw; (try dsimp only at hSw); go_simp); all_goals (with_reducible rfl)
                try simp only [Act.put, List.setIfInBounds_toArray, List.set_cons_zero, List.set_cons_succ]
                refine wpAnyH_take (i := 26) (oi := { dst := some 134, op := Go.Op.move (Go.Operand.tmp 3), type := 24, pos := "laws.go:1309", after := #[{ on := 21, ground := Go.Ground.guard }], guard := some (21, true) }) (v := ?_) rfl (by kernel_rfl) (by kernel_rfl) (by kernel_rfl) (fun _ _ _ h => h) (Or.inl ⟨by rfl, ?_⟩) (by assumption) ?_
                rotate_left 1
                · (intro w hSw; (try dsimp only at hSw); go_simp); all_goals (with_reducible rfl)
                try simp only [Act.put, List.setIfInBounds_toArray, List.set_cons_zero, List.set_cons_succ]
                refine wpAnyH_take (i := 27) (oi := { dst := some 135, op := Go.Op.move (Go.Operand.tmp 12), type := 3, pos := "laws.go:1309", after := #[{ on := 21, ground := Go.Ground.guard }], guard := some (21, true) }) (v := ?_) rfl (by kernel_rfl) (by kernel_rfl) (by kernel_rfl) (fun _ _ _ h => h) (Or.inl ⟨by rfl, ?_⟩) (by assumption) ?_
                rotate_left 1
                · (intro w hSw; (try dsimp only at hSw); go_simp); all_goals (with_reducible rfl)
                try simp only [Act.put, List.setIfInBounds_toArray, List.set_cons_zero, List.set_cons_succ]
                refine wpAnyH_take (i := 28) (oi := { dst := some 136, op := Go.Op.indexAddr 24 (Go.Operand.tmp 134) (Go.Operand.tmp 135), type := 0, pos := "laws.go:1309", after := #[{ on := 26, ground := Go.Ground.data }, { on := 27, ground := Go.Ground.data }, { on := 21, ground := Go.Ground.guard }], guard := some (21, true) }) (v := ?_) rfl (by kernel_rfl) (by kernel_rfl) (by kernel_rfl) (fun _ _ _ h => h) (Or.inl ⟨by rfl, ?_⟩) (by assumption) ?_
                rotate_left 1
                · (intro w hSw; (try dsimp only at hSw); go_simp); all_goals (with_reducible rfl)
                try simp only [Act.put, List.setIfInBounds_toArray, List.set_cons_zero, List.set_cons_succ]
                refine wpAnyH_take (i := 29) (oi := { dst := some 137, op := Go.Op.load 29 (Go.Operand.tmp 136), type := 29, pos := "laws.go:1309", after := #[{ on := 28, ground := Go.Ground.data }, { on := 21, ground := Go.Ground.guard }], guard := some (21, true) }) (v := ?_) rfl (by kernel_rfl) (by kernel_rfl) (by kernel_rfl) (fun _ _ _ h => h) (Or.inl ⟨by rfl, ?_⟩) (by assumption) ?_
                rotate_left 1
                · (intro w hSw; (try dsimp only at hSw); go_simp); all_goals (with_reducible rfl)
                try simp only [Act.put, List.setIfInBounds_toArray, List.set_cons_zero, List.set_cons_succ]
                refine wpAnyH_ready (rs := [30]) (by kernel_rfl) (by simp) ?_
                refine AllReadyH.cons (o := { dst := some 138, op := Go.Op.call { callee := Go.Callee.value (Go.Operand.func 10), args := #[Go.Operand.tmp 133, Go.Operand.tmp 137], argTypes := #[29, 29] }, type := 4, pos := "laws.go:1309", after := #[{ on := 25, ground := Go.Ground.data }, { on := 29, ground := Go.Ground.data }, { on := 21, ground := Go.Ground.chain }, { on := 21, ground := Go.Ground.guard }], guard := some (21, true) }) rfl (fun K hK => ?_) AllReadyH.nil
                go_simp
                go_at_call 10; (with_reducible refine (equal_any x7 y7 x3 y3 (EQ2.out QH.out).1 (EQ2.out QH.out).2 _).mono ?_); rintro e u2 ⟨rfl, hb⟩; have D2 : Hid (Below wr.heap.size wr u2) := D1.out.trans (hb.mono D1.out.size); clear hb; obtain ⟨r0, r1, r2, r3, r4, r5, r6, r7⟩ := KB.out u2 D2.out
                go_wp2_with fail
                refine hK.out _ _ (by (try dsimp only); (first | (exact ⟨r0, r1, r2, r3, r4, r5, r6, r7⟩) | exact (KB.out _ BD.out))) (fun hHeld2 => ?_)
                clear hK K hHeld
                have hHeld := hHeld2
                clear hHeld2
                try simp only [Act.put, List.setIfInBounds_toArray, List.set_cons_zero, List.set_cons_succ]
                refine wpAnyH_take (i := 31) (oi := { dst := some 139, op := Go.Op.unOp Go.UnOp.not 4 (Go.Operand.tmp 138), type := 4, pos := "laws.go:1309", after := #[{ on := 30, ground := Go.Ground.data }, { on := 21, ground := Go.Ground.guard }], guard := some (21, true) }) (v := ?_) rfl (by kernel_rfl) (by kernel_rfl) (by kernel_rfl) (fun _ _ _ h => h) (Or.inl ⟨by rfl, ?_⟩) (by assumption) ?_
                rotate_left 1
                · (intro w hSw; (try dsimp only at hSw); go_simp); all_goals (with_reducible rfl)
                try simp only [Act.put, List.setIfInBounds_toArray, List.set_cons_zero, List.set_cons_succ]
                refine wpAnyH_take (i := 32) (oi := { dst := some 140, op := Go.Op.pick (Go.Operand.tmp 129) (Go.Operand.tmp 139) (Go.Operand.const (Go.Value.bool false)), type := 4, pos := "laws.go:1309", after := #[{ on := 21, ground := Go.Ground.data }, { on := 31, ground := Go.Ground.data }, { on := 10, ground := Go.Ground.guard }], guard := some (10, false) }) (v := ?_) rfl (by kernel_rfl) (by kernel_rfl) (by kernel_rfl) (fun _ _ _ h => h) (Or.inl ⟨by rfl, ?_⟩) (by assumption) ?_
                rotate_left 1
                · (intro w hSw; (try dsimp only at hSw); go_simp); all_goals (with_reducible rfl)
                try simp only [Act.put, List.setIfInBounds_toArray, List.set_cons_zero, List.set_cons_succ]
                refine wpAnyH_take (i := 33) (oi := { dst := some 141, op := Go.Op.pick (Go.Operand.tmp 118) (Go.Operand.const (Go.Value.bool true)) (Go.Operand.tmp 140), type := 4, pos := "laws.go:1309", after := #[{ on := 10, ground := Go.Ground.data }, { on := 32, ground := Go.Ground.data }], guard := none }) (v := ?_) rfl (by kernel_rfl) (by kernel_rfl) (by kernel_rfl) (fun _ _ _ h => h) (Or.inl ⟨by rfl, ?_⟩) (by assumption) ?_
                rotate_left 1
                · (intro w hSw; (try dsimp only at hSw); go_simp); all_goals (with_reducible rfl)
                try simp only [Act.put, List.setIfInBounds_toArray, List.set_cons_zero, List.set_cons_succ]
                refine wpAnyH_done (by kernel_rfl) ?_ _
                have GO : Hid (w7.grownBy u2 (some g3) ∧ Below w.heap.size w u2 ∧ Pr.Row u2 (w.heap.size + 1) (.slice (some ⟨g3, 0, none⟩) X.length c3) DD) := ⟨grown_below GW.out D2.out, BZ.out.trans (D2.out.mono BZ.out.size), RZ.out.on D2.out⟩
                have fz := (row_st (k := j * 2 + 1) GO.out.2.2 hD).1
                clear KB
                go_wp2_with fail
                go_roundw
                case rel => exact ⟨j + 1, DD.set j (Pr.c0 DD j, 0), by omega, by go_num, by rw [List.length_set]; exact hD, PUT.out _ GO.out.2.2, FS.out, Pr.grown_setCell GO.out.1 _ _, GO.out.2.1.setCell (p := ⟨g3, j * 2 + 1, none⟩) HG.out _⟩
                case measure => simp [intOf]; omega
              · by_cases q2 : X.length = 2
                · have d1 : decide ((X.length : Int) = 1) = false := decide_eq_false (by omega)
                  have bi1 : ((X.length : Int) == 1) = false := (by simpa using (by omega : ¬ ((X.length : Int) = 1)))
                  have bn1 : (X.length == 1) = false := (by simpa using (by omega : ¬ (X.length = 1)))
                  have e1 : decide (X.length = 1) = false := decide_eq_false (by omega)
                  have d2 : decide ((X.length : Int) = 2) = true := decide_eq_true (by omega)
                  have bi2 : ((X.length : Int) == 2) = true := beq_iff_eq.2 (by omega)
                  have bn2 : (X.length == 2) = true := beq_iff_eq.2 (by omega)
                  have e2 : decide (X.length = 2) = true := decide_eq_true (by omega)
                  have QH : Hid (X.length = 1 ∨ X.length = 2 ∨ X.length = 4) := Or.inr (Or.inl q2)
                  clear q1 q2
                  go_upto_region 26 with fail
                  refine wp_region_held_drew (S := fun w' => w'.cell? ⟨g8, j * 2, none⟩ = some (.float .f64 x8) ∧ w'.cell? ⟨g8, j * 2 + 1, none⟩ = some (.float .f64 y8) ∧ w'.cell? ⟨g6, j * 2, none⟩ = some (.float .f64 x6) ∧ w'.cell? ⟨g6, j * 2 + 1, none⟩ = some (.float .f64 y6) ∧ w'.cell? ⟨g7, j * 2, none⟩ = some (.float .f64 x7) ∧ w'.cell? ⟨g7, j * 2 + 1, none⟩ = some (.float .f64 y7) ∧ w'.cell? ⟨g3, j * 2, none⟩ = some (.float .f64 x3) ∧ w'.cell? ⟨g3, j * 2 + 1, none⟩ = some (.float .f64 y3)) (by kernel_rfl) (by (try dsimp only); (first | (exact ⟨r0, r1, r2, r3, r4, r5, r6, r7⟩) | exact (KB.out _ BD.out))) (fun hHeld => ?_)
                  refine wpAnyH_take (i := 0) (oi := { dst := some 108, op := Go.Op.move (Go.Operand.tmp 11), type := 24, pos := "laws.go:1309", after := #[], guard := none }) (v := ?_) rfl (by kernel_rfl) (by kernel_rfl) (by kernel_rfl) (fun _ _ _ h => h) (Or.inl ⟨by rfl, ?_⟩) (by assumption) ?_
                  rotate_left 1
                  · (intro w hSw; (try dsimp only at hSw); go_simp); all_goals (with_reducible rfl)
                  try simp only [Act.put, List.setIfInBounds_toArray, List.set_cons_zero, List.set_cons_succ]
                  refine wpAnyH_take (i := 1) (oi := { dst := some 109, op := Go.Op.move (Go.Operand.tmp 12), type := 3, pos := "laws.go:1309", after := #[], guard := none }) (v := ?_) rfl (by kernel_rfl) (by kernel_rfl) (by kernel_rfl) (fun _ _ _ h => h) (Or.inl ⟨by rfl, ?_⟩) (by assumption) ?_
                  rotate_left 1
                  · (intro w hSw; (try dsimp only at hSw); go_simp); all_goals (with_reducible rfl)
                  try simp only [Act.put, List.setIfInBounds_toArray, List.set_cons_zero, List.set_cons_succ]
                  refine wpAnyH_take (i := 2) (oi := { dst := some 110, op := Go.Op.indexAddr 24 (Go.Operand.tmp 108) (Go.Operand.tmp 109), type := 0, pos := "laws.go:1309", after := #[{ on := 0, ground := Go.Ground.data }, { on := 1, ground := Go.Ground.data }], guard := none }) (v := ?_) rfl (by kernel_rfl) (by kernel_rfl) (by kernel_rfl) (fun _ _ _ h => h) (Or.inl ⟨by rfl, ?_⟩) (by assumption) ?_
                  rotate_left 1
                  · (intro w hSw; (try dsimp only at hSw); go_simp); all_goals (with_reducible rfl)
                  try simp only [Act.put, List.setIfInBounds_toArray, List.set_cons_zero, List.set_cons_succ]
                  refine wpAnyH_take (i := 3) (oi := { dst := some 111, op := Go.Op.load 29 (Go.Operand.tmp 110), type := 29, pos := "laws.go:1309", after := #[{ on := 2, ground := Go.Ground.data }], guard := none }) (v := ?_) rfl (by kernel_rfl) (by kernel_rfl) (by kernel_rfl) (fun _ _ _ h => h) (Or.inl ⟨by rfl, ?_⟩) (by assumption) ?_
                  rotate_left 1
                  · (intro w hSw; (try dsimp only at hSw); go_simp); all_goals (with_reducible rfl)
                  try simp only [Act.put, List.setIfInBounds_toArray, List.set_cons_zero, List.set_cons_succ]
                  refine wpAnyH_take (i := 4) (oi := { dst := some 112, op := Go.Op.move (Go.Operand.tmp 5), type := 24, pos := "laws.go:1309", after := #[], guard := none }) (v := ?_) rfl (by kernel_rfl) (by kernel_rfl) (by kernel_rfl) (fun _ _ _ h => h) (Or.inl ⟨by rfl, ?_⟩) (by assumption) ?_
                  rotate_left 1
                  · (intro w hSw; (try dsimp only at hSw); go_simp); all_goals (with_reducible rfl)
                  try simp only [Act.put, List.setIfInBounds_toArray, List.set_cons_zero, List.set_cons_succ]
                  refine wpAnyH_take (i := 5) (oi := { dst := some 113, op := Go.Op.move (Go.Operand.tmp 12), type := 3, pos := "laws.go:1309", after := #[], guard := none }) (v := ?_) rfl (by kernel_rfl) (by kernel_rfl) (by kernel_rfl) (fun _ _ _ h => h) (Or.inl ⟨by rfl, ?_⟩) (by assumption) ?_
                  rotate_left 1
                  · (intro w hSw; (try dsimp only at hSw); go_simp); all_goals (with_reducible rfl)
                  try simp only [Act.put, List.setIfInBounds_toArray, List.set_cons_zero, List.set_cons_succ]
                  refine wpAnyH_take (i := 6) (oi := { dst := some 114, op := Go.Op.indexAddr 24 (Go.Operand.tmp 112) (Go.Operand.tmp 113), type := 0, pos := "laws.go:1309", after := #[{ on := 4, ground := Go.Ground.data }, { on := 5, ground := Go.Ground.data }], guard := none }) (v := ?_) rfl (by kernel_rfl) (by kernel_rfl) (by kernel_rfl) (fun _ _ _ h => h) (Or.inl ⟨by rfl, ?_⟩) (by assumption) ?_
                  rotate_left 1
                  · (intro w hSw; (try dsimp only at hSw); go_simp); all_goals (with_reducible rfl)
                  try simp only [Act.put, List.setIfInBounds_toArray, List.set_cons_zero, List.set_cons_succ]
                  refine wpAnyH_take (i := 7) (oi := { dst := some 115, op := Go.Op.load 29 (Go.Operand.tmp 114), type := 29, pos := "laws.go:1309", after := #[{ on := 6, ground := Go.Ground.data }], guard := none }) (v := ?_) rfl (by kernel_rfl) (by kernel_rfl) (by kernel_rfl) (fun _ _ _ h => h) (Or.inl ⟨by rfl, ?_⟩) (by assumption) ?_
                  rotate_left 1
                  · (intro w hSw; (try dsimp only at hSw); go_simp); all_goals (with_reducible rfl)
                  try simp only [Act.put, List.setIfInBounds_toArray, List.set_cons_zero, List.set_cons_succ]
                  refine wpAnyH_ready (rs := [8]) (by kernel_rfl) (by simp) ?_
                  refine AllReadyH.cons (o := { dst := some 116, op := Go.Op.call { callee := Go.Callee.value (Go.Operand.func 10), args := #[Go.Operand.tmp 111, Go.Operand.tmp 115], argTypes := #[29, 29] }, type := 4, pos := "laws.go:1309", after := #[{ on := 3, ground := Go.Ground.data }, { on := 7, ground := Go.Ground.data }], guard := none }) rfl (fun K hK => ?_) AllReadyH.nil
                  go_simp
                  go_at_call 10; (with_reducible refine (equal_any x8 y8 x6 y6 EQ1.out.1 EQ1.out.2 _).mono ?_); rintro e u1 ⟨rfl, hb⟩; have D1 : Hid (Below wr.heap.size wr u1) := BD.out.trans (hb.mono BD.out.size); clear hb; obtain ⟨r0, r1, r2, r3, r4, r5, r6, r7⟩ := KB.out u1 D1.out
                  go_wp2_with fail
                  refine hK.out _ _ (by (try dsimp only); (first | (exact ⟨r0, r1, r2, r3, r4, r5, r6, r7⟩) | exact (KB.out _ BD.out))) (fun hHeld2 => ?_)
                  clear hK K hHeld
                  have hHeld := hHeld2
                  clear hHeld2
                  try simp only [Act.put, List.setIfInBounds_toArray, List.set_cons_zero, List.set_cons_succ]
                  refine wpAnyH_take (i := 9) (oi := { dst := some 117, op := Go.Op.unOp Go.UnOp.not 4 (Go.Operand.tmp 116), type := 4, pos := "laws.go:1309", after := #[{ on := 8, ground := Go.Ground.data }], guard := none }) (v := ?_) rfl (by kernel_rfl) (by kernel_rfl) (by kernel_rfl) (fun _ _ _ h => h) (Or.inl ⟨by rfl, ?_⟩) (by assumption) ?_
                  rotate_left 1
                  · (intro w hSw; (try dsimp only at hSw); go_simp); all_goals (with_reducible rfl)
                  try simp only [Act.put, List.setIfInBounds_toArray, List.set_cons_zero, List.set_cons_succ]
                  refine wpAnyH_take (i := 10) (oi := { dst := some 118, op := Go.Op.move (Go.Operand.tmp 117), type := 4, pos := "laws.go:1309", after := #[{ on := 9, ground := Go.Ground.data }, { on := 8, ground := Go.Ground.chain }], guard := none }) (v := ?_) rfl (by kernel_rfl) (by kernel_rfl) (by kernel_rfl) (fun _ _ _ h => h) (Or.inl ⟨by rfl, ?_⟩) (by assumption) ?_
                  rotate_left 1
                  · (intro w hSw; (try dsimp only at hSw); go_simp); all_goals (with_reducible rfl)
                  try simp only [Act.put, List.setIfInBounds_toArray, List.set_cons_zero, List.set_cons_succ]
                  refine wpAnyH_take (i := 11) (oi := { dst := some 119, op := Go.Op.move (Go.Operand.tmp 6), type := 3, pos := "laws.go:1309", after := #[{ on := 10, ground := Go.Ground.guard }], guard := some (10, false) }) (v := ?_) rfl (by kernel_rfl) (by kernel_rfl) (by kernel_rfl) (fun _ _ _ h => h) (Or.inl ⟨by rfl, ?_⟩) (by assumption) ?_
                  rotate_left 1
                  · (intro w hSw; (try dsimp only at hSw); go_simp); all_goals (with_reducible rfl)
                  try simp only [Act.put, List.setIfInBounds_toArray, List.set_cons_zero, List.set_cons_succ]
                  refine wpAnyH_take (i := 12) (oi := { dst := some 120, op := Go.Op.binOp Go.BinOp.eql 3 (Go.Operand.tmp 119) (Go.Operand.const (Go.Value.int Go.IntKind.i64 1)) 3, type := 4, pos := "laws.go:1309", after := #[{ on := 11, ground := Go.Ground.data }, { on := 10, ground := Go.Ground.guard }], guard := some (10, false) }) (v := ?_) rfl (by kernel_rfl) (by kernel_rfl) (by kernel_rfl) (fun _ _ _ h => h) (Or.inl ⟨by rfl, ?_⟩) (by assumption) ?_
                  rotate_left 1
                  · (intro w hSw; (try dsimp only at hSw); go_simp); all_goals (with_reducible rfl)
                  try simp only [Act.put, List.setIfInBounds_toArray, List.set_cons_zero, List.set_cons_succ]
                  refine wpAnyH_take (i := 13) (oi := { dst := some 121, op := Go.Op.move (Go.Operand.tmp 120), type := 4, pos := "laws.go:1309", after := #[{ on := 12, ground := Go.Ground.data }, { on := 10, ground := Go.Ground.chain }, { on := 10, ground := Go.Ground.guard }], guard := some (10, false) }) (v := ?_) rfl (by kernel_rfl) (by kernel_rfl) (by kernel_rfl) (fun _ _ _ h => h) (Or.inl ⟨by rfl, ?_⟩) (by assumption) ?_
                  rotate_left 1
                  · (intro w hSw; (try dsimp only at hSw); go_simp); all_goals (with_reducible rfl)
                  try simp only [Act.put, List.setIfInBounds_toArray, List.set_cons_zero, List.set_cons_succ]
                  refine wpAnyH_take (i := 14) (oi := { dst := some 122, op := Go.Op.move (Go.Operand.tmp 6), type := 3, pos := "laws.go:1309", after := #[{ on := 13, ground := Go.Ground.guard }], guard := some (13, false) }) (v := ?_) rfl (by kernel_rfl) (by kernel_rfl) (by kernel_rfl) (fun _ _ _ h => h) (Or.inl ⟨by rfl, ?_⟩) (by assumption) ?_
                  rotate_left 1
                  · (intro w hSw; (try dsimp only at hSw); go_simp); all_goals (with_reducible rfl)
                  try simp only [Act.put, List.setIfInBounds_toArray, List.set_cons_zero, List.set_cons_succ]
                  refine wpAnyH_take (i := 15) (oi := { dst := some 123, op := Go.Op.binOp Go.BinOp.eql 3 (Go.Operand.tmp 122) (Go.Operand.const (Go.Value.int Go.IntKind.i64 2)) 3, type := 4, pos := "laws.go:1309", after := #[{ on := 14, ground := Go.Ground.data }, { on := 13, ground := Go.Ground.guard }], guard := some (13, false) }) (v := ?_) rfl (by kernel_rfl) (by kernel_rfl) (by kernel_rfl) (fun _ _ _ h => h) (Or.inl ⟨by rfl, ?_⟩) (by assumption) ?_
                  rotate_left 1
                  · (intro w hSw; (try dsimp only at hSw); go_simp); all_goals (with_reducible rfl)
                  try simp only [Act.put, List.setIfInBounds_toArray, List.set_cons_zero, List.set_cons_succ]
                  refine wpAnyH_take (i := 16) (oi := { dst := some 124, op := Go.Op.pick (Go.Operand.tmp 121) (Go.Operand.const (Go.Value.bool true)) (Go.Operand.tmp 123), type := 4, pos := "laws.go:1309", after := #[{ on := 13, ground := Go.Ground.data }, { on := 15, ground := Go.Ground.data }, { on := 10, ground := Go.Ground.guard }], guard := some (10, false) }) (v := ?_) rfl (by kernel_rfl) (by kernel_rfl) (by kernel_rfl) (fun _ _ _ h => h) (Or.inl ⟨by rfl, ?_⟩) (by assumption) ?_
                  rotate_left 1
                  · (intro w hSw; (try dsimp only at hSw); go_simp); all_goals (with_reducible rfl)
                  try simp only [Act.put, List.setIfInBounds_toArray, List.set_cons_zero, List.set_cons_succ]
                  refine wpAnyH_take (i := 17) (oi := { dst := some 125, op := Go.Op.move (Go.Operand.tmp 124), type := 4, pos := "laws.go:1309", after := #[{ on := 16, ground := Go.Ground.data }, { on := 13, ground := Go.Ground.chain }, { on := 10, ground := Go.Ground.guard }], guard := some (10, false) }) (v := ?_) rfl (by kernel_rfl) (by kernel_rfl) (by kernel_rfl) (fun _ _ _ h => h) (Or.inl ⟨by rfl, ?_⟩) (by assumption) ?_
                  rotate_left 1
                  · (intro w hSw; (try dsimp only at hSw); go_simp); all_goals (with_reducible rfl)
                  try simp only [Act.put, List.setIfInBounds_toArray, List.set_cons_zero, List.set_cons_succ]
                  refine wpAnyH_take (i := 18) (oi := { dst := some 126, op := Go.Op.move (Go.Operand.tmp 6), type := 3, pos := "laws.go:1309", after := #[{ on := 17, ground := Go.Ground.guard }], guard := some (17, false) }) (v := undef) rfl (by kernel_rfl) (by kernel_rfl) (by kernel_rfl) (fun _ _ _ h => h) (Or.inr ⟨by rfl, rfl⟩) (by assumption) ?_
                  try simp only [Act.put, List.setIfInBounds_toArray, List.set_cons_zero, List.set_cons_succ]
                  refine wpAnyH_take (i := 19) (oi := { dst := some 127, op := Go.Op.binOp Go.BinOp.eql 3 (Go.Operand.tmp 126) (Go.Operand.const (Go.Value.int Go.IntKind.i64 4)) 3, type := 4, pos := "laws.go:1309", after := #[{ on := 18, ground := Go.Ground.data }, { on := 17, ground := Go.Ground.guard }], guard := some (17, false) }) (v := undef) rfl (by kernel_rfl) (by kernel_rfl) (by kernel_rfl) (fun _ _ _ h => h) (Or.inr ⟨by rfl, rfl⟩) (by assumption) ?_
                  try simp only [Act.put, List.setIfInBounds_toArray, List.set_cons_zero, List.set_cons_succ]
                  refine wpAnyH_take (i := 20) (oi := { dst := some 128, op := Go.Op.pick (Go.Operand.tmp 125) (Go.Operand.const (Go.Value.bool true)) (Go.Operand.tmp 127), type := 4, pos := "laws.go:1309", after := #[{ on := 17, ground := Go.Ground.data }, { on := 19, ground := Go.Ground.data }, { on := 10, ground := Go.Ground.guard }], guard := some (10, false) }) (v := ?_) rfl (by kernel_rfl) (by kernel_rfl) (by kernel_rfl) (fun _ _ _ h => h) (Or.inl ⟨by rfl, ?_⟩) (by assumption) ?_
                  rotate_left 1
                  · (intro w hSw; (try dsimp only at hSw); go_simp); all_goals (with_reducible rfl)
                  try simp only [Act.put, List.setIfInBounds_toArray, List.set_cons_zero, List.set_cons_succ]
                  refine wpAnyH_take (i := 21) (oi := { dst := some 129, op := Go.Op.move (Go.Operand.tmp 128), type := 4, pos := "laws.go:1309", after := #[{ on := 20, ground := Go.Ground.data }, { on := 17, ground := Go.Ground.chain }, { on := 10, ground := Go.Ground.guard }], guard := some (10, false) }) (v := ?_) rfl (by kernel_rfl) (by kernel_rfl) (by kernel_rfl) (fun _ _ _ h => h) (Or.inl ⟨by rfl, ?_⟩) (by assumption) ?_
                  rotate_left 1
                  · (intro w hSw; (try dsimp only at hSw); go_simp); all_goals (with_reducible rfl)
                  try simp only [Act.put, List.setIfInBounds_toArray, List.set_cons_zero, List.set_cons_succ]
                  refine wpAnyH_take (i := 22) (oi := { dst := some 130, op := Go.Op.move (Go.Operand.tmp 10), type := 24, pos := "laws.go:1309", after := #[{ on := 21, ground := Go.Ground.guard }], guard := some (21, true) }) (v := ?_) rfl (by kernel_rfl) (by kernel_rfl) (by kernel_rfl) (fun _ _ _ h => h) (Or.inl ⟨by rfl, ?_⟩) (by assumption) ?_
                  rotate_left 1
                  · (intro w hSw; (try dsimp only at hSw); go_simp); all_goals (with_reducible rfl)
                  try simp only [Act.put, List.setIfInBounds_toArray, List.set_cons_zero, List.set_cons_succ]
                  refine wpAnyH_take (i := 23) (oi := { dst := some 131, op := Go.Op.move (Go.Operand.tmp 12), type := 3, pos := "laws.go:1309", after := #[{ on := 21, ground := Go.Ground.guard }], guard := some (21, true) }) (v := ?_) rfl (by kernel_rfl) (by kernel_rfl) (by kernel_rfl) (fun _ _ _ h => h) (Or.inl ⟨by rfl, ?_⟩) (by assumption) ?_
                  rotate_left 1
                  · (intro w hSw; (try dsimp only at hSw); go_simp); all_goals (with_reducible rfl)
                  try simp only [Act.put, List.setIfInBounds_toArray, List.set_cons_zero, List.set_cons_succ]
                  refine wpAnyH_take (i := 24) (oi := { dst := some 132, op := Go.Op.indexAddr 24 (Go.Operand.tmp 130) (Go.Operand.tmp 131), type := 0, pos := "laws.go:1309", after := #[{ on := 22, ground := Go.Ground.data }, { on := 23, ground := Go.Ground.data }, { on := 21, ground := Go.Ground.guard }], guard := some (21, true) }) (v := ?_) rfl (by kernel_rfl) (by kernel_rfl) (by kernel_rfl) (fun _ _ _ h => h) (Or.inl ⟨by rfl, ?_⟩) (by assumption) ?_
                  rotate_left 1
                  · (intro w hSw; (try dsimp only at hSw); go_simp); all_goals (with_reducible rfl)
                  try simp only [Act.put, List.setIfInBounds_toArray, List.set_cons_zero, List.set_cons_succ]
                  refine wpAnyH_take (i := 25) (oi := { dst := some 133, op := Go.Op.load 29 (Go.Operand.tmp 132), type := 29, pos := "laws.go:1309", after := #[{ on := 24, ground := Go.Ground.data }, { on := 21, ground := Go.Ground.guard }], guard := some (21, true) }) (v := ?_) rfl (by kernel_rfl) (by kernel_rfl) (by kernel_rfl) (fun _ _ _ h => h) (Or.inl ⟨by rfl, ?_⟩) (by assumption) ?_
                  rotate_left 1
                  · (intro w hSw; (try dsimp only at hSw); go_simp); all_goals (with_reducible rfl)
                  try simp only [Act.put, List.setIfInBounds_toArray, List.set_cons_zero, List.set_cons_succ]
                  refine wpAnyH_take (i := 26) (oi := { dst := some 134, op := Go.Op.move (Go.Operand.tmp 3), type := 24, pos := "laws.go:1309", after := #[{ on := 21, ground := Go.Ground.guard }], guard := some (21, true) }) (v := ?_) rfl (by kernel_rfl) (by kernel_rfl) (by kernel_rfl) (fun _ _ _ h => h) (Or.inl ⟨by rfl, ?_⟩) (by assumption) ?_
                  rotate_left 1
                  · (intro w hSw; (try dsimp only at hSw); go_simp); all_goals (with_reducible rfl)
                  try simp only [Act.put, List.setIfInBounds_toArray, List.set_cons_zero, List.set_cons_succ]
                  refine wpAnyH_take (i := 27) (oi := { dst := some 135, op := Go.Op.move (Go.Operand.tmp 12), type := 3, pos := "laws.go:1309", after := #[{ on := 21, ground := Go.Ground.guard }], guard := some (21, true) }) (v := ?_) rfl (by kernel_rfl) (by kernel_rfl) (by kernel_rfl) (fun _ _ _ h => h) (Or.inl ⟨by rfl, ?_⟩) (by assumption) ?_
                  rotate_left 1
                  · (intro w hSw; (try dsimp only at hSw); go_simp); all_goals (with_reducible rfl)
                  try simp only [Act.put, List.setIfInBounds_toArray, List.set_cons_zero, List.set_cons_succ]
                  refine wpAnyH_take (i := 28) (oi := { dst := some 136, op := Go.Op.indexAddr 24 (Go.Operand.tmp 134) (Go.Operand.tmp 135), type := 0, pos := "laws.go:1309", after := #[{ on := 26, ground := Go.Ground.data }, { on := 27, ground := Go.Ground.data }, { on := 21, ground := Go.Ground.guard }], guard := some (21, true) }) (v := ?_) rfl (by kernel_rfl) (by kernel_rfl) (by kernel_rfl) (fun _ _ _ h => h) (Or.inl ⟨by rfl, ?_⟩) (by assumption) ?_
                  rotate_left 1
                  · (intro w hSw; (try dsimp only at hSw); go_simp); all_goals (with_reducible rfl)
                  try simp only [Act.put, List.setIfInBounds_toArray, List.set_cons_zero, List.set_cons_succ]
                  refine wpAnyH_take (i := 29) (oi := { dst := some 137, op := Go.Op.load 29 (Go.Operand.tmp 136), type := 29, pos := "laws.go:1309", after := #[{ on := 28, ground := Go.Ground.data }, { on := 21, ground := Go.Ground.guard }], guard := some (21, true) }) (v := ?_) rfl (by kernel_rfl) (by kernel_rfl) (by kernel_rfl) (fun _ _ _ h => h) (Or.inl ⟨by rfl, ?_⟩) (by assumption) ?_
                  rotate_left 1
                  · (intro w hSw; (try dsimp only at hSw); go_simp); all_goals (with_reducible rfl)
                  try simp only [Act.put, List.setIfInBounds_toArray, List.set_cons_zero, List.set_cons_succ]
                  refine wpAnyH_ready (rs := [30]) (by kernel_rfl) (by simp) ?_
                  refine AllReadyH.cons (o := { dst := some 138, op := Go.Op.call { callee := Go.Callee.value (Go.Operand.func 10), args := #[Go.Operand.tmp 133, Go.Operand.tmp 137], argTypes := #[29, 29] }, type := 4, pos := "laws.go:1309", after := #[{ on := 25, ground := Go.Ground.data }, { on := 29, ground := Go.Ground.data }, { on := 21, ground := Go.Ground.chain }, { on := 21, ground := Go.Ground.guard }], guard := some (21, true) }) rfl (fun K hK => ?_) AllReadyH.nil
                  go_simp
                  go_at_call 10; (with_reducible refine (equal_any x7 y7 x3 y3 (EQ2.out QH.out).1 (EQ2.out QH.out).2 _).mono ?_); rintro e u2 ⟨rfl, hb⟩; have D2 : Hid (Below wr.heap.size wr u2) := D1.out.trans (hb.mono D1.out.size); clear hb; obtain ⟨r0, r1, r2, r3, r4, r5, r6, r7⟩ := KB.out u2 D2.out
                  go_wp2_with fail
                  refine hK.out _ _ (by (try dsimp only); (first | (exact ⟨r0, r1, r2, r3, r4, r5, r6, r7⟩) | exact (KB.out _ BD.out))) (fun hHeld2 => ?_)
                  clear hK K hHeld
                  have hHeld := hHeld2
                  clear hHeld2
                  try simp only [Act.put, List.setIfInBounds_toArray, List.set_cons_zero, List.set_cons_succ]
                  refine wpAnyH_take (i := 31) (oi := { dst := some 139, op := Go.Op.unOp Go.UnOp.not 4 (Go.Operand.tmp 138), type := 4, pos := "laws.go:1309", after := #[{ on := 30, ground := Go.Ground.data }, { on := 21, ground := Go.Ground.guard }], guard := some (21, true) }) (v := ?_) rfl (by kernel_rfl) (by kernel_rfl) (by kernel_rfl) (fun _ _ _ h => h) (Or.inl ⟨by rfl, ?_⟩) (by assumption) ?_
                  rotate_left 1
                  · (intro w hSw; (try dsimp only at hSw); go_simp); all_goals (with_reducible rfl)
                  try simp only [Act.put, List.setIfInBounds_toArray, List.set_cons_zero, List.set_cons_succ]
                  refine wpAnyH_take (i := 32) (oi := { dst := some 140, op := Go.Op.pick (Go.Operand.tmp 129) (Go.Operand.tmp 139) (Go.Operand.const (Go.Value.bool false)), type := 4, pos := "laws.go:1309", after := #[{ on := 21, ground := Go.Ground.data }, { on := 31, ground := Go.Ground.data }, { on := 10, ground := Go.Ground.guard }], guard := some (10, false) }) (v := ?_) rfl (by kernel_rfl) (by kernel_rfl) (by kernel_rfl) (fun _ _ _ h => h) (Or.inl ⟨by rfl, ?_⟩) (by assumption) ?_
                  rotate_left 1
                  · (intro w hSw; (try dsimp only at hSw); go_simp); all_goals (with_reducible rfl)
                  try simp only [Act.put, List.setIfInBounds_toArray, List.set_cons_zero, List.set_cons_succ]
                  refine wpAnyH_take (i := 33) (oi := { dst := some 141, op := Go.Op.pick (Go.Operand.tmp 118) (Go.Operand.const (Go.Value.bool true)) (Go.Operand.tmp 140), type := 4, pos := "laws.go:1309", after := #[{ on := 10, ground := Go.Ground.data }, { on := 32, ground := Go.Ground.data }], guard := none }) (v := ?_) rfl (by kernel_rfl) (by kernel_rfl) (by kernel_rfl) (fun _ _ _ h => h) (Or.inl ⟨by rfl, ?_⟩) (by assumption) ?_
                  rotate_left 1
                  · (intro w hSw; (try dsimp only at hSw); go_simp); all_goals (with_reducible rfl)
                  try simp only [Act.put, List.setIfInBounds_toArray, List.set_cons_zero, List.set_cons_succ]
                  refine wpAnyH_done (by kernel_rfl) ?_ _
                  have GO : Hid (w7.grownBy u2 (some g3) ∧ Below w.heap.size w u2 ∧ Pr.Row u2 (w.heap.size + 1) (.slice (some ⟨g3, 0, none⟩) X.length c3) DD) := ⟨grown_below GW.out D2.out, BZ.out.trans (D2.out.mono BZ.out.size), RZ.out.on D2.out⟩
                  have fz := (row_st (k := j * 2 + 1) GO.out.2.2 hD).1
                  clear KB
                  go_wp2_with fail
                  go_roundw
                  case rel => exact ⟨j + 1, DD.set j (Pr.c0 DD j, 0), by omega, by go_num, by rw [List.length_set]; exact hD, PUT.out _ GO.out.2.2, FS.out, Pr.grown_setCell GO.out.1 _ _, GO.out.2.1.setCell (p := ⟨g3, j * 2 + 1, none⟩) HG.out _⟩
                  case measure => simp [intOf]; omega
                · have d1 : decide ((X.length : Int) = 1) = false := decide_eq_false (by omega)
                  have bi1 : ((X.length : Int) == 1) = false := (by simpa using (by omega : ¬ ((X.length : Int) = 1)))
                  have bn1 : (X.length == 1) = false := (by simpa using (by omega : ¬ (X.length = 1)))
                  have e1 : decide (X.length = 1) = false := decide_eq_false (by omega)
                  have d2 : decide ((X.length : Int) = 2) = false := decide_eq_false (by omega)
                  have bi2 : ((X.length : Int) == 2) = false := (by simpa using (by omega : ¬ ((X.length : Int) = 2)))
                  have bn2 : (X.length == 2) = false := (by simpa using (by omega : ¬ (X.length = 2)))
                  have e2 : decide (X.length = 2) = false := decide_eq_false (by omega)
                  clear q1 q2
                  by_cases q4 : X.length = 4
                  · have d4 : decide ((X.length : Int) = 4) = true := decide_eq_true (by omega)
                    have bi4 : ((X.length : Int) == 4) = true := beq_iff_eq.2 (by omega)
                    have bn4 : (X.length == 4) = true := beq_iff_eq.2 (by omega)
                    have e4 : decide (X.length = 4) = true := decide_eq_true (by omega)
                    have QH : Hid (X.length = 1 ∨ X.length = 2 ∨ X.length = 4) := Or.inr (Or.inr q4)
                    clear q4
                    go_upto_region 26 with fail
                    refine wp_region_held_drew (S := fun w' => w'.cell? ⟨g8, j * 2, none⟩ = some (.float .f64 x8) ∧ w'.cell? ⟨g8, j * 2 + 1, none⟩ = some (.float .f64 y8) ∧ w'.cell? ⟨g6, j * 2, none⟩ = some (.float .f64 x6) ∧ w'.cell? ⟨g6, j * 2 + 1, none⟩ = some (.float .f64 y6) ∧ w'.cell? ⟨g7, j * 2, none⟩ = some (.float .f64 x7) ∧ w'.cell? ⟨g7, j * 2 + 1, none⟩ = some (.float .f64 y7) ∧ w'.cell? ⟨g3, j * 2, none⟩ = some (.float .f64 x3) ∧ w'.cell? ⟨g3, j * 2 + 1, none⟩ = some (.float .f64 y3)) (by kernel_rfl) (by (try dsimp only); (first | (exact ⟨r0, r1, r2, r3, r4, r5, r6, r7⟩) | exact (KB.out _ BD.out))) (fun hHeld => ?_)
                    refine wpAnyH_take (i := 0) (oi := { dst := some 108, op := Go.Op.move (Go.Operand.tmp 11), type := 24, pos := "laws.go:1309", after := #[], guard := none }) (v := ?_) rfl (by kernel_rfl) (by kernel_rfl) (by kernel_rfl) (fun _ _ _ h => h) (Or.inl ⟨by rfl, ?_⟩) (by assumption) ?_
                    rotate_left 1
                    · (intro w hSw; (try dsimp only at hSw); go_simp); all_goals (with_reducible rfl)
                    try simp only [Act.put, List.setIfInBounds_toArray, List.set_cons_zero, List.set_cons_succ]
                    refine wpAnyH_take (i := 1) (oi := { dst := some 109, op := Go.Op.move (Go.Operand.tmp 12), type := 3, pos := "laws.go:1309", after := #[], guard := none }) (v := ?_) rfl (by kernel_rfl) (by kernel_rfl) (by kernel_rfl) (fun _ _ _ h => h) (Or.inl ⟨by rfl, ?_⟩) (by assumption) ?_
                    rotate_left 1
                    · (intro w hSw; (try dsimp only at hSw); go_simp); all_goals (with_reducible rfl)
                    try simp only [Act.put, List.setIfInBounds_toArray, List.set_cons_zero, List.set_cons_succ]
                    refine wpAnyH_take (i := 2) (oi := { dst := some 110, op := Go.Op.indexAddr 24 (Go.Operand.tmp 108) (Go.Operand.tmp 109), type := 0, pos := "laws.go:1309", after := #[{ on := 0, ground := Go.Ground.data }, { on := 1, ground := Go.Ground.data }], guard := none }) (v := ?_) rfl (by kernel_rfl) (by kernel_rfl) (by kernel_rfl) (fun _ _ _ h => h) (Or.inl ⟨by rfl, ?_⟩) (by assumption) ?_
                    rotate_left 1
                    · (intro w hSw; (try dsimp only at hSw); go_simp); all_goals (with_reducible rfl)
                    try simp only [Act.put, List.setIfInBounds_toArray, List.set_cons_zero, List.set_cons_succ]
                    refine wpAnyH_take (i := 3) (oi := { dst := some 111, op := Go.Op.load 29 (Go.Operand.tmp 110), type := 29, pos := "laws.go:1309", after := #[{ on := 2, ground := Go.Ground.data }], guard := none }) (v := ?_) rfl (by kernel_rfl) (by kernel_rfl) (by kernel_rfl) (fun _ _ _ h => h) (Or.inl ⟨by rfl, ?_⟩) (by assumption) ?_
                    rotate_left 1
                    · (intro w hSw; (try dsimp only at hSw); go_simp); all_goals (with_reducible rfl)
                    try simp only [Act.put, List.setIfInBounds_toArray, List.set_cons_zero, List.set_cons_succ]
                    refine wpAnyH_take (i := 4) (oi := { dst := some 112, op := Go.Op.move (Go.Operand.tmp 5), type := 24, pos := "laws.go:1309", after := #[], guard := none }) (v := ?_) rfl (by kernel_rfl) (by kernel_rfl) (by kernel_rfl) (fun _ _ _ h => h) (Or.inl ⟨by rfl, ?_⟩) (by assumption) ?_
                    rotate_left 1
                    · (intro w hSw; (try dsimp only at hSw); go_simp); all_goals (with_reducible rfl)
                    try simp only [Act.put, List.setIfInBounds_toArray, List.set_cons_zero, List.set_cons_succ]
                    refine wpAnyH_take (i := 5) (oi := { dst := some 113, op := Go.Op.move (Go.Operand.tmp 12), type := 3, pos := "laws.go:1309", after := #[], guard := none }) (v := ?_) rfl (by kernel_rfl) (by kernel_rfl) (by kernel_rfl) (fun _ _ _ h => h) (Or.inl ⟨by rfl, ?_⟩) (by assumption) ?_
                    rotate_left 1
                    · (intro w hSw; (try dsimp only at hSw); go_simp); all_goals (with_reducible rfl)
                    try simp only [Act.put, List.setIfInBounds_toArray, List.set_cons_zero, List.set_cons_succ]
                    refine wpAnyH_take (i := 6) (oi := { dst := some 114, op := Go.Op.indexAddr 24 (Go.Operand.tmp 112) (Go.Operand.tmp 113), type := 0, pos := "laws.go:1309", after := #[{ on := 4, ground := Go.Ground.data }, { on := 5, ground := Go.Ground.data }], guard := none }) (v := ?_) rfl (by kernel_rfl) (by kernel_rfl) (by kernel_rfl) (fun _ _ _ h => h) (Or.inl ⟨by rfl, ?_⟩) (by assumption) ?_
                    rotate_left 1
                    · (intro w hSw; (try dsimp only at hSw); go_simp); all_goals (with_reducible rfl)
                    try simp only [Act.put, List.setIfInBounds_toArray, List.set_cons_zero, List.set_cons_succ]
                    refine wpAnyH_take (i := 7) (oi := { dst := some 115, op := Go.Op.load 29 (Go.Operand.tmp 114), type := 29, pos := "laws.go:1309", after := #[{ on := 6, ground := Go.Ground.data }], guard := none }) (v := ?_) rfl (by kernel_rfl) (by kernel_rfl) (by kernel_rfl) (fun _ _ _ h => h) (Or.inl ⟨by rfl, ?_⟩) (by assumption) ?_
                    rotate_left 1
                    · (intro w hSw; (try dsimp only at hSw); go_simp); all_goals (with_reducible rfl)
                    try simp only [Act.put, List.setIfInBounds_toArray, List.set_cons_zero, List.set_cons_succ]
                    refine wpAnyH_ready (rs := [8]) (by kernel_rfl) (by simp) ?_
                    refine AllReadyH.cons (o := { dst := some 116, op := Go.Op.call { callee := Go.Callee.value (Go.Operand.func 10), args := #[Go.Operand.tmp 111, Go.Operand.tmp 115], argTypes := #[29, 29] }, type := 4, pos := "laws.go:1309", after := #[{ on := 3, ground := Go.Ground.data }, { on := 7, ground := Go.Ground.data }], guard := none }) rfl (fun K hK => ?_) AllReadyH.nil
                    go_simp
                    go_at_call 10; (with_reducible refine (equal_any x8 y8 x6 y6 EQ1.out.1 EQ1.out.2 _).mono ?_); rintro e u1 ⟨rfl, hb⟩; have D1 : Hid (Below wr.heap.size wr u1) := BD.out.trans (hb.mono BD.out.size); clear hb; obtain ⟨r0, r1, r2, r3, r4, r5, r6, r7⟩ := KB.out u1 D1.out
                    go_wp2_with fail
                    refine hK.out _ _ (by (try dsimp only); (first | (exact ⟨r0, r1, r2, r3, r4, r5, r6, r7⟩) | exact (KB.out _ BD.out))) (fun hHeld2 => ?_)
                    clear hK K hHeld
                    have hHeld := hHeld2
                    clear hHeld2
                    try simp only [Act.put, List.setIfInBounds_toArray, List.set_cons_zero, List.set_cons_succ]
                    refine wpAnyH_take (i := 9) (oi := { dst := some 117, op := Go.Op.unOp Go.UnOp.not 4 (Go.Operand.tmp 116), type := 4, pos := "laws.go:1309", after := #[{ on := 8, ground := Go.Ground.data }], guard := none }) (v := ?_) rfl (by kernel_rfl) (by kernel_rfl) (by kernel_rfl) (fun _ _ _ h => h) (Or.inl ⟨by rfl, ?_⟩) (by assumption) ?_
                    rotate_left 1
                    · (intro w hSw; (try dsimp only at hSw); go_simp); all_goals (with_reducible rfl)
                    try simp only [Act.put, List.setIfInBounds_toArray, List.set_cons_zero, List.set_cons_succ]
                    refine wpAnyH_take (i := 10) (oi := { dst := some 118, op := Go.Op.move (Go.Operand.tmp 117), type := 4, pos := "laws.go:1309", after := #[{ on := 9, ground := Go.Ground.data }, { on := 8, ground := Go.Ground.chain }], guard := none }) (v := ?_) rfl (by kernel_rfl) (by kernel_rfl) (by kernel_rfl) (fun _ _ _ h => h) (Or.inl ⟨by rfl, ?_⟩) (by assumption) ?_
                    rotate_left 1
                    · (intro w hSw; (try dsimp only at hSw); go_simp); all_goals (with_reducible rfl)
                    try simp only [Act.put, List.setIfInBounds_toArray, List.set_cons_zero, List.set_cons_succ]
                    refine wpAnyH_take (i := 11) (oi := { dst := some 119, op := Go.Op.move (Go.Operand.tmp 6), type := 3, pos := "laws.go:1309", after := #[{ on := 10, ground := Go.Ground.guard }], guard := some (10, false) }) (v := ?_) rfl (by kernel_rfl) (by kernel_rfl) (by kernel_rfl) (fun _ _ _ h => h) (Or.inl ⟨by rfl, ?_⟩) (by assumption) ?_
                    rotate_left 1
                    · (intro w hSw; (try dsimp only at hSw); go_simp); all_goals (with_reducible rfl)
                    try simp only [Act.put, List.setIfInBounds_toArray, List.set_cons_zero, List.set_cons_succ]
                    refine wpAnyH_take (i := 12) (oi := { dst := some 120, op := Go.Op.binOp Go.BinOp.eql 3 (Go.Operand.tmp 119) (Go.Operand.const (Go.Value.int Go.IntKind.i64 1)) 3, type := 4, pos := "laws.go:1309", after := #[{ on := 11, ground := Go.Ground.data }, { on := 10, ground := Go.Ground.guard }], guard := some (10, false) }) (v := ?_) rfl (by kernel_rfl) (by kernel_rfl) (by kernel_rfl) (fun _ _ _ h => h) (Or.inl ⟨by rfl, ?_⟩) (by assumption) ?_
                    rotate_left 1
                    · (intro w hSw; (try dsimp only at hSw); go_simp); all_goals (with_reducible rfl)
                    try simp only [Act.put, List.setIfInBounds_toArray, List.set_cons_zero, List.set_cons_succ]
                    refine wpAnyH_take (i := 13) (oi := { dst := some 121, op := Go.Op.move (Go.Operand.tmp 120), type := 4, pos := "laws.go:1309", after := #[{ on := 12, ground := Go.Ground.data }, { on := 10, ground := Go.Ground.chain }, { on := 10, ground := Go.Ground.guard }], guard := some (10, false) }) (v := ?_) rfl (by kernel_rfl) (by kernel_rfl) (by kernel_rfl) (fun _ _ _ h => h) (Or.inl ⟨by rfl, ?_⟩) (by assumption) ?_
                    rotate_left 1
                    · (intro w hSw; (try dsimp only at hSw); go_simp); all_goals (with_reducible rfl)
                    try simp only [Act.put, List.setIfInBounds_toArray, List.set_cons_zero, List.set_cons_succ]
                    refine wpAnyH_take (i := 14) (oi := { dst := some 122, op := Go.Op.move (Go.Operand.tmp 6), type := 3, pos := "laws.go:1309", after := #[{ on := 13, ground := Go.Ground.guard }], guard := some (13, false) }) (v := ?_) rfl (by kernel_rfl) (by kernel_rfl) (by kernel_rfl) (fun _ _ _ h => h) (Or.inl ⟨by rfl, ?_⟩) (by assumption) ?_
                    rotate_left 1
                    · (intro w hSw; (try dsimp only at hSw); go_simp); all_goals (with_reducible rfl)
                    try simp only [Act.put, List.setIfInBounds_toArray, List.set_cons_zero, List.set_cons_succ]
                    refine wpAnyH_take (i := 15) (oi := { dst := some 123, op := Go.Op.binOp Go.BinOp.eql 3 (Go.Operand.tmp 122) (Go.Operand.const (Go.Value.int Go.IntKind.i64 2)) 3, type := 4, pos := "laws.go:1309", after := #[{ on := 14, ground := Go.Ground.data }, { on := 13, ground := Go.Ground.guard }], guard := some (13, false) }) (v := ?_) rfl (by kernel_rfl) (by kernel_rfl) (by kernel_rfl) (fun _ _ _ h => h) (Or.inl ⟨by rfl, ?_⟩) (by assumption) ?_
                    rotate_left 1
                    · (intro w hSw; (try dsimp only at hSw); go_simp); all_goals (with_reducible rfl)
                    try simp only [Act.put, List.setIfInBounds_toArray, List.set_cons_zero, List.set_cons_succ]
                    refine wpAnyH_take (i := 16) (oi := { dst := some 124, op := Go.Op.pick (Go.Operand.tmp 121) (Go.Operand.const (Go.Value.bool true)) (Go.Operand.tmp 123), type := 4, pos := "laws.go:1309", after := #[{ on := 13, ground := Go.Ground.data }, { on := 15, ground := Go.Ground.data }, { on := 10, ground := Go.Ground.guard }], guard := some (10, false) }) (v := ?_) rfl (by kernel_rfl) (by kernel_rfl) (by kernel_rfl) (fun _ _ _ h => h) (Or.inl ⟨by rfl, ?_⟩) (by assumption) ?_
                    rotate_left 1
                    · (intro w hSw; (try dsimp only at hSw); go_simp); all_goals (with_reducible rfl)
                    try simp only [Act.put, List.setIfInBounds_toArray, List.set_cons_zero, List.set_cons_succ]
                    refine wpAnyH_take (i := 17) (oi := { dst := some 125, op := Go.Op.move (Go.Operand.tmp 124), type := 4, pos := "laws.go:1309", after := #[{ on := 16, ground := Go.Ground.data }, { on := 13, ground := Go.Ground.chain }, { on := 10, ground := Go.Ground.guard }], guard := some (10, false) }) (v := ?_) rfl (by kernel_rfl) (by kernel_rfl) (by kernel_rfl) (fun _ _ _ h => h) (Or.inl ⟨by rfl, ?_⟩) (by assumption) ?_
                    rotate_left 1
                    · (intro w hSw; (try dsimp only at hSw); go_simp); all_goals (with_reducible rfl)
                    try simp only [Act.put, List.setIfInBounds_toArray, List.set_cons_zero, List.set_cons_succ]
                    refine wpAnyH_take (i := 18) (oi := { dst := some 126, op := Go.Op.move (Go.Operand.tmp 6), type := 3, pos := "laws.go:1309", after := #[{ on := 17, ground := Go.Ground.guard }], guard := some (17, false) }) (v := ?_) rfl (by kernel_rfl) (by kernel_rfl) (by kernel_rfl) (fun _ _ _ h => h) (Or.inl ⟨by rfl, ?_⟩) (by assumption) ?_
                    rotate_left 1
                    · (intro w hSw; (try dsimp only at hSw); go_simp); all_goals (with_reducible rfl)
                    try simp only [Act.put, List.setIfInBounds_toArray, List.set_cons_zero, List.set_cons_succ]
                    refine wpAnyH_take (i := 19) (oi := { dst := some 127, op := Go.Op.binOp Go.BinOp.eql 3 (Go.Operand.tmp 126) (Go.Operand.const (Go.Value.int Go.IntKind.i64 4)) 3, type := 4, pos := "laws.go:1309", after := #[{ on := 18, ground := Go.Ground.data }, { on := 17, ground := Go.Ground.guard }], guard := some (17, false) }) (v := ?_) rfl (by kernel_rfl) (by kernel_rfl) (by kernel_rfl) (fun _ _ _ h => h) (Or.inl ⟨by rfl, ?_⟩) (by assumption) ?_
                    rotate_left 1
                    · (intro w hSw; (try dsimp only at hSw); go_simp); all_goals (with_reducible rfl)
                    try simp only [Act.put, List.setIfInBounds_toArray, List.set_cons_zero, List.set_cons_succ]
                    refine wpAnyH_take (i := 20) (oi := { dst := some 128, op := Go.Op.pick (Go.Operand.tmp 125) (Go.Operand.const (Go.Value.bool true)) (Go.Operand.tmp 127), type := 4, pos := "laws.go:1309", after := #[{ on := 17, ground := Go.Ground.data }, { on := 19, ground := Go.Ground.data }, { on := 10, ground := Go.Ground.guard }], guard := some (10, false) }) (v := ?_) rfl (by kernel_rfl) (by kernel_rfl) (by kernel_rfl) (fun _ _ _ h => h) (Or.inl ⟨by rfl, ?_⟩) (by assumption) ?_
                    rotate_left 1
                    · (intro w hSw; (try dsimp only at hSw); go_simp); all_goals (with_reducible rfl)
                    try simp only [Act.put, List.setIfInBounds_toArray, List.set_cons_zero, List.set_cons_succ]
                    refine wpAnyH_take (i := 21) (oi := { dst := some 129, op := Go.Op.move (Go.Operand.tmp 128), type := 4, pos := "laws.go:1309", after := #[{ on := 20, ground := Go.Ground.data }, { on := 17, ground := Go.Ground.chain }, { on := 10, ground := Go.Ground.guard }], guard := some (10, false) }) (v := ?_) rfl (by kernel_rfl) (by kernel_rfl) (by kernel_rfl) (fun _ _ _ h => h) (Or.inl ⟨by rfl, ?_⟩) (by assumption) ?_
                    rotate_left 1
                    · (intro w hSw; (try dsimp only at hSw); go_simp); all_goals (with_reducible rfl)
                    try simp only [Act.put, List.setIfInBounds_toArray, List.set_cons_zero, List.set_cons_succ]
                    refine wpAnyH_take (i := 22) (oi := { dst := some 130, op := Go.Op.move (Go.Operand.tmp 10), type := 24, pos := "laws.go:1309", after := #[{ on := 21, ground := Go.Ground.guard }], guard := some (21, true) }) (v := ?_) rfl (by kernel_rfl) (by kernel_rfl) (by kernel_rfl) (fun _ _ _ h => h) (Or.inl ⟨by rfl, ?_⟩) (by assumption) ?_
                    rotate_left 1
                    · (intro w hSw; (try dsimp only at hSw); go_simp); all_goals (with_reducible rfl)
                    try simp only [Act.put, List.setIfInBounds_toArray, List.set_cons_zero, List.set_cons_succ]
                    refine wpAnyH_take (i := 23) (oi := { dst := some 131, op := Go.Op.move (Go.Operand.tmp 12), type := 3, pos := "laws.go:1309", after := #[{ on := 21, ground := Go.Ground.guard }], guard := some (21, true) }) (v := ?_) rfl (by kernel_rfl) (by kernel_rfl) (by kernel_rfl) (fun _ _ _ h => h) (Or.inl ⟨by rfl, ?_⟩) (by assumption) ?_
                    rotate_left 1
                    · (intro w hSw; (try dsimp only at hSw); go_simp); all_goals (with_reducible rfl)
                    try simp only [Act.put, List.setIfInBounds_toArray, List.set_cons_zero, List.set_cons_succ]
                    refine wpAnyH_take (i := 24) (oi := { dst := some 132, op := Go.Op.indexAddr 24 (Go.Operand.tmp 130) (Go.Operand.tmp 131), type := 0, pos := "laws.go:1309", after := #[{ on := 22, ground := Go.Ground.data }, { on := 23, ground := Go.Ground.data }, { on := 21, ground := Go.Ground.guard }], guard := some (21, true) }) (v := ?_) rfl (by kernel_rfl) (by kernel_rfl) (by kernel_rfl) (fun _ _ _ h => h) (Or.inl ⟨by rfl, ?_⟩) (by assumption) ?_
                    rotate_left 1
                    · (intro w hSw; (try dsimp only at hSw); go_simp); all_goals (with_reducible rfl)
                    try simp only [Act.put, List.setIfInBounds_toArray, List.set_cons_zero, List.set_cons_succ]
                    refine wpAnyH_take (i := 25) (oi := { dst := some 133, op := Go.Op.load 29 (Go.Operand.tmp 132), type := 29, pos := "laws.go:1309", after := #[{ on := 24, ground := Go.Ground.data }, { on := 21, ground := Go.Ground.guard }], guard := some (21, true) }) (v := ?_) rfl (by kernel_rfl) (by kernel_rfl) (by kernel_rfl) (fun _ _ _ h => h) (Or.inl ⟨by rfl, ?_⟩) (by assumption) ?_
                    rotate_left 1
                    · (intro w hSw; (try dsimp only at hSw); go_simp); all_goals (with_reducible rfl)
                    try simp only [Act.put, List.setIfInBounds_toArray, List.set_cons_zero, List.set_cons_succ]
                    refine wpAnyH_take (i := 26) (oi := { dst := some 134, op := Go.Op.move (Go.Operand.tmp 3), type := 24, pos := "laws.go:1309", after := #[{ on := 21, ground := Go.Ground.guard }], guard := some (21, true) }) (v := ?_) rfl (by kernel_rfl) (by kernel_rfl) (by kernel_rfl) (fun _ _ _ h => h) (Or.inl ⟨by rfl, ?_⟩) (by assumption) ?_
                    rotate_left 1
                    · (intro w hSw; (try dsimp only at hSw); go_simp); all_goals (with_reducible rfl)
                    try simp only [Act.put, List.setIfInBounds_toArray, List.set_cons_zero, List.set_cons_succ]
                    refine wpAnyH_take (i := 27) (oi := { dst := some 135, op := Go.Op.move (Go.Operand.tmp 12), type := 3, pos := "laws.go:1309", after := #[{ on := 21, ground := Go.Ground.guard }], guard := some (21, true) }) (v := ?_) rfl (by kernel_rfl) (by kernel_rfl) (by kernel_rfl) (fun _ _ _ h => h) (Or.inl ⟨by rfl, ?_⟩) (by assumption) ?_
                    rotate_left 1
                    · (intro w hSw; (try dsimp only at hSw); go_simp); all_goals (with_reducible rfl)
                    try simp only [Act.put, List.setIfInBounds_toArray, List.set_cons_zero, List.set_cons_succ]
                    refine wpAnyH_take (i := 28) (oi := { dst := some 136, op := Go.Op.indexAddr 24 (Go.Operand.tmp 134) (Go.Operand.tmp 135), type := 0, pos := "laws.go:1309", after := #[{ on := 26, ground := Go.Ground.data }, { on := 27, ground := Go.Ground.data }, { on := 21, ground := Go.Ground.guard }], guard := some (21, true) }) (v := ?_) rfl (by kernel_rfl) (by kernel_rfl) (by kernel_rfl) (fun _ _ _ h => h) (Or.inl ⟨by rfl, ?_⟩) (by assumption) ?_
                    rotate_left 1
                    · (intro w hSw; (try dsimp only at hSw); go_simp); all_goals (with_reducible rfl)
                    try simp only [Act.put, List.setIfInBounds_toArray, List.set_cons_zero, List.set_cons_succ]
                    refine wpAnyH_take (i := 29) (oi := { dst := some 137, op := Go.Op.load 29 (Go.Operand.tmp 136), type := 29, pos := "laws.go:1309", after := #[{ on := 28, ground := Go.Ground.data }, { on := 21, ground := Go.Ground.guard }], guard := some (21, true) }) (v := ?_) rfl (by kernel_rfl) (by kernel_rfl) (by kernel_rfl) (fun _ _ _ h => h) (Or.inl ⟨by rfl, ?_⟩) (by assumption) ?_
                    rotate_left 1
                    · (intro w hSw; (try dsimp only at hSw); go_simp); all_goals (with_reducible rfl)
                    try simp only [Act.put, List.setIfInBounds_toArray, List.set_cons_zero, List.set_cons_succ]
                    refine wpAnyH_ready (rs := [30]) (by kernel_rfl) (by simp) ?_
                    refine AllReadyH.cons (o := { dst := some 138, op := Go.Op.call { callee := Go.Callee.value (Go.Operand.func 10), args := #[Go.Operand.tmp 133, Go.Operand.tmp 137], argTypes := #[29, 29] }, type := 4, pos := "laws.go:1309", after := #[{ on := 25, ground := Go.Ground.data }, { on := 29, ground := Go.Ground.data }, { on := 21, ground := Go.Ground.chain }, { on := 21, ground := Go.Ground.guard }], guard := some (21, true) }) rfl (fun K hK => ?_) AllReadyH.nil
                    go_simp
                    go_at_call 10; (with_reducible refine (equal_any x7 y7 x3 y3 (EQ2.out QH.out).1 (EQ2.out QH.out).2 _).mono ?_); rintro e u2 ⟨rfl, hb⟩; have D2 : Hid (Below wr.heap.size wr u2) := D1.out.trans (hb.mono D1.out.size); clear hb; obtain ⟨r0, r1, r2, r3, r4, r5, r6, r7⟩ := KB.out u2 D2.out
                    go_wp2_with fail
                    refine hK.out _ _ (by (try dsimp only); (first | (exact ⟨r0, r1, r2, r3, r4, r5, r6, r7⟩) | exact (KB.out _ BD.out))) (fun hHeld2 => ?_)
                    clear hK K hHeld
                    have hHeld := hHeld2
                    clear hHeld2
                    try simp only [Act.put, List.setIfInBounds_toArray, List.set_cons_zero, List.set_cons_succ]
                    refine wpAnyH_take (i := 31) (oi := { dst := some 139, op := Go.Op.unOp Go.UnOp.not 4 (Go.Operand.tmp 138), type := 4, pos := "laws.go:1309", after := #[{ on := 30, ground := Go.Ground.data }, { on := 21, ground := Go.Ground.guard }], guard := some (21, true) }) (v := ?_) rfl (by kernel_rfl) (by kernel_rfl) (by kernel_rfl) (fun _ _ _ h => h) (Or.inl ⟨by rfl, ?_⟩) (by assumption) ?_
                    rotate_left 1
                    · (intro w hSw; (try dsimp only at hSw); go_simp); all_goals (with_reducible rfl)
                    try simp only [Act.put, List.setIfInBounds_toArray, List.set_cons_zero, List.set_cons_succ]
                    refine wpAnyH_take (i := 32) (oi := { dst := some 140, op := Go.Op.pick (Go.Operand.tmp 129) (Go.Operand.tmp 139) (Go.Operand.const (Go.Value.bool false)), type := 4, pos := "laws.go:1309", after := #[{ on := 21, ground := Go.Ground.data }, { on := 31, ground := Go.Ground.data }, { on := 10, ground := Go.Ground.guard }], guard := some (10, false) }) (v := ?_) rfl (by kernel_rfl) (by kernel_rfl) (by kernel_rfl) (fun _ _ _ h => h) (Or.inl ⟨by rfl, ?_⟩) (by assumption) ?_
                    rotate_left 1
                    · (intro w hSw; (try dsimp only at hSw); go_simp); all_goals (with_reducible rfl)
                    try simp only [Act.put, List.setIfInBounds_toArray, List.set_cons_zero, List.set_cons_succ]
                    refine wpAnyH_take (i := 33) (oi := { dst := some 141, op := Go.Op.pick (Go.Operand.tmp 118) (Go.Operand.const (Go.Value.bool true)) (Go.Operand.tmp 140), type := 4, pos := "laws.go:1309", after := #[{ on := 10, ground := Go.Ground.data }, { on := 32, ground := Go.Ground.data }], guard := none }) (v := ?_) rfl (by kernel_rfl) (by kernel_rfl) (by kernel_rfl) (fun _ _ _ h => h) (Or.inl ⟨by rfl, ?_⟩) (by assumption) ?_
                    rotate_left 1
                    · (intro w hSw; (try dsimp only at hSw); go_simp); all_goals (with_reducible rfl)
                    try simp only [Act.put, List.setIfInBounds_toArray, List.set_cons_zero, List.set_cons_succ]
                    refine wpAnyH_done (by kernel_rfl) ?_ _
                    have GO : Hid (w7.grownBy u2 (some g3) ∧ Below w.heap.size w u2 ∧ Pr.Row u2 (w.heap.size + 1) (.slice (some ⟨g3, 0, none⟩) X.length c3) DD) := ⟨grown_below GW.out D2.out, BZ.out.trans (D2.out.mono BZ.out.size), RZ.out.on D2.out⟩
                    have fz := (row_st (k := j * 2 + 1) GO.out.2.2 hD).1
                    clear KB
                    go_wp2_with fail
                    go_roundw
                    case rel => exact ⟨j + 1, DD.set j (Pr.c0 DD j, 0), by omega, by go_num, by rw [List.length_set]; exact hD, PUT.out _ GO.out.2.2, FS.out, Pr.grown_setCell GO.out.1 _ _, GO.out.2.1.setCell (p := ⟨g3, j * 2 + 1, none⟩) HG.out _⟩
                    case measure => simp [intOf]; omega
                  · have d4 : decide ((X.length : Int) = 4) = false := decide_eq_false (by omega)
                    have bi4 : ((X.length : Int) == 4) = false := (by simpa using (by omega : ¬ ((X.length : Int) = 4)))
                    have bn4 : (X.length == 4) = false := (by simpa using (by omega : ¬ (X.length = 4)))
                    have e4 : decide (X.length = 4) = false := decide_eq_false (by omega)
                    clear q4
                    go_upto_region 26 with fail
                    refine wp_region_held_drew (S := fun w' => w'.cell? ⟨g8, j * 2, none⟩ = some (.float .f64 x8) ∧ w'.cell? ⟨g8, j * 2 + 1, none⟩ = some (.float .f64 y8) ∧ w'.cell? ⟨g6, j * 2, none⟩ = some (.float .f64 x6) ∧ w'.cell? ⟨g6, j * 2 + 1, none⟩ = some (.float .f64 y6) ∧ w'.cell? ⟨g7, j * 2, none⟩ = some (.float .f64 x7) ∧ w'.cell? ⟨g7, j * 2 + 1, none⟩ = some (.float .f64 y7) ∧ w'.cell? ⟨g3, j * 2, none⟩ = some (.float .f64 x3) ∧ w'.cell? ⟨g3, j * 2 + 1, none⟩ = some (.float .f64 y3)) (by kernel_rfl) (by (try dsimp only); (first | (exact ⟨r0, r1, r2, r3, r4, r5, r6, r7⟩) | exact (KB.out _ BD.out))) (fun hHeld => ?_)
                    refine wpAnyH_take (i := 0) (oi := { dst := some 108, op := Go.Op.move (Go.Operand.tmp 11), type := 24, pos := "laws.go:1309", after := #[], guard := none }) (v := ?_) rfl (by kernel_rfl) (by kernel_rfl) (by kernel_rfl) (fun _ _ _ h => h) (Or.inl ⟨by rfl, ?_⟩) (by assumption) ?_
                    rotate_left 1
                    · (intro w hSw; (try dsimp only at hSw); go_simp); all_goals (with_reducible rfl)
                    try simp only [Act.put, List.setIfInBounds_toArray, List.set_cons_zero, List.set_cons_succ]
                    refine wpAnyH_take (i := 1) (oi := { dst := some 109, op := Go.Op.move (Go.Operand.tmp 12), type := 3, pos := "laws.go:1309", after := #[], guard := none }) (v := ?_) rfl (by kernel_rfl) (by kernel_rfl) (by kernel_rfl) (fun _ _ _ h => h) (Or.inl ⟨by rfl, ?_⟩) (by assumption) ?_
                    rotate_left 1
                    · (intro w hSw; (try dsimp only at hSw); go_simp); all_goals (with_reducible rfl)
                    try simp only [Act.put, List.setIfInBounds_toArray, List.set_cons_zero, List.set_cons_succ]
                    refine wpAnyH_take (i := 2) (oi := { dst := some 110, op := Go.Op.indexAddr 24 (Go.Operand.tmp 108) (Go.Operand.tmp 109), type := 0, pos := "laws.go:1309", after := #[{ on := 0, ground := Go.Ground.data }, { on := 1, ground := Go.Ground.data }], guard := none }) (v := ?_) rfl (by kernel_rfl) (by kernel_rfl) (by kernel_rfl) (fun _ _ _ h => h) (Or.inl ⟨by rfl, ?_⟩) (by assumption) ?_
                    rotate_left 1
                    · (intro w hSw; (try dsimp only at hSw); go_simp); all_goals (with_reducible rfl)
                    try simp only [Act.put, List.setIfInBounds_toArray, List.set_cons_zero, List.set_cons_succ]
                    refine wpAnyH_take (i := 3) (oi := { dst := some 111, op := Go.Op.load 29 (Go.Operand.tmp 110), type := 29, pos := "laws.go:1309", after := #[{ on := 2, ground := Go.Ground.data }], guard := none }) (v := ?_) rfl (by kernel_rfl) (by kernel_rfl) (by kernel_rfl) (fun _ _ _ h => h) (Or.inl ⟨by rfl, ?_⟩) (by assumption) ?_
                    rotate_left 1
                    · (intro w hSw; (try dsimp only at hSw); go_simp); all_goals (with_reducible rfl)
                    try simp only [Act.put, List.setIfInBounds_toArray, List.set_cons_zero, List.set_cons_succ]
                    refine wpAnyH_take (i := 4) (oi := { dst := some 112, op := Go.Op.move (Go.Operand.tmp 5), type := 24, pos := "laws.go:1309", after := #[], guard := none }) (v := ?_) rfl (by kernel_rfl) (by kernel_rfl) (by kernel_rfl) (fun _ _ _ h => h) (Or.inl ⟨by rfl, ?_⟩) (by assumption) ?_
                    rotate_left 1
                    · (intro w hSw; (try dsimp only at hSw); go_simp); all_goals (with_reducible rfl)
                    try simp only [Act.put, List.setIfInBounds_toArray, List.set_cons_zero, List.set_cons_succ]
                    refine wpAnyH_take (i := 5) (oi := { dst := some 113, op := Go.Op.move (Go.Operand.tmp 12), type := 3, pos := "laws.go:1309", after := #[], guard := none }) (v := ?_) rfl (by kernel_rfl) (by kernel_rfl) (by kernel_rfl) (fun _ _ _ h => h) (Or.inl ⟨by rfl, ?_⟩) (by assumption) ?_
                    rotate_left 1
                    · (intro w hSw; (try dsimp only at hSw); go_simp); all_goals (with_reducible rfl)
                    try simp only [Act.put, List.setIfInBounds_toArray, List.set_cons_zero, List.set_cons_succ]
                    refine wpAnyH_take (i := 6) (oi := { dst := some 114, op := Go.Op.indexAddr 24 (Go.Operand.tmp 112) (Go.Operand.tmp 113), type := 0, pos := "laws.go:1309", after := #[{ on := 4, ground := Go.Ground.data }, { on := 5, ground := Go.Ground.data }], guard := none }) (v := ?_) rfl (by kernel_rfl) (by kernel_rfl) (by kernel_rfl) (fun _ _ _ h => h) (Or.inl ⟨by rfl, ?_⟩) (by assumption) ?_
                    rotate_left 1
                    · (intro w hSw; (try dsimp only at hSw); go_simp); all_goals (with_reducible rfl)
                    try simp only [Act.put, List.setIfInBounds_toArray, List.set_cons_zero, List.set_cons_succ]
                    refine wpAnyH_take (i := 7) (oi := { dst := some 115, op := Go.Op.load 29 (Go.Operand.tmp 114), type := 29, pos := "laws.go:1309", after := #[{ on := 6, ground := Go.Ground.data }], guard := none }) (v := ?_) rfl (by kernel_rfl) (by kernel_rfl) (by kernel_rfl) (fun _ _ _ h => h) (Or.inl ⟨by rfl, ?_⟩) (by assumption) ?_
                    rotate_left 1
                    · (intro w hSw; (try dsimp only at hSw); go_simp); all_goals (with_reducible rfl)
                    try simp only [Act.put, List.setIfInBounds_toArray, List.set_cons_zero, List.set_cons_succ]
                    refine wpAnyH_ready (rs := [8]) (by kernel_rfl) (by simp) ?_
                    refine AllReadyH.cons (o := { dst := some 116, op := Go.Op.call { callee := Go.Callee.value (Go.Operand.func 10), args := #[Go.Operand.tmp 111, Go.Operand.tmp 115], argTypes := #[29, 29] }, type := 4, pos := "laws.go:1309", after := #[{ on := 3, ground := Go.Ground.data }, { on := 7, ground := Go.Ground.data }], guard := none }) rfl (fun K hK => ?_) AllReadyH.nil
                    go_simp
                    go_at_call 10; (with_reducible refine (equal_any x8 y8 x6 y6 EQ1.out.1 EQ1.out.2 _).mono ?_); rintro e u1 ⟨rfl, hb⟩; have D1 : Hid (Below wr.heap.size wr u1) := BD.out.trans (hb.mono BD.out.size); clear hb; obtain ⟨r0, r1, r2, r3, r4, r5, r6, r7⟩ := KB.out u1 D1.out
                    go_wp2_with fail
                    refine hK.out _ _ (by (try dsimp only); (first | (exact ⟨r0, r1, r2, r3, r4, r5, r6, r7⟩) | exact (KB.out _ BD.out))) (fun hHeld2 => ?_)
                    clear hK K hHeld
                    have hHeld := hHeld2
                    clear hHeld2
                    try simp only [Act.put, List.setIfInBounds_toArray, List.set_cons_zero, List.set_cons_succ]
                    refine wpAnyH_take (i := 9) (oi := { dst := some 117, op := Go.Op.unOp Go.UnOp.not 4 (Go.Operand.tmp 116), type := 4, pos := "laws.go:1309", after := #[{ on := 8, ground := Go.Ground.data }], guard := none }) (v := ?_) rfl (by kernel_rfl) (by kernel_rfl) (by kernel_rfl) (fun _ _ _ h => h) (Or.inl ⟨by rfl, ?_⟩) (by assumption) ?_
                    rotate_left 1
                    · (intro w hSw; (try dsimp only at hSw); go_simp); all_goals (with_reducible rfl)
                    try simp only [Act.put, List.setIfInBounds_toArray, List.set_cons_zero, List.set_cons_succ]
                    refine wpAnyH_take (i := 10) (oi := { dst := some 118, op := Go.Op.move (Go.Operand.tmp 117), type := 4, pos := "laws.go:1309", after := #[{ on := 9, ground := Go.Ground.data }, { on := 8, ground := Go.Ground.chain }], guard := none }) (v := ?_) rfl (by kernel_rfl) (by kernel_rfl) (by kernel_rfl) (fun _ _ _ h => h) (Or.inl ⟨by rfl, ?_⟩) (by assumption) ?_
                    rotate_left 1
                    · (intro w hSw; (try dsimp only at hSw); go_simp); all_goals (with_reducible rfl)
                    try simp only [Act.put, List.setIfInBounds_toArray, List.set_cons_zero, List.set_cons_succ]
                    refine wpAnyH_take (i := 11) (oi := { dst := some 119, op := Go.Op.move (Go.Operand.tmp 6), type := 3, pos := "laws.go:1309", after := #[{ on := 10, ground := Go.Ground.guard }], guard := some (10, false) }) (v := ?_) rfl (by kernel_rfl) (by kernel_rfl) (by kernel_rfl) (fun _ _ _ h => h) (Or.inl ⟨by rfl, ?_⟩) (by assumption) ?_
                    rotate_left 1
                    · (intro w hSw; (try dsimp only at hSw); go_simp); all_goals (with_reducible rfl)
                    try simp only [Act.put, List.setIfInBounds_toArray, List.set_cons_zero, List.set_cons_succ]
                    refine wpAnyH_take (i := 12) (oi := { dst := some 120, op := Go.Op.binOp Go.BinOp.eql 3 (Go.Operand.tmp 119) (Go.Operand.const (Go.Value.int Go.IntKind.i64 1)) 3, type := 4, pos := "laws.go:1309", after := #[{ on := 11, ground := Go.Ground.data }, { on := 10, ground := Go.Ground.guard }], guard := some (10, false) }) (v := ?_) rfl (by kernel_rfl) (by kernel_rfl) (by kernel_rfl) (fun _ _ _ h => h) (Or.inl ⟨by rfl, ?_⟩) (by assumption) ?_
                    rotate_left 1
                    · (intro w hSw; (try dsimp only at hSw); go_simp); all_goals (with_reducible rfl)
                    try simp only [Act.put, List.setIfInBounds_toArray, List.set_cons_zero, List.set_cons_succ]
                    refine wpAnyH_take (i := 13) (oi := { dst := some 121, op := Go.Op.move (Go.Operand.tmp 120), type := 4, pos := "laws.go:1309", after := #[{ on := 12, ground := Go.Ground.data }, { on := 10, ground := Go.Ground.chain }, { on := 10, ground := Go.Ground.guard }], guard := some (10, false) }) (v := ?_) rfl (by kernel_rfl) (by kernel_rfl) (by kernel_rfl) (fun _ _ _ h => h) (Or.inl ⟨by rfl, ?_⟩) (by assumption) ?_
                    rotate_left 1
                    · (intro w hSw; (try dsimp only at hSw); go_simp); all_goals (with_reducible rfl)
                    try simp only [Act.put, List.setIfInBounds_toArray, List.set_cons_zero, List.set_cons_succ]
                    refine wpAnyH_take (i := 14) (oi := { dst := some 122, op := Go.Op.move (Go.Operand.tmp 6), type := 3, pos := "laws.go:1309", after := #[{ on := 13, ground := Go.Ground.guard }], guard := some (13, false) }) (v := ?_) rfl (by kernel_rfl) (by kernel_rfl) (by kernel_rfl) (fun _ _ _ h => h) (Or.inl ⟨by rfl, ?_⟩) (by assumption) ?_
                    rotate_left 1
                    · (intro w hSw; (try dsimp only at hSw); go_simp); all_goals (with_reducible rfl)
                    try simp only [Act.put, List.setIfInBounds_toArray, List.set_cons_zero, List.set_cons_succ]
                    refine wpAnyH_take (i := 15) (oi := { dst := some 123, op := Go.Op.binOp Go.BinOp.eql 3 (Go.Operand.tmp 122) (Go.Operand.const (Go.Value.int Go.IntKind.i64 2)) 3, type := 4, pos := "laws.go:1309", after := #[{ on := 14, ground := Go.Ground.data }, { on := 13, ground := Go.Ground.guard }], guard := some (13, false) }) (v := ?_) rfl (by kernel_rfl) (by kernel_rfl) (by kernel_rfl) (fun _ _ _ h => h) (Or.inl ⟨by rfl, ?_⟩) (by assumption) ?_
                    rotate_left 1
                    · (intro w hSw; (try dsimp only at hSw); go_simp); all_goals (with_reducible rfl)
                    try simp only [Act.put, List.setIfInBounds_toArray, List.set_cons_zero, List.set_cons_succ]
                    refine wpAnyH_take (i := 16) (oi := { dst := some 124, op := Go.Op.pick (Go.Operand.tmp 121) (Go.Operand.const (Go.Value.bool true)) (Go.Operand.tmp 123), type := 4, pos := "laws.go:1309", after := #[{ on := 13, ground := Go.Ground.data }, { on := 15, ground := Go.Ground.data }, { on := 10, ground := Go.Ground.guard }], guard := some (10, false) }) (v := ?_) rfl (by kernel_rfl) (by kernel_rfl) (by kernel_rfl) (fun _ _ _ h => h) (Or.inl ⟨by rfl, ?_⟩) (by assumption) ?_
                    rotate_left 1
                    · (intro w hSw; (try dsimp only at hSw); go_simp); all_goals (with_reducible rfl)
                    try simp only [Act.put, List.setIfInBounds_toArray, List.set_cons_zero, List.set_cons_succ]
                    refine wpAnyH_take (i := 17) (oi := { dst := some 125, op := Go.Op.move (Go.Operand.tmp 124), type := 4, pos := "laws.go:1309", after := #[{ on := 16, ground := Go.Ground.data }, { on := 13, ground := Go.Ground.chain }, { on := 10, ground := Go.Ground.guard }], guard := some (10, false) }) (v := ?_) rfl (by kernel_rfl) (by kernel_rfl) (by kernel_rfl) (fun _ _ _ h => h) (Or.inl ⟨by rfl, ?_⟩) (by assumption) ?_
                    rotate_left 1
                    · (intro w hSw; (try dsimp only at hSw); go_simp); all_goals (with_reducible rfl)
                    try simp only [Act.put, List.setIfInBounds_toArray, List.set_cons_zero, List.set_cons_succ]
                    refine wpAnyH_take (i := 18) (oi := { dst := some 126, op := Go.Op.move (Go.Operand.tmp 6), type := 3, pos := "laws.go:1309", after := #[{ on := 17, ground := Go.Ground.guard }], guard := some (17, false) }) (v := ?_) rfl (by kernel_rfl) (by kernel_rfl) (by kernel_rfl) (fun _ _ _ h => h) (Or.inl ⟨by rfl, ?_⟩) (by assumption) ?_
                    rotate_left 1
                    · (intro w hSw; (try dsimp only at hSw); go_simp); all_goals (with_reducible rfl)
                    try simp only [Act.put, List.setIfInBounds_toArray, List.set_cons_zero, List.set_cons_succ]
                    refine wpAnyH_take (i := 19) (oi := { dst := some 127, op := Go.Op.binOp Go.BinOp.eql 3 (Go.Operand.tmp 126) (Go.Operand.const (Go.Value.int Go.IntKind.i64 4)) 3, type := 4, pos := "laws.go:1309", after := #[{ on := 18, ground := Go.Ground.data }, { on := 17, ground := Go.Ground.guard }], guard := some (17, false) }) (v := ?_) rfl (by kernel_rfl) (by kernel_rfl) (by kernel_rfl) (fun _ _ _ h => h) (Or.inl ⟨by rfl, ?_⟩) (by assumption) ?_
                    rotate_left 1
                    · (intro w hSw; (try dsimp only at hSw); go_simp); all_goals (with_reducible rfl)
                    try simp only [Act.put, List.setIfInBounds_toArray, List.set_cons_zero, List.set_cons_succ]
                    refine wpAnyH_take (i := 20) (oi := { dst := some 128, op := Go.Op.pick (Go.Operand.tmp 125) (Go.Operand.const (Go.Value.bool true)) (Go.Operand.tmp 127), type := 4, pos := "laws.go:1309", after := #[{ on := 17, ground := Go.Ground.data }, { on := 19, ground := Go.Ground.data }, { on := 10, ground := Go.Ground.guard }], guard := some (10, false) }) (v := ?_) rfl (by kernel_rfl) (by kernel_rfl) (by kernel_rfl) (fun _ _ _ h => h) (Or.inl ⟨by rfl, ?_⟩) (by assumption) ?_
                    rotate_left 1
                    · (intro w hSw; (try dsimp only at hSw); go_simp); all_goals (with_reducible rfl)
                    try simp only [Act.put, List.setIfInBounds_toArray, List.set_cons_zero, List.set_cons_succ]
                    refine wpAnyH_take (i := 21) (oi := { dst := some 129, op := Go.Op.move (Go.Operand.tmp 128), type := 4, pos := "laws.go:1309", after := #[{ on := 20, ground := Go.Ground.data }, { on := 17, ground := Go.Ground.chain }, { on := 10, ground := Go.Ground.guard }], guard := some (10, false) }) (v := ?_) rfl (by kernel_rfl) (by kernel_rfl) (by kernel_rfl) (fun _ _ _ h => h) (Or.inl ⟨by rfl, ?_⟩) (by assumption) ?_
                    rotate_left 1
                    · (intro w hSw; (try dsimp only at hSw); go_simp); all_goals (with_reducible rfl)
                    try simp only [Act.put, List.setIfInBounds_toArray, List.set_cons_zero, List.set_cons_succ]
                    refine wpAnyH_take (i := 22) (oi := { dst := some 130, op := Go.Op.move (Go.Operand.tmp 10), type := 24, pos := "laws.go:1309", after := #[{ on := 21, ground := Go.Ground.guard }], guard := some (21, true) }) (v := undef) rfl (by kernel_rfl) (by kernel_rfl) (by kernel_rfl) (fun _ _ _ h => h) (Or.inr ⟨by rfl, rfl⟩) (by assumption) ?_
                    try simp only [Act.put, List.setIfInBounds_toArray, List.set_cons_zero, List.set_cons_succ]
                    refine wpAnyH_take (i := 23) (oi := { dst := some 131, op := Go.Op.move (Go.Operand.tmp 12), type := 3, pos := "laws.go:1309", after := #[{ on := 21, ground := Go.Ground.guard }], guard := some (21, true) }) (v := undef) rfl (by kernel_rfl) (by kernel_rfl) (by kernel_rfl) (fun _ _ _ h => h) (Or.inr ⟨by rfl, rfl⟩) (by assumption) ?_
                    try simp only [Act.put, List.setIfInBounds_toArray, List.set_cons_zero, List.set_cons_succ]
                    refine wpAnyH_take (i := 24) (oi := { dst := some 132, op := Go.Op.indexAddr 24 (Go.Operand.tmp 130) (Go.Operand.tmp 131), type := 0, pos := "laws.go:1309", after := #[{ on := 22, ground := Go.Ground.data }, { on := 23, ground := Go.Ground.data }, { on := 21, ground := Go.Ground.guard }], guard := some (21, true) }) (v := undef) rfl (by kernel_rfl) (by kernel_rfl) (by kernel_rfl) (fun _ _ _ h => h) (Or.inr ⟨by rfl, rfl⟩) (by assumption) ?_
                    try simp only [Act.put, List.setIfInBounds_toArray, List.set_cons_zero, List.set_cons_succ]
                    refine wpAnyH_take (i := 25) (oi := { dst := some 133, op := Go.Op.load 29 (Go.Operand.tmp 132), type := 29, pos := "laws.go:1309", after := #[{ on := 24, ground := Go.Ground.data }, { on := 21, ground := Go.Ground.guard }], guard := some (21, true) }) (v := undef) rfl (by kernel_rfl) (by kernel_rfl) (by kernel_rfl) (fun _ _ _ h => h) (Or.inr ⟨by rfl, rfl⟩) (by assumption) ?_
                    try simp only [Act.put, List.setIfInBounds_toArray, List.set_cons_zero, List.set_cons_succ]
                    refine wpAnyH_take (i := 26) (oi := { dst := some 134, op := Go.Op.move (Go.Operand.tmp 3), type := 24, pos := "laws.go:1309", after := #[{ on := 21, ground := Go.Ground.guard }], guard := some (21, true) }) (v := undef) rfl (by kernel_rfl) (by kernel_rfl) (by kernel_rfl) (fun _ _ _ h => h) (Or.inr ⟨by rfl, rfl⟩) (by assumption) ?_
                    try simp only [Act.put, List.setIfInBounds_toArray, List.set_cons_zero, List.set_cons_succ]
                    refine wpAnyH_take (i := 27) (oi := { dst := some 135, op := Go.Op.move (Go.Operand.tmp 12), type := 3, pos := "laws.go:1309", after := #[{ on := 21, ground := Go.Ground.guard }], guard := some (21, true) }) (v := undef) rfl (by kernel_rfl) (by kernel_rfl) (by kernel_rfl) (fun _ _ _ h => h) (Or.inr ⟨by rfl, rfl⟩) (by assumption) ?_
                    try simp only [Act.put, List.setIfInBounds_toArray, List.set_cons_zero, List.set_cons_succ]
                    refine wpAnyH_take (i := 28) (oi := { dst := some 136, op := Go.Op.indexAddr 24 (Go.Operand.tmp 134) (Go.Operand.tmp 135), type := 0, pos := "laws.go:1309", after := #[{ on := 26, ground := Go.Ground.data }, { on := 27, ground := Go.Ground.data }, { on := 21, ground := Go.Ground.guard }], guard := some (21, true) }) (v := undef) rfl (by kernel_rfl) (by kernel_rfl) (by kernel_rfl) (fun _ _ _ h => h) (Or.inr ⟨by rfl, rfl⟩) (by assumption) ?_
                    try simp only [Act.put, List.setIfInBounds_toArray, List.set_cons_zero, List.set_cons_succ]
                    refine wpAnyH_take (i := 29) (oi := { dst := some 137, op := Go.Op.load 29 (Go.Operand.tmp 136), type := 29, pos := "laws.go:1309", after := #[{ on := 28, ground := Go.Ground.data }, { on := 21, ground := Go.Ground.guard }], guard := some (21, true) }) (v := undef) rfl (by kernel_rfl) (by kernel_rfl) (by kernel_rfl) (fun _ _ _ h => h) (Or.inr ⟨by rfl, rfl⟩) (by assumption) ?_
                    try simp only [Act.put, List.setIfInBounds_toArray, List.set_cons_zero, List.set_cons_succ]
                    refine wpAnyH_take (i := 30) (oi := { dst := some 138, op := Go.Op.call { callee := Go.Callee.value (Go.Operand.func 10), args := #[Go.Operand.tmp 133, Go.Operand.tmp 137], argTypes := #[29, 29] }, type := 4, pos := "laws.go:1309", after := #[{ on := 25, ground := Go.Ground.data }, { on := 29, ground := Go.Ground.data }, { on := 21, ground := Go.Ground.chain }, { on := 21, ground := Go.Ground.guard }], guard := some (21, true) }) (v := undef) rfl (by kernel_rfl) (by kernel_rfl) (by kernel_rfl) (fun _ _ _ h => h) (Or.inr ⟨by rfl, rfl⟩) (by assumption) ?_
                    try simp only [Act.put, List.setIfInBounds_toArray, List.set_cons_zero, List.set_cons_succ]
                    refine wpAnyH_take (i := 31) (oi := { dst := some 139, op := Go.Op.unOp Go.UnOp.not 4 (Go.Operand.tmp 138), type := 4, pos := "laws.go:1309", after := #[{ on := 30, ground := Go.Ground.data }, { on := 21, ground := Go.Ground.guard }], guard := some (21, true) }) (v := undef) rfl (by kernel_rfl) (by kernel_rfl) (by kernel_rfl) (fun _ _ _ h => h) (Or.inr ⟨by rfl, rfl⟩) (by assumption) ?_
                    try simp only [Act.put, List.setIfInBounds_toArray, List.set_cons_zero, List.set_cons_succ]
                    refine wpAnyH_take (i := 32) (oi := { dst := some 140, op := Go.Op.pick (Go.Operand.tmp 129) (Go.Operand.tmp 139) (Go.Operand.const (Go.Value.bool false)), type := 4, pos := "laws.go:1309", after := #[{ on := 21, ground := Go.Ground.data }, { on := 31, ground := Go.Ground.data }, { on := 10, ground := Go.Ground.guard }], guard := some (10, false) }) (v := ?_) rfl (by kernel_rfl) (by kernel_rfl) (by kernel_rfl) (fun _ _ _ h => h) (Or.inl ⟨by rfl, ?_⟩) (by assumption) ?_
                    rotate_left 1
                    · (intro w hSw; (try dsimp only at hSw); go_simp); all_goals (with_reducible rfl)
                    try simp only [Act.put, List.setIfInBounds_toArray, List.set_cons_zero, List.set_cons_succ]
                    refine wpAnyH_take (i := 33) (oi := { dst := some 141, op := Go.Op.pick (Go.Operand.tmp 118) (Go.Operand.const (Go.Value.bool true)) (Go.Operand.tmp 140), type := 4, pos := "laws.go:1309", after := #[{ on := 10, ground := Go.Ground.data }, { on := 32, ground := Go.Ground.data }], guard := none }) (v := ?_) rfl (by kernel_rfl) (by kernel_rfl) (by kernel_rfl) (fun _ _ _ h => h) (Or.inl ⟨by rfl, ?_⟩) (by assumption) ?_
                    rotate_left 1
                    · (intro w hSw; (try dsimp only at hSw); go_simp); all_goals (with_reducible rfl)
                    try simp only [Act.put, List.setIfInBounds_toArray, List.set_cons_zero, List.set_cons_succ]
                    refine wpAnyH_done (by kernel_rfl) ?_ _
                    have GO : Hid (w7.grownBy u1 (some g3) ∧ Below w.heap.size w u1 ∧ Pr.Row u1 (w.heap.size + 1) (.slice (some ⟨g3, 0, none⟩) X.length c3) DD) := ⟨grown_below GW.out D1.out, BZ.out.trans (D1.out.mono BZ.out.size), RZ.out.on D1.out⟩
                    have fz := (row_st (k := j * 2 + 1) GO.out.2.2 hD).1
                    clear KB
                    go_wp2_with fail
                    go_roundw
                    case rel => exact ⟨j + 1, DD.set j (Pr.c0 DD j, 0), by omega, by go_num, by rw [List.length_set]; exact hD, PUT.out _ GO.out.2.2, FS.out, Pr.grown_setCell GO.out.1 _ _, GO.out.2.1.setCell (p := ⟨g3, j * 2 + 1, none⟩) HG.out _⟩
                    case measure => simp [intOf]; omega
            · have hjn : j = X.length := by omega
              subst hjn
              have HFAR : Hid (∀ i, i < X.length → Pw (cn (Pr.c0 DD i)) ∧ Pr.c1 DD i = 0) := fun i hi => by
                obtain ⟨h0, h1, _⟩ := FZ.out i (by omega)
                rw [h0]
                exact ⟨(HPl.out i (by omega)).1, h1 hi⟩
              clear HEQ1 HEQ2 FZ HPl F0 K8 K6t K7t K3t BT K3 T6' B2 GW ne6 ne7 ne8 lt3
              go_wp2_with fail
              refine (iwaves DD _ wr RZ.out.reads).mono ?_
              rintro e w9 ⟨v9, C9, rfl, T9, R9, b9⟩
              rw [hD, hlg, if_pos rfl] at T9
              have T9' : Hid (Wl.Tells C9 (wf DD (-1) X.length) X.length) := T9
              have l9 : C9.length = X.length := T9.1
              obtain ⟨g9, c9, hv9, hg9⟩ := row_at R9 (by omega)
              rw [l9] at hv9
              subst hv9
              obtain ⟨b10, hb10⟩ : ∃ b, b = wr.heap.size := ⟨_, rfl⟩
              have K9 : Hid (Pr.Row w9 b10 (.slice (some ⟨g9, 0, none⟩) X.length c9) C9) := (by rw [hb10]; exact R9)
              have B9 : Hid (Below w.heap.size w w9) := BZ.out.trans (b9.mono BZ.out.size)
              clear T9 R9 b9 hg9 hb10 RZ BZ
              go_wp2_with fail
              go_loopw [14] (fun i wZ => ∃ j : Nat, j ≤ X.length ∧ i = .int .i64 j ∧ Hid (Below w9.heap.size w9 wZ)) (fun i _ => X.length - (intOf i).toNat)
              case atStart => exact ⟨0, Nat.zero_le _, rfl, Below.refl _ _⟩
              case round => as_aux_lemma =>
                obtain ⟨j, hj, rfl, BL⟩ := hrel
                by_cases hlt : j < X.length
                · have i2 : (j : Int) < (X.length : Int) := by omega
                  obtain ⟨t, ht, hts, htm⟩ : ∃ t : Nat, t < X.length ∧ (j + t = X.length ∨ j + t = 0) ∧ ((X.length : Int) - (j : Int)).tmod (X.length : Int) = (t : Int) := by
                    by_cases e : j = 0
                    · subst e
                      refine ⟨0, by omega, Or.inr rfl, ?_⟩
                      simp
                    · refine ⟨X.length - j, by omega, Or.inl (by omega), ?_⟩
                      rw [Int.tmod_eq_of_lt (by omega) (by omega)]
                      omega
                  have t2 : (t : Int) < (X.length : Int) := by omega
                  have z5 : ¬ X = [] := fun e => by rw [e] at n1; exact absurd n1 (by decide)
                  have z6 : ¬ X.length = 0 := by omega
                  have z7 : (X.length == 0) = false := by simpa using z5
                  have z1 : ((X.length : Int) == 0) = false := by simpa using (by omega : ¬ ((X.length : Int) = 0))
                  have z2 : IntKind.i64.wrap ((X.length : Int) - (j : Int)) = (X.length : Int) - (j : Int) := IntWalk.i64_in _ (by omega)
                  have z3 : wrap64 ((X.length : Int) - (j : Int)) = (X.length : Int) - (j : Int) := (IntWalk.i64_left _).symm.trans z2
                  have z4 : IntKind.i64.wrap (t : Int) = (t : Int) := IntWalk.i64_in _ (by omega)
                  have KB : Hid (∀ w', Below wr.heap.size wr w' → w'.cell? ⟨g9, t * 2, none⟩ = some (.float .f64 (Pr.c0 C9 t)) ∧ w'.cell? ⟨g9, t * 2 + 1, none⟩ = some (.float .f64 (Pr.c1 C9 t)) ∧ w'.cell? ⟨g9, j * 2, none⟩ = some (.float .f64 (Pr.c0 C9 j)) ∧ w'.cell? ⟨g9, j * 2 + 1, none⟩ = some (.float .f64 (Pr.c1 C9 j))) := fun w' hb => by
                    obtain ⟨a0, a1⟩ := row_cs ((K9.out.on BL.out).on hb) t (by omega)
                    obtain ⟨a2, a3⟩ := row_cs ((K9.out.on BL.out).on hb) j (by omega)
                    rw [Nat.zero_add] at a0 a1 a2 a3
                    exact ⟨a0, a1, a2, a3⟩
                  have EQ : Hid (∀ x y, cn x = cn (Pr.c0 C9 j) → cn y = opF .sub 0 (cn (Pr.c1 C9 j)) → (ord (Pr.c0 C9 t) x == some .eq) = true ∧ (ord (Pr.c1 C9 t) y == some .eq) = true) := fun x y hx hy => far_eq X.length hlg HFAR.out T9'.out j t hlt ht hts x y hx hy
                  have BD : Hid (Below wr.heap.size wr wr.drew) := (Below.refl _ _).drew
                  clear hts HFAR T9' K9
                  generalize Pr.c0 C9 t = za at *
                  generalize Pr.c1 C9 t = zb at *
                  generalize Pr.c0 C9 j = zc at *
                  generalize Pr.c1 C9 j = zd at *
                  obtain ⟨r0, r1, r2, r3⟩ := KB.out _ BD.out
                  go_upto_region 35 with fail
                  go_region_held3 (fun w' => w'.cell? ⟨g9, t * 2, none⟩ = some (.float .f64 za) ∧ w'.cell? ⟨g9, t * 2 + 1, none⟩ = some (.float .f64 zb) ∧ w'.cell? ⟨g9, j * 2, none⟩ = some (.float .f64 zc) ∧ w'.cell? ⟨g9, j * 2 + 1, none⟩ = some (.float .f64 zd)) (go_keep)
                    (first
                    | (go_at_call 11; (with_reducible refine (iconj_any zc zd _).mono ?_); rintro e u1 ⟨p1, p2, rfl, hp1, hp2, hb⟩; have D1 : Hid (Below wr.heap.size wr u1) := BD.out.trans (hb.mono BD.out.size); obtain ⟨m0, m1, m2, m3⟩ := KB.out u1 D1.out; have EP : Hid ((ord za p1 == some .eq) = true ∧ (ord zb p2 == some .eq) = true) := EQ.out p1 p2 hp1 hp2; clear hb hp1 hp2)
                    | (go_at_call 10; (with_reducible refine (equal_any za zb p1 p2 EP.out.1 EP.out.2 _).mono ?_); rintro e u2 ⟨rfl, hb⟩; have D2 : Hid (Below wr.heap.size wr u2) := D1.out.trans (hb.mono D1.out.size); obtain ⟨n0, n1, n2, n3⟩ := KB.out u2 D2.out; clear hb))
                  have BE : Hid (Below w9.heap.size w9 u2) := BL.out.trans (D2.out.mono BL.out.size)
                  go_wp2_with fail
                  go_roundw
                  case rel => exact ⟨j + 1, by omega, by go_num, BE⟩
                  case measure => simp [intOf]; omega
                · have BE : Hid (Below w.heap.size w wr) := B9.out.trans (BL.out.mono B9.out.size)
                  go_wp2_with fail
                  go_ret
                  exact ⟨rfl, BE.out⟩
end Go.Proofs.Ytgnnmepjdmcecaa.Flt
