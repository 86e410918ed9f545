/- A tide is 36 hours later as it was; turned by nine hours it has the heights that it has then: the law, walked. -/
import Derived.Test.YtpmgbbhoplicgaaTq
import Derived.Test.YtpmgbbhoplicgaaDs
import Derived.Test.YtpmgbbhoplicgaaSm
namespace Go.Proofs.Ytpmgbbhoplicgaa.Ti
open Go.ChangeShapes Go.WideShapes Go.ChangeAt Go.RowKit
open Flt Wa An Ho
attribute [local go_sem] Flt.run_store_float
set_option maxHeartbeats 400000 in
theorem abs_any (c : Int) (w : World) (h0 : -200 ≤ c) (h1 : c ≤ 200) : Calls Try.prog 9 #[.int .i64 c] w fun e w' => e = .returned (.int .i64 (c.natAbs : Int)) ∧ w' = w := by
  by_cases h : c < 0
  · have e : IntKind.i64.wrap (-c) = (c.natAbs : Int) := by rw [IntWalk.i64_in _ (by omega)]; omega
    go_enter Try.func9, Try.ntmps9
    go_wp2
    go_ret
    exact ⟨rfl, rfl⟩
  · have e : c = (c.natAbs : Int) := by omega
    generalize hk : (c.natAbs : Int) = k at *
    subst e
    go_enter Try.func9, Try.ntmps9
    go_wp2
    go_ret
    exact ⟨rfl, rfl⟩
set_option maxRecDepth 20000 in
set_option maxHeartbeats 4000000 in
theorem tidesLaw (a : Option Addr) (n0 cap : Nat) (w : World) (hc : Rd.Code w a n0 cap) (hn0 : n0 ≤ 1048576) : Calls Try.prog 3 #[.slice a n0 cap] w fun e w' => e = .returned (.bool true) ∧ Below w.heap.size w w' := by
  have DR : Hid (Calls Try.prog 5 #[.slice a n0 cap] w fun e w' => ∃ v L x, e = .returned (.tuple #[v, .int .i64 x]) ∧ Co.Reads w' v L ∧ Dr.Bd L ∧ Below w.heap.size w w') := Dr.draw_any a n0 cap w hc hn0
  clear hc
  go_enter Try.func3, Try.ntmps3
  go_wp2_with fail
  refine (Rd.big_no a n0 cap w hn0).mono ?_
  rintro e w0 ⟨rfl, hw⟩
  have hw' := hw.symm
  subst hw'
  go_wp2_with fail
  refine DR.out.mono ?_
  rintro e w1 ⟨v, L, x, rfl, r1, bl, b1⟩
  have B1 : Hid (Below w.heap.size w w1) := b1
  have BL : Hid (Dr.Bd L) := bl
  have R1 : Hid (Co.Reads w1 v L) := r1
  have RV : Hid (∀ w', Below w1.heap.size w1 w' → Co.Reads w' v L) := fun w' hb => r1.on hb
  have hfit := r1.fits
  obtain ⟨sa, sc, hv⟩ := r1.form
  have hcell : ∃ bb o, (∀ w', Below w1.heap.size w1 w' → ∀ i, i < L.length → Co.Cs w' bb o L i) ∧ (0 < L.length → bb < w1.heap.size ∧ ∃ cap, v = .slice (some ⟨bb, o, none⟩) L.length cap) := by
    rcases r1 with ⟨rfl, _⟩ | ⟨bb, o, cap, h1, h2, h3, h4, h5⟩
    · exact ⟨0, 0, fun _ _ i hi => by simp at hi, fun hi => by simp at hi⟩
    · exact ⟨bb, o, fun w' hb i hi => (h5 i hi).below hb h4, fun _ => ⟨h4, cap, h1⟩⟩
  obtain ⟨bb, o, hcc, hvv⟩ := hcell
  have HC : Hid (∀ w', Below w1.heap.size w1 w' → ∀ i, i < L.length → Co.Cs w' bb o L i) := hcc
  clear r1 bl b1 hcc DR
  subst hv
  have HB : Hid (0 < L.length → bb < w1.heap.size ∧ sa = some ⟨bb, o, none⟩) := fun hi => by
    obtain ⟨h1, c, h2⟩ := hvv hi
    simp at h2
    exact ⟨h1, h2.1⟩
  clear hvv
  have HS : Hid (∀ w', Below w1.heap.size w1 w' → Calls Try.prog 6 #[.slice sa L.length sc, .int .i64 x] w' fun e w'' => ∃ z, e = .returned (.float .f64 z) ∧ cn z = H0 L x ∧ Below w'.heap.size w' w'') := fun w' hb => shei_any L x _ w' (RV.out w' hb)
  have HI : Hid (∀ (y : Int) w', Below w1.heap.size w1 w' → Calls Try.prog 8 #[.slice sa L.length sc, .int .i64 y] w' fun e w'' => ∃ z, e = .returned (.float .f64 z) ∧ cn z = H0 L y ∧ Below w'.heap.size w' w'') := fun y w' hb => ihei_any L y _ w' (RV.out w' hb)
  have HR : Hid (∀ w', Below w1.heap.size w1 w' → okP L = true → Calls Try.prog 10 #[.slice sa L.length sc, .int .i64 9] w' fun e w'' => ∃ v' C, e = .returned v' ∧ Rl.Tells C (Ro.rf L 9) L.length ∧ Co.Row w'' w'.heap.size v' C ∧ Below w'.heap.size w' w'') := fun w' hb ho => Ro.iro_yes L 9 _ w' (RV.out w' hb) ho (by decide)
  obtain ⟨n, hn⟩ : ∃ n, n = L.length := ⟨_, rfl⟩
  have HN : Hid (n = L.length) := hn
  rw [← hn] at HS HI HR HB HC hfit ⊢
  clear RV R1 hn
  go_wp2_with fail
  refine (HS.out w1 (Below.refl _ _)).mono ?_
  rintro e w2 ⟨h, rfl, eh, b2⟩
  have EH : Hid (cn h = H0 L x) := eh
  have B2 : Hid (Below w1.heap.size w1 w2) := b2
  clear b2 eh
  go_wp2_with fail
  refine (HI.out x w2 B2.out).mono ?_
  rintro e w3 ⟨g, rfl, eg, b3⟩
  have B3 : Hid (Below w1.heap.size w1 w3) := B2.out.trans (b3.mono B2.out.size)
  have SM : Hid (∀ w, Calls Try.prog 7 #[.float .f64 g, .float .f64 h] w fun e w' => e = .returned (.bool true) ∧ w' = w) := fun w => sameT g h (eg.trans EH.out.symm) w
  clear b3 eg
  go_wp2_with fail
  refine (SM.out _).mono ?_
  rintro e w3' ⟨rfl, hw⟩
  have hw' := hw.symm
  subst hw'
  have FIN : Hid (∀ w', Below w1.heap.size w1 w' → Below w.heap.size w w') := fun w' hb => B1.out.trans (hb.mono B1.out.size)
  by_cases x1 : x < -900000
  · go_wp2_with fail
    go_ret
    exact ⟨rfl, FIN.out _ B3.out⟩
  by_cases x2 : 900000 < x
  · go_wp2_with fail
    go_ret
    exact ⟨rfl, FIN.out _ B3.out⟩
  by_cases x3 : (40 : Int) < (n : Int)
  · go_wp2_with fail
    go_ret
    exact ⟨rfl, FIN.out _ B3.out⟩
  have e36 : IntKind.i64.wrap (x + 36) = x + 36 := IntWalk.i64_in _ (by omega)
  have E36 : Hid (H0 L (x + 36) = H0 L x) := H36 L x (by simp [inn]; omega) (by simp [inn]; omega)
  go_wp2_with fail
  refine (HI.out (x + 36) w3 B3.out).mono ?_
  rintro e w4 ⟨g2, rfl, eg, b4⟩
  have B4 : Hid (Below w1.heap.size w1 w4) := B3.out.trans (b4.mono B3.out.size)
  have SM2 : Hid (∀ w, Calls Try.prog 7 #[.float .f64 g2, .float .f64 h] w fun e w' => e = .returned (.bool true) ∧ w' = w) := fun w => sameT g2 h (eg.trans (E36.out.trans EH.out.symm)) w
  clear b4 eg
  go_wp2_with fail
  refine (SM2.out _).mono ?_
  rintro e w4' ⟨rfl, hw⟩
  have hw' := hw.symm
  subst hw'
  clear SM SM2 E36 e36 HS B2 B3
  go_wp2_with fail
  go_loopw [6] (fun i wr => ∃ k : Nat, k ≤ n ∧ i = .int .i64 k ∧ Hid (∀ j, j < k → (Lo (Co.c1 L j) ∧ Lo (Co.c2 L j)) ∧ inn (Co.c0 L j) (-100) 100 = true) ∧ Hid (Below w1.heap.size w1 wr)) (fun i _ => n - (intOf i).toNat)
  case atStart => exact ⟨0, Nat.zero_le _, rfl, fun j hj => absurd hj (Nat.not_lt_zero _), B4⟩
  case round =>
    obtain ⟨k, hk, rfl, HA, BB⟩ := hrel
    by_cases hlt : k < n
    · obtain ⟨hb0, hx⟩ := HB.out (by omega)
      subst hx
      obtain ⟨q0, q1, q2⟩ := HC.out wr BB.out k hlt
      have i1 : (0 : Int) ≤ (k : Int) := by omega
      have i2 : (k : Int) < (n : Int) := by omega
      have BK := BL.out.at (i := k) (by rw [← HN.out]; exact hlt)
      have LO : Hid (∀ y, (ord y 6103021453049119613 == some .lt) = true → (ord y 15326393489903895421 == some .gt) = true → Lo y) := fun y h1 h2 => lo_of h1 h2
      have NX : Hid (Lo (Co.c1 L k) → Lo (Co.c2 L k) → inn (Co.c0 L k) (-100) 100 = true → ∀ j, j < k + 1 → (Lo (Co.c1 L j) ∧ Lo (Co.c2 L j)) ∧ inn (Co.c0 L j) (-100) 100 = true) := fun h1 h2 h3 j hj => by
        rcases Nat.lt_succ_iff_lt_or_eq.1 hj with z | z
        · exact HA.out j z
        · subst z; exact ⟨⟨h1, h2⟩, h3⟩
      generalize hy0 : Co.c0 L k = y0 at *
      generalize hy1 : Co.c1 L k = y1 at *
      generalize hy2 : Co.c2 L k = y2 at *
      clear hy0 hy1 hy2
      have AB : Hid (∀ w, Calls Try.prog 9 #[.int .i64 y0] w fun e w' => e = .returned (.int .i64 (y0.natAbs : Int)) ∧ w' = w) := fun w => abs_any y0 w BK.1 BK.2
      obtain ⟨wy, hwy⟩ : ∃ wy, wy = wr.alloc (.cells #[.float .f64 y1, .float .f64 y2] 31) := ⟨_, rfl⟩
      have HY : Hid (wy = wr.alloc (.cells #[.float .f64 y1, .float .f64 y2] 31)) := hwy
      have BY : Hid (Below w1.heap.size w1 wy) := (by show Below _ _ _; rw [hwy]; exact BB.out.alloc BB.out.size _)
      have KY : Hid (wy.cell? ⟨wr.heap.size, 0, none⟩ = some (.float .f64 y1) ∧ wy.cell? ⟨wr.heap.size, 1, none⟩ = some (.float .f64 y2)) := (by show _ ∧ _; rw [hwy]; simp [go_sem])
      have Q0 : wy.cell? ⟨bb, o + k * 3, none⟩ = some (.int .i64 y0) := by
        have zz := BB.out.size
        rw [hwy]; exact (Below.cell ((Below.refl wr.heap.size wr).alloc (Nat.le_refl _) _) (p := ⟨bb, o + k * 3, none⟩) (by show bb < _; omega)).trans q0
      clear hwy
      go_upto_region 15 with fail
      rw [← HY.out]
      clear HY q0 q1 q2
      obtain ⟨g0, g1⟩ := KY.out
      generalize wr.heap.size = gb at *
      cases f1 : (ord y1 6103021453049119613 == some .lt)
      · go_wp2_with fail
        go_ret
        exact ⟨rfl, FIN.out _ BY.out⟩
      cases f2 : (ord y1 15326393489903895421 == some .gt)
      · go_wp2_with fail
        go_ret
        exact ⟨rfl, FIN.out _ BY.out⟩
      cases f3 : (ord y2 6103021453049119613 == some .lt)
      · go_wp2_with fail
        go_ret
        exact ⟨rfl, FIN.out _ BY.out⟩
      cases f4 : (ord y2 15326393489903895421 == some .gt)
      · go_wp2_with fail
        go_ret
        exact ⟨rfl, FIN.out _ BY.out⟩
      have L1 : Hid (Lo y1) := LO.out y1 f1 f2
      have L2 : Hid (Lo y2) := LO.out y2 f3 f4
      go_wp2_with fail
      refine (AB.out _).mono ?_
      rintro e wy' ⟨rfl, hw⟩
      have hw' := hw.symm
      subst hw'
      clear f1 f2 f3 f4 LO
      by_cases hab : (100 : Int) < (y0.natAbs : Int)
      · go_wp2_with fail
        go_ret
        exact ⟨rfl, FIN.out _ BY.out⟩
      · have NN : Hid (∀ j, j < k + 1 → (Lo (Co.c1 L j) ∧ Lo (Co.c2 L j)) ∧ inn (Co.c0 L j) (-100) 100 = true) := NX.out L1.out L2.out (by simp [inn]; omega)
        clear NX
        go_wp2_with fail
        go_roundw
        case rel => exact ⟨k + 1, by omega, by go_num, NN, BY⟩
        case measure => simp [intOf]; omega
    · have e : k = n := by omega
      subst e
      have OK : okP L = true := (okP_iff L).2 ⟨by rw [← HN.out]; omega, fun i hi => (HA.out i (by rw [HN.out]; exact hi)).2⟩
      have LL : Hid (∀ i, i < L.length → Lo (Co.c1 L i) ∧ Lo (Co.c2 L i)) := fun i hi => (HA.out i (by rw [HN.out]; exact hi)).1
      have OKH : Hid (okP L = true) := OK
      clear OK HA
      have e9 : IntKind.i64.wrap (x + 9) = x + 9 := IntWalk.i64_in _ (by omega)
      go_wp2_with fail
      refine (HR.out _ BB.out OKH.out).mono ?_
      rintro e w5 ⟨v', C, rfl, tl, rw5, b5⟩
      have B5 : Hid (Below w1.heap.size w1 w5) := BB.out.trans (b5.mono BB.out.size)
      have R5 : Hid (Co.Reads w5 v' C) := rw5.reads
      have TL : Hid (Rl.Tells C (Ro.rf L 9) L.length) := (by rw [HN.out] at tl; exact tl)
      obtain ⟨va, vc, hv'⟩ := rw5.form
      have el : C.length = k := tl.1
      rw [el] at hv'
      subst hv'
      clear b5 rw5 tl el
      have HI2 : Hid (∀ w', Below w5.heap.size w5 w' → Calls Try.prog 8 #[.slice va k vc, .int .i64 x] w' fun e w'' => ∃ z, e = .returned (.float .f64 z) ∧ cn z = H0 C x ∧ Below w'.heap.size w' w'') := fun w' hb => ihei_any C x _ w' (R5.out.on hb)
      go_wp2_with fail
      refine (HI2.out _ (Below.refl _ _)).mono ?_
      rintro e w6 ⟨p, rfl, ep, b6⟩
      have B6 : Hid (Below w1.heap.size w1 w6) := B5.out.trans (b6.mono B5.out.size)
      have EP : Hid (cn p = H0 C x) := ep
      clear b6 ep
      go_wp2_with fail
      refine (HI.out (x + 9) _ B6.out).mono ?_
      rintro e w7 ⟨q, rfl, eq, b7⟩
      have B7 : Hid (Below w1.heap.size w1 w7) := B6.out.trans (b7.mono B6.out.size)
      have EQ : (ord p q == some .eq) = true := equal9 L C x p q TL.out OKH.out LL.out (by simp [inn]; omega) (by simp [inn]; omega) EP.out eq
      clear b7 eq
      go_wp2_with fail
      go_ret
      exact ⟨rfl, FIN.out _ B7.out⟩
set_option maxHeartbeats 400000 in
theorem tidesAll (a : Option Addr) (n0 cap : Nat) (w : World) (hc : Rd.Code w a n0 cap) (hn : n0 < 9223372036854775808) : Calls Try.prog 3 #[.slice a n0 cap] w fun e w' => e = .returned (.bool true) ∧ Below w.heap.size w w' := by
  by_cases h : n0 ≤ 1048576
  · exact tidesLaw a n0 cap w hc h
  · go_enter Try.func3, Try.ntmps3
    go_wp2_with fail
    refine (Rd.big_yes a n0 cap w (by omega) hn).mono ?_
    rintro e w0 ⟨rfl, hw⟩
    have hw' := hw.symm
    subst hw'
    go_wp2_with fail
    go_ret
    exact ⟨rfl, Below.refl _ _⟩
end Go.Proofs.Ytpmgbbhoplicgaa.Ti
