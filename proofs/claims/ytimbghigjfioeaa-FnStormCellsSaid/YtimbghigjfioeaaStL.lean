/- FnStormCells: the law. -/
import Derived.Test.YtimbghigjfioeaaStQ
import Derived.Test.YtimbghigjfioeaaDrD
namespace Go.Proofs.Ytimbghigjfioeaa.Cl
open Go.ChangeShapes Go.WideShapes Go.ChangeAt Go.RowKit
open Go.Proofs.Ytimbghigjfioeaa.Lists

set_option maxHeartbeats 1000000 in
theorem icells_no (r c : Int) (L : List Int) (lv : Int) (v : Value) (w : World) (hL : Lists.Reads w v L) (fL : L.length < 9223372036854775808) (h1 : Bx.okB r c L = false) :
    Calls Try.prog 6 #[Bx.sv r c v, .int .i64 lv] w fun e w' => ∃ u, e = .returned u ∧ w'.ownsRow w.heap.size 2 1 u 0 [] ∧ Below w.heap.size w w' := by
  have S1 : Hid (∀ w', Below w.heap.size w w' → Calls Try.prog 10 #[Bx.sv r c v] w' fun e w'' => e = .returned (.bool false) ∧ Below w'.heap.size w' w'') := fun w' hb => by have := Bx.iok_any r c L v w' (hL.on hb) fL; rwa [h1] at this
  obtain ⟨w0, hw0⟩ : ∃ w0, w0 = w.alloc (Obj.cells #[.int .i64 r, .int .i64 c, v] 26) := ⟨_, rfl⟩
  have HW0 : Hid (w0 = w.alloc (Obj.cells #[.int .i64 r, .int .i64 c, v] 26)) := hw0
  have B0 : Hid (Below w.heap.size w w0) := (by show Below _ _ _; rw [hw0]; exact (Below.refl _ _).alloc (Nat.le_refl _) _)
  clear hL fL h1 hw0
  go_enter Try.func6, Try.ntmps6
  go_wp2_with fail
  rw [← HW0.out]
  refine (S1.out _ B0.out).mono ?_
  rintro e w1 ⟨rfl, b1⟩
  have B1 : Hid (Below w.heap.size w w1) := B0.out.trans (b1.mono B0.out.size)
  clear b1 HW0 B0
  go_wp2_with fail
  go_ret
  exact ⟨_, rfl, ⟨rfl, .inl ⟨rfl, rfl⟩⟩, B1.out⟩


set_option maxRecDepth 40000 in
set_option maxHeartbeats 2000000 in
theorem sLaw (a : Option Addr) (n cap : Nat) (w : World) (h : Rd.Code w a n cap) (hn : n < 9223372036854775808) : Calls Try.prog 3 #[.slice a n cap] w fun e w' => e = .returned (.bool true) ∧ Below w.heap.size w w' := by
  by_cases hb : 1048576 < n
  · have C : Hid (Calls Try.prog 4 #[.slice a n cap] w fun e w' => e = .returned (.bool true) ∧ w' = w) := Rd.big_yes a n cap w hb hn
    clear h hn hb
    go_enter Try.func3, Try.ntmps3
    go_wp2_with fail
    refine Calls.mono C.out ?_
    rintro e w1 ⟨rfl, hw⟩
    have hw' := hw.symm
    subst hw'
    go_wp2_with fail
    go_ret
    exact ⟨rfl, Below.refl _ _⟩
  · have C : Hid (Calls Try.prog 4 #[.slice a n cap] w fun e w' => e = .returned (.bool false) ∧ w' = w) := Rd.big_no a n cap w (by omega)
    have DC : Hid (Calls Try.prog 5 #[.slice a n cap] w fun e w' => (∃ (x y lv : Int) (v : Value) (L : List Int), e = .returned (.tuple #[Bx.sv x y v, .int .i64 lv]) ∧ L.length ≤ 90 ∧ Lists.Reads w' v L) ∧ Below w.heap.size w w') := Dr.cells_any a n cap w h (by omega)
    clear h hn hb
    go_enter Try.func3, Try.ntmps3
    go_wp2_with fail
    refine Calls.mono C.out ?_
    rintro e w1 ⟨rfl, hw⟩
    have hw' := hw.symm
    subst hw'
    clear C
    go_wp2_with fail
    refine Calls.mono DC.out ?_
    rintro e w2 ⟨⟨r, c, lv, v, L, rfl, l9, hL⟩, b2⟩
    clear DC
    obtain ⟨sa, sc, hv⟩ := hL.form
    obtain ⟨V, hV⟩ : ∃ V, V = Value.slice sa L.length sc := ⟨_, rfl⟩
    subst hv
    go_upto_region 4 with fail
    rw [← hV]
    rw [← hV] at hL
    obtain ⟨w3, hw3⟩ : ∃ w3, w3 = w2.alloc (Obj.cells #[.int .i64 r, .int .i64 c, V] 26) := ⟨_, rfl⟩
    have hba : Below w2.heap.size w2 w3 := by rw [hw3]; exact (Below.refl _ _).alloc (Nat.le_refl _) _
    have X3 : Hid (Bo.Box w3 w2.heap.size (.int .i64 r) (.int .i64 c) V) := (by show Bo.Box _ _ _ _ _; rw [hw3]; unfold Bo.Box; simp [go_sem])
    have z3 : Hid (w2.heap.size < w3.heap.size) := (by show _ < _; rw [hw3]; simp)
    have L3 : Hid (Lists.Reads w3 V L) := hL.on hba
    have B3 : Hid (Below w.heap.size w w3) := b2.trans (hba.mono b2.size)
    have fL : L.length < 9223372036854775808 := by omega
    rw [← hw3]
    obtain ⟨B, hB⟩ : ∃ B, w2.heap.size = B := ⟨_, rfl⟩
    rw [hB] at X3 z3 ⊢
    clear hw3 hba hL b2 hB hV
    cases hk : Bx.okB r c L
    · have C6 : Hid (Calls Try.prog 6 #[Bx.sv r c V, .int .i64 lv] w3 fun e w' => ∃ u, e = .returned u ∧ w'.ownsRow w3.heap.size 2 1 u 0 [] ∧ Below w3.heap.size w3 w') := icells_no r c L lv V w3 L3.out fL hk
      have C7 : Hid (∀ w', Below w3.heap.size w3 w' → Calls Try.prog 7 #[Bx.sv r c V] w' fun e w'' => e = .returned (.bool false) ∧ Below w'.heap.size w' w'') := fun w' hb => by have := Bx.sok_any r c L V w' (L3.out.on hb) fL; rwa [hk] at this
      obtain ⟨g0, g1, g2⟩ := id X3.out
      clear fL hk l9
      go_wp2_with fail
      refine Calls.mono C6.out ?_
      rintro e w4 ⟨u, rfl, r4, b4⟩
      obtain ⟨ua, uc, hu⟩ := Gd.row_form r4
      subst hu
      have B4 : Hid (Below w3.heap.size w3 w4) := b4
      clear g0 g1 g2 C6 r4 b4
      obtain ⟨g0, g1, g2⟩ := X3.out.on B4.out z3.out
      go_wp2_with fail
      refine (C7.out _ B4.out).mono ?_
      rintro e w5 ⟨rfl, b5⟩
      have B5 : Hid (Below w.heap.size w w5) := (B3.out.trans (B4.out.mono B3.out.size)).trans (b5.mono (Nat.le_trans B3.out.size B4.out.size))
      clear g0 g1 g2 b5
      go_wp2_with fail
      go_ret
      exact ⟨rfl, B5.out⟩
    · obtain ⟨hr, hc, hnn⟩ := Mv.size_of hk
      have n0 := Bx.mul_le hr hc
      have C6 : Hid (Calls Try.prog 6 #[Bx.sv r c V, .int .i64 lv] w3 fun e w' => ∃ u m A, Run (nbs r c) (hi L lv) L.length (zeros L.length) m A ∧ e = .returned u ∧ w'.ownsRow w3.heap.size 2 1 u A.length (ints A) ∧ Below w3.heap.size w3 w') := icells_yes r c L lv V w3 L3.out fL hk
      have C7 : Hid (∀ w', Below w3.heap.size w3 w' → Calls Try.prog 7 #[Bx.sv r c V] w' fun e w'' => e = .returned (.bool true) ∧ Below w'.heap.size w' w'') := fun w' hb => by have := Bx.sok_any r c L V w' (L3.out.on hb) fL; rwa [hk] at this
      have C8 : Hid (∀ w', Below w3.heap.size w3 w' → Calls Try.prog 8 #[Bx.sv r c V, .int .i64 lv, Bx.sv r c V] w' fun e w'' => e = .returned (.tuple #[.int .i64 0, .int .i64 0, .bool true]) ∧ Below w'.heap.size w' w'') := fun w' hb => by
        refine (Mv.imoved_yes r c L lv L V V w' (L3.out.on hb) (L3.out.on hb) fL fL hk hk).mono ?_
        rintro e w'' ⟨x, y, hbest, rfl, bb⟩
        obtain ⟨rfl, rfl⟩ := Mv.best_self hbest
        exact ⟨rfl, bb⟩
      obtain ⟨N, hN⟩ : ∃ N, L.length = N := ⟨_, rfl⟩
      rw [hN] at hnn
      have n5 : N ≤ 576 := by omega
      have n1 : 1 ≤ N := by omega
      have PR : Hid (∀ m A, Run (nbs r c) (hi L lv) L.length (zeros L.length) m A → RI (nbs r c) (hi L lv) N N m A ∧ m ≤ N) := fun m A hR => by
        rw [hN] at hR
        exact ⟨ri_run (zeros_len N) (fun x => zeros_get N x) (fun x _ y hy => nbs_in hc.1 hnn hy) (fun x hx y hy => nbs_symm hc.1 hnn x hx y hy) (Nat.le_refl _) hR, (run_in hR).2.2.1⟩
      obtain ⟨b0, o0, hcell, hvv⟩ := Bx.reads_at L3.out
      obtain ⟨hb0, cap0, hVe⟩ := hvv (by omega)
      rw [hN] at hVe hcell
      have HC : Hid (∀ i, i < N → w3.cell? ⟨b0, o0 + i, none⟩ = some (.int .i64 (L.getD i 0))) := hcell
      have HV : Hid (V = .slice (some ⟨b0, o0, none⟩) N cap0) := hVe
      have HB : Hid (b0 < w3.heap.size) := hb0
      have LE : Hid (∀ k, k < N → 0 < (k : Int) % c → (k - 1) ∈ nbs r c k ∧ 1 ≤ k) := fun k hk h => nbs_left hc.1 hnn hk h
      have OV : Hid (∀ k, k < N → c ≤ (k : Int) → (k - c.toNat) ∈ nbs r c k) := fun k hk h => nbs_over hc.1 hnn hk h
      obtain ⟨c1, c2⟩ := hc
      have rc : r * c = (N : Int) := hnn.symm
      have wn : wrap64 (N : Int) = (N : Int) := IntWalk.wrap64_in _ (by omega)
      obtain ⟨g0, g1, g2⟩ := id X3.out
      clear fL hk l9 hcell hvv hb0 hVe hr n0 hnn hN
      go_wp2_with fail
      refine Calls.mono C6.out ?_
      rintro e w4 ⟨u, m, A, hR, rfl, r4, b4⟩
      obtain ⟨ri, hm⟩ := PR.out m A hR
      rw [ri.len] at r4
      obtain ⟨g, cp, hu, hg1, hg2⟩ : ∃ g cp, u = .slice (some ⟨g, 0, none⟩) N cp ∧ w3.heap.size ≤ g ∧ g < w4.heap.size := by
        have R' : w4.ownsRow w3.heap.size 2 1 u A.length (ints A) := by rw [ri.len]; exact r4
        rcases row_cases R' with ⟨h, _⟩ | ⟨g, cap, h1, h2, h3, _⟩
        · have := ri.len; rw [h] at this; simp at this; omega
        · rw [ri.len] at h1; exact ⟨g, cap, h1, h2, h3⟩
      subst hu
      have B4 : Hid (Below w3.heap.size w3 w4) := b4
      have R4 : Hid (w4.ownsRow w3.heap.size 2 1 (.slice (some ⟨g, 0, none⟩) N cp) N (ints A)) := r4
      have RR : Hid (RI (nbs r c) (hi L lv) N N m A) := ri
      have HM : Hid (m ≤ N) := hm
      clear g0 g1 g2 C6 r4 b4 ri hm hR PR
      obtain ⟨g0, g1, g2⟩ := X3.out.on B4.out z3.out
      go_wp2_with fail
      refine (C7.out _ B4.out).mono ?_
      rintro e w5 ⟨rfl, b5⟩
      have B5 : Hid (Below w.heap.size w w5) := (B3.out.trans (B4.out.mono B3.out.size)).trans (b5.mono (Nat.le_trans B3.out.size B4.out.size))
      have D5 : Hid (Below w3.heap.size w3 w5) := B4.out.trans (b5.mono B4.out.size)
      have X5 : Hid (Bo.Box w5 B (.int .i64 r) (.int .i64 c) V) := X3.out.on D5.out z3.out
      have A5 : Hid (∀ i, i < N → w5.cell? ⟨g, i, none⟩ = some (.int .i64 (A.getD i 0))) := fun i hi => (b5.cell (p := ⟨g, i, none⟩) hg2).trans (row_get R4.out RR.out.len i hi)
      have L5 : Hid (∀ i, i < N → w5.cell? ⟨b0, o0 + i, none⟩ = some (.int .i64 (L.getD i 0))) := fun i hi => (D5.out.cell (p := ⟨b0, o0 + i, none⟩) HB.out).trans (HC.out i hi)
      clear g0 g1 g2 b5 B4 R4 hg1 hg2 C7 HC HB X3 z3
      obtain ⟨g0, g1, g2⟩ := id X5.out
      have wnb : ((N : Int) != (N : Int)) = false := by simp
      go_wp2_with fail
      clear g0 g1 g2 rc wn wnb
      go_loopw [6, 7] (fun mo i wr => ∃ k q : Nat, k ≤ N ∧ mo = .int .i64 (mx A k) ∧ i = .int .i64 k ∧ wr = w5.drewN q) (fun _ i _ => N - (intOf i).toNat)
      case atStart => exact ⟨0, 0, Nat.zero_le _, rfl, rfl, rfl⟩
      case round =>
        obtain ⟨k, q, hk, rfl, rfl, rfl⟩ := hrel
        obtain ⟨g0, g1, g2⟩ := id X5.out
        rw [HV.out] at g2
        by_cases hlt : k < N
        · have q0 := A5.out k hlt
          have q1 := L5.out k hlt
          have up := RR.out.up k hlt
          have ne := ri_next RR.out hlt
          have hg := ri_high RR.out hlt
          have m0 := mx_ge A k
          have m1 : mx A k ≤ 576 := by have := mx_le (A := A) (m := m) RR.out.nn (k := k) (fun x hx => (RR.out.up x (by omega)).2); have := HM.out; omega
          have MX : Hid (mx A (k + 1) = max (mx A k) (A.getD k 0)) := rfl
          have i1 : (0 : Int) ≤ (k : Int) := Int.natCast_nonneg k
          have i2 : (k : Int) < (N : Int) := Int.ofNat_lt.2 hlt
          have NB : Hid (∀ y, y ∈ nbs r c k → y < N → A.getD k 0 ≠ 0 → A.getD y 0 ≠ 0 → A.getD y 0 = A.getD k 0) := fun y hy hy' h1 h2 => RR.out.cl k hlt h1 y hy (RR.out.hg y hy' h2)
          have HG : Hid (decide (0 < A.getD k 0) = decide (lv ≤ L.getD k 0)) := hg
          obtain ⟨z, hz⟩ : ∃ z, A.getD k 0 = z := ⟨_, rfl⟩
          obtain ⟨mo, hmo⟩ : ∃ mo, mx A k = mo := ⟨_, rfl⟩
          rw [hz] at q0 up ne MX NB HG
          rw [hmo] at ne m0 m1 MX ⊢
          clear hz hmo hg
          generalize L.getD k 0 = lz at *
          obtain ⟨up1, up2⟩ := up
          have zn : ¬ z < 0 := by omega
          have zm : ¬ mo + 1 < z := by omega
          go_upto_region 13 with fail
          go_cut [69] from 35 to 142 (fun x wx => x = .bool false ∧ ∃ q' : Nat, wx = w5.drewN q')
          case first =>
            by_cases hv : lv ≤ lz
            · have zp : 0 < z := of_decide_eq_true (by rw [HG.out]; exact decide_eq_true hv)
              go_quiet (fail)
              go_wp2_with fail
              go_meet
              exact ⟨rfl, q + nq, rfl⟩
            · have zp : ¬ 0 < z := of_decide_eq_false (by rw [HG.out]; exact decide_eq_false hv)
              go_quiet (fail)
              go_wp2_with fail
              go_meet
              exact ⟨rfl, q + nq, rfl⟩
          case rest =>
            obtain ⟨rfl, q', rfl⟩ := hcut
            clear q1 HG zn zm
            have tm : (k : Int).tmod c = (k : Int) % c := Int.tmod_eq_emod_of_nonneg i1
            have cz : ¬ c = 0 := by omega
            have LF : Hid (0 < (k : Int) % c → ∃ j : Nat, (k : Int) - 1 = (j : Int) ∧ j < N ∧ ∃ z1, w5.cell? ⟨g, j, none⟩ = some (.int .i64 z1) ∧ (z ≠ 0 → z1 ≠ 0 → z1 = z)) := fun hp => (by
              obtain ⟨mem, k1⟩ := LE.out k hlt hp
              exact ⟨k - 1, by omega, by omega, _, A5.out (k - 1) (by omega), fun h1 h2 => NB.out (k - 1) mem (by omega) h1 h2⟩)
            have OF : Hid (c ≤ (k : Int) → ∃ j : Nat, (k : Int) - c = (j : Int) ∧ j < N ∧ ∃ z1, w5.cell? ⟨g, j, none⟩ = some (.int .i64 z1) ∧ (z ≠ 0 → z1 ≠ 0 → z1 = z)) := fun hp => (by
              have mem := OV.out k hlt hp
              exact ⟨k - c.toNat, by omega, by omega, _, A5.out (k - c.toNat) (by omega), fun h1 h2 => NB.out (k - c.toNat) mem (by omega) h1 h2⟩)
            generalize (k : Int) % c = rho at *
            go_upto_region 15 with fail
            go_cut [6] from 35 to 142 (fun x wx => x = .int .i64 (mx A (k + 1)) ∧ wx = w5.drewN q')
            case first =>
              by_cases hmz : z ≤ mo
              · have mz : max mo z = mo := by omega
                have E : Hid (mx A (k + 1) = mo) := MX.out.trans mz
                go_wp2_with fail
                go_meet
                exact ⟨by rw [E.out], rfl⟩
              · have mz : max mo z = z := by omega
                have E : Hid (mx A (k + 1) = z) := MX.out.trans mz
                go_wp2_with fail
                go_meet
                exact ⟨by rw [E.out], rfl⟩
            case rest =>
              obtain ⟨rfl, rfl⟩ := hcut
              have MM : Hid (∃ M', M' = mx A (k + 1)) := ⟨_, rfl⟩
              obtain ⟨M', hM'⟩ := MM.out
              have EM : Hid (M' = mx A (k + 1)) := hM'
              rw [← hM']
              clear hM' MM MX ne m0 m1
              go_upto_region 16 with fail
              go_cut [107] from 35 to 142 (fun x wx => x = .bool false ∧ ∃ q'' : Nat, wx = w5.drewN q'')
              case first =>
                by_cases hp : 0 < rho
                · obtain ⟨j, ej, jN, z1, qj, he⟩ := LF.out hp
                  have j1 : (0 : Int) ≤ (j : Int) := Int.natCast_nonneg j
                  have j2 : (j : Int) < (N : Int) := Int.ofNat_lt.2 jN
                  have wj : wrap64 (j : Int) = (j : Int) := IntWalk.wrap64_in _ (by omega)
                  have wj2 : IntKind.i64.wrap (j : Int) = (j : Int) := IntWalk.i64_in _ (by omega)
                  by_cases hz : 0 < z
                  · by_cases hz1 : 0 < z1
                    · have e := he (by omega) (by omega)
                      subst e
                      have nn : (z1 != z1) = false := by simp
                      clear he
                      go_quiet (fail)
                      go_wp2_with fail
                      go_meet
                      exact ⟨rfl, q' + nq, by first | rfl | simp⟩
                    · clear he
                      go_quiet (fail)
                      go_wp2_with fail
                      go_meet
                      exact ⟨rfl, q' + nq, by first | rfl | simp⟩
                  · clear he
                    go_quiet (fail)
                    go_wp2_with fail
                    go_meet
                    exact ⟨rfl, q' + nq, by first | rfl | simp⟩
                · go_quiet (fail)
                  go_wp2_with fail
                  go_meet
                  exact ⟨rfl, q' + nq, by first | rfl | simp⟩
              case rest =>
                obtain ⟨rfl, q2, rfl⟩ := hcut
                clear LF tm
                go_upto_region 18 with fail
                go_cut [142] from 35 to 142 (fun x wx => x = .bool false ∧ ∃ q'' : Nat, wx = w5.drewN q'')
                case first =>
                  by_cases hp : c ≤ (k : Int)
                  · obtain ⟨j, ej, jN, z1, qj, he⟩ := OF.out hp
                    have j1 : (0 : Int) ≤ (j : Int) := Int.natCast_nonneg j
                    have j2 : (j : Int) < (N : Int) := Int.ofNat_lt.2 jN
                    have wj : wrap64 (j : Int) = (j : Int) := IntWalk.wrap64_in _ (by omega)
                    have wj2 : IntKind.i64.wrap (j : Int) = (j : Int) := IntWalk.i64_in _ (by omega)
                    by_cases hz : 0 < z
                    · by_cases hz1 : 0 < z1
                      · have e := he (by omega) (by omega)
                        subst e
                        have nn : (z1 != z1) = false := by simp
                        clear he
                        go_quiet (fail)
                        go_wp2_with fail
                        go_meet
                        exact ⟨rfl, q2 + nq, by first | rfl | simp⟩
                      · clear he
                        go_quiet (fail)
                        go_wp2_with fail
                        go_meet
                        exact ⟨rfl, q2 + nq, by first | rfl | simp⟩
                    · clear he
                      go_quiet (fail)
                      go_wp2_with fail
                      go_meet
                      exact ⟨rfl, q2 + nq, by first | rfl | simp⟩
                  · go_quiet (fail)
                    go_wp2_with fail
                    go_meet
                    exact ⟨rfl, q2 + nq, by first | rfl | simp⟩
                case rest =>
                  obtain ⟨rfl, q3, rfl⟩ := hcut
                  go_wp2_with fail
                  go_roundw
                  case rel => exact ⟨k + 1, q3, hlt, by rw [EM.out], by go_num, rfl⟩
                  case measure => simp [intOf]; omega
        · have ek : N = k := (Nat.le_antisymm hk (Nat.le_of_not_lt hlt)).symm
          subst ek
          have D6 : Hid (Below w3.heap.size w3 (w5.drewN q)) := Bo.below_drewN D5.out q
          have B6 : Hid (Below w.heap.size w (w5.drewN q)) := Bo.below_drewN B5.out q
          rw [← HV.out] at g2
          go_wp2_with fail
          refine (C8.out _ D6.out).mono ?_
          rintro e w7 ⟨rfl, b7⟩
          have B7 : Hid (Below w.heap.size w w7) := B6.out.trans (b7.mono B6.out.size)
          clear b7
          go_wp2_with fail
          go_ret
          exact ⟨rfl, B7.out⟩
end Go.Proofs.Ytimbghigjfioeaa.Cl
