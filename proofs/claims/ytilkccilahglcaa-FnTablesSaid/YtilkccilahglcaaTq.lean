/- Counts and bins hold all: the law walked. -/
import Derived.Test.YtilkccilahglcaaTp
namespace Go.Proofs.Ytilkccilahglcaa.Tp
open Go.ChangeShapes Go.WideShapes Go.ChangeAt Go.RowKit
open Go.Proofs.Ytilkccilahglcaa.Al Go.Proofs.Ytilkccilahglcaa.Br Go.Proofs.Ytilkccilahglcaa.Rl Go.Proofs.Ytilkccilahglcaa.Rd

def B4 (w : World) (g : Nat) (a b c d : Int) : Prop := w.cell? ⟨g, 0, none⟩ = some (.int .i64 a) ∧ w.cell? ⟨g, 1, none⟩ = some (.int .i64 b) ∧ w.cell? ⟨g, 2, none⟩ = some (.int .i64 c) ∧ w.cell? ⟨g, 3, none⟩ = some (.int .i64 d)
theorem B4.on {w w' : World} {B g : Nat} {a b c d : Int} (h : B4 w g a b c d) (hb : Below B w w') (hg : g < B) : B4 w' g a b c d := by
  obtain ⟨h0, h1, h2, h3⟩ := h
  exact ⟨(hb.cell (p := ⟨g, 0, none⟩) hg).trans h0, (hb.cell (p := ⟨g, 1, none⟩) hg).trans h1, (hb.cell (p := ⟨g, 2, none⟩) hg).trans h2, (hb.cell (p := ⟨g, 3, none⟩) hg).trans h3⟩
theorem B4.new (w : World) (a b c d : Int) (t : TypeId) : B4 (w.alloc (Obj.cells #[.int .i64 a, .int .i64 b, .int .i64 c, .int .i64 d] t)) w.heap.size a b c d := by
  unfold B4
  simp [go_sem]

set_option maxHeartbeats 2000000 in
theorem tablesLaw (a : Option Addr) (len cap : Nat) (w : World) (hc : Go.Proofs.Ytilkccilahglcaa.Rd.Code w a len cap) (hn : len < 9223372036854775808) : Calls Try.prog 3 #[.slice a len cap] w fun e w' => e = .returned (.bool true) ∧ Below w.heap.size w w' := by
  by_cases hl : 1048576 < len
  · have C : Hid (Calls Try.prog 4 #[.slice a len cap] w fun e w' => e = .returned (.bool true) ∧ w' = w) := big_yes a len cap w hl hn
    clear hc
    go_enter Try.func3, Try.ntmps3
    go_wp2_with fail
    refine C.out.mono ?_
    rintro e w1 ⟨rfl, hw⟩
    subst hw
    go_wp2_with fail
    go_ret
    exact ⟨rfl, Below.refl _ _⟩
  have C : Hid (Calls Try.prog 4 #[.slice a len cap] w fun e w' => e = .returned (.bool false) ∧ w' = w) := big_no a len cap w (by omega)
  have D : Hid (Calls Try.prog 5 #[.slice a len cap] w fun e w' => ∃ v L p, e = .returned (.tuple #[v, .int .i64 p]) ∧ Pb.Reads w' v L ∧ (-1 ≤ p ∧ p ≤ 101) ∧ Below w.heap.size w w') := Dt.table_any a len cap w hc (by omega)
  clear hc
  go_enter Try.func3, Try.ntmps3
  go_wp2_with fail
  refine C.out.mono ?_
  rintro e w1 ⟨rfl, hw⟩
  have hw' := hw.symm
  subst hw'
  clear hw
  go_wp2_with fail
  refine D.out.mono ?_
  rintro e w1 ⟨v, L, p, rfl, h1, h2, h3⟩
  have B1 : Hid (Below w.heap.size w w1) := h3
  have IR : Hid (Calls Try.prog 6 #[v] w1 fun e w' => ∃ v', e = .returned v' ∧ Bn.Row w' w1.heap.size v' (rel L) ∧ Below w1.heap.size w1 w') := irel_any w1 v L h1
  have SR : Hid (∀ w', Below w1.heap.size w1 w' → Calls Try.prog 7 #[v] w' fun e w'' => ∃ v', e = .returned v' ∧ Bn.Row w'' w'.heap.size v' (rel L) ∧ Below w'.heap.size w' w'') := fun w' hb => srel_any w' v L (h1.on hb)
  have IT : Hid (∀ q w', Below w1.heap.size w1 w' → Calls Try.prog 8 #[v, .int .i64 q] w' fun e w'' => e = .returned (tab L q) ∧ Below w'.heap.size w' w'') := fun q w' hb => itable_any L q v w' (h1.on hb)
  have IB : Hid (∀ w', Below w1.heap.size w1 w' → Calls Try.prog 9 #[v] w' fun e w'' => e = .returned (.int .i64 (bri L)) ∧ Below w'.heap.size w' w'') := fun w' hb => ibrier_any L v w' (h1.on hb)
  obtain ⟨b, o, hcell, hvv⟩ := reads_at h1
  have hfit := h1.fits
  obtain ⟨sa, sc, ev⟩ := h1.form
  subst ev
  have HB : Hid (0 < L.length → b < w1.heap.size) := fun hi => (hvv hi).1
  have HC : Hid (∀ i, i < L.length → ∀ w', Below w1.heap.size w1 w' → Pb.Cs w' b o L i) := fun i hi w' hb => (hcell i hi).below hb (HB.out (by omega))
  have HA : Hid (0 < L.length → sa = some ⟨b, o, none⟩) := fun hi => by
    obtain ⟨h1, c, h2⟩ := hvv hi
    simp at h2
    exact h2.1
  clear h1 h3 hcell hvv
  cases ho : okT L
  · have E1 : rel L = [] := by unfold rel; rw [ho]; rfl
    have E2 : ∀ q, tab L q = cv 0 0 0 0 := fun q => by unfold tab; rw [ho]; rfl
    have E3 : bri L = -1 := by unfold bri; rw [ho]; rfl
    rw [E1] at IR SR
    rw [E3] at IB
    have IT2 : Hid (∀ w', Below w1.heap.size w1 w' → Calls Try.prog 8 #[.slice sa L.length sc, .int .i64 p] w' fun e w'' => e = .returned (cv 0 0 0 0) ∧ Below w'.heap.size w' w'') := fun w' hb => by rw [← E2 p]; exact IT.out p w' hb
    clear IT E1 E2 E3 ho HC HA HB
    generalize L.length = n at *
    go_wp2_with fail
    refine IR.out.mono ?_
    rintro e w2 ⟨v2, rfl, r2, b2⟩
    obtain ⟨a2, c2, e2⟩ := r2.form
    simp at e2
    subst e2
    have B2 : Hid (Below w1.heap.size w1 w2) := b2
    clear r2 b2
    go_wp2_with fail
    refine (SR.out w2 B2.out).mono ?_
    rintro e w3 ⟨v3, rfl, r3, b3⟩
    obtain ⟨a3, c3, e3⟩ := r3.form
    simp at e3
    subst e3
    have B3 : Hid (Below w1.heap.size w1 w3) := B2.out.trans (b3.mono B2.out.size)
    clear r3 b3
    go_wp2_with fail
    refine (IT2.out w3 B3.out).mono ?_
    rintro e w4 ⟨rfl, b4⟩
    have B4' : Hid (Below w1.heap.size w1 w4) := B3.out.trans (b4.mono B3.out.size)
    clear b4
    go_wp2_with fail
    refine (IB.out w4 B4'.out).mono ?_
    rintro e w5 ⟨rfl, b5⟩
    have B5 : Hid (Below w.heap.size w w5) := B1.out.trans ((B4'.out.trans (b5.mono B4'.out.size)).mono B1.out.size)
    clear b5
    go_wp2_with fail
    go_ret
    exact ⟨rfl, B5.out⟩
  have r := (okT_iff L).mp ho
  have E1 : rel L = relL L 11 := by unfold rel; rw [ho]; rfl
  have E2 : ∀ q, tab L q = cv (cn (pH L q) L.length) (cn (pM L q) L.length) (cn (pF L q) L.length) (cn (pN L q) L.length) := fun q => by unfold tab; rw [ho]; rfl
  rw [E1] at IR SR
  have IT2 : Hid (∀ q w', Below w1.heap.size w1 w' → Calls Try.prog 8 #[.slice sa L.length sc, .int .i64 q] w' fun e w'' => e = .returned (cv (cn (pH L q) L.length) (cn (pM L q) L.length) (cn (pF L q) L.length) (cn (pN L q) L.length)) ∧ Below w'.heap.size w' w'') := fun q w' hb => by rw [← E2 q]; exact IT.out q w' hb
  have BA := bins_all L r.2 L.length (Nat.le_refl _)
  have PC : Hid (pc L L.length 11 = (L.length : Int) ∧ ph L L.length 11 = ht L L.length) := BA
  have FR : Hid (∀ q, cn (pH L q) L.length + cn (pM L q) L.length = ht L L.length ∧ cn (pF L q) L.length + cn (pN L q) L.length = (L.length : Int) - ht L L.length) := fun q => four L q L.length
  have MO : Hid (∀ q, p ≤ q → cn (pH L q) L.length ≤ cn (pH L p) L.length ∧ cn (pF L q) L.length ≤ cn (pF L p) L.length) := fun q hq => ⟨moreH L hq _, moreF L hq _⟩
  have BD : Hid (∀ q, (0 ≤ cn (pH L q) L.length ∧ cn (pH L q) L.length ≤ L.length) ∧ (0 ≤ cn (pM L q) L.length ∧ cn (pM L q) L.length ≤ L.length) ∧ (0 ≤ cn (pF L q) L.length ∧ cn (pF L q) L.length ≤ L.length) ∧ (0 ≤ cn (pN L q) L.length ∧ cn (pN L q) L.length ≤ L.length)) := fun q => ⟨cn_bd _ _, cn_bd _ _, cn_bd _ _, cn_bd _ _⟩
  have GR : Hid (∀ k, k < 11 → Bn.c0 (relL L 11) k = cn (bC L k) L.length ∧ Bn.c1 (relL L 11) k = cn (bH L k) L.length) := fun k hk => by
    rw [← prg_all]
    exact ⟨prg_0 L _ k hk, prg_1 L _ k hk⟩
  have n2 := r.1
  have L11 : (relL L 11).length = 11 := relL_len L 11
  clear IT IB E1 E2 ho r BA hfit
  obtain ⟨n, hn'⟩ : ∃ n, n = L.length := ⟨_, rfl⟩
  rw [← hn'] at IR SR IT2 PC FR MO BD GR HC HA HB n2 ⊢
  clear hn'
  go_wp2_with fail
  refine IR.out.mono ?_
  rintro e w2 ⟨v2, rfl, r2, b2⟩
  obtain ⟨xs2, o2, g2⟩ := r2
  rw [L11] at o2 g2
  rcases Bn.row_cases o2 with ⟨e0, _⟩ | ⟨g, cg, ev, _, gs, _, _⟩
  · omega
  subst ev
  have B2 : Hid (Below w1.heap.size w1 w2) := b2
  have GS : Hid (g < w2.heap.size) := gs
  have BC : Hid (∀ k, k < 11 → ∀ w', Below w2.heap.size w2 w' → w'.cell? ⟨g, k * 2, none⟩ = some (.int .i64 (cn (bC L k) n)) ∧ w'.cell? ⟨g, k * 2 + 1, none⟩ = some (.int .i64 (cn (bH L k) n))) := fun k hk w' hb => by
    obtain ⟨x0, x1⟩ := g2 k hk
    have lx := o2.1
    obtain ⟨y0, y1⟩ := GR.out k hk
    rw [y0] at x0
    rw [y1] at x1
    refine ⟨?_, ?_⟩
    · rw [hb.cell (p := ⟨g, k * 2, none⟩) gs, o2.cellAt (k * 2) (by omega)]; exact x0
    · rw [hb.cell (p := ⟨g, k * 2 + 1, none⟩) gs, o2.cellAt (k * 2 + 1) (by omega)]; exact x1
  clear o2 g2 b2 gs
  go_wp2_with fail
  refine (SR.out w2 B2.out).mono ?_
  rintro e w3 ⟨v3, rfl, r3, b3⟩
  obtain ⟨a3, c3, e3⟩ := r3.form
  rw [L11] at e3
  subst e3
  have B3 : Hid (Below w1.heap.size w1 w3) := B2.out.trans (b3.mono B2.out.size)
  have D3 : Hid (Below w2.heap.size w2 w3) := b3
  clear r3 b3 SR IR
  go_wp2_with fail
  go_loop [6, 7] (fun s i => ∃ k : Nat, k ≤ n ∧ i = .int .i64 k ∧ s = .int .i64 (ht L k)) (fun _ i => n - (intOf i).toNat)
  case atStart => exact ⟨0, by omega, rfl, rfl⟩
  case round =>
    obtain ⟨k, hk, rfl, rfl⟩ := hrel
    by_cases hlt : k < n
    · have hx := HA.out (by omega)
      subst hx
      obtain ⟨q0, q1⟩ := HC.out k hlt w3 B3.out
      have i1 : (0 : Int) ≤ (k : Int) := by omega
      have i2 : (k : Int) < (n : Int) := by omega
      have yb : 0 ≤ ht L k ∧ ht L k ≤ k := cn_bd _ _
      cases hh : Pb.c1 L k
      · have G : Hid (ht L (k + 1) = ht L k) := cn_no hh
        rw [hh] at q1
        clear hh
        generalize ht L k = s at *
        go_wp2_with fail
        go_round
        case rel => exact ⟨k + 1, by omega, by go_num, by rw [G.out]⟩
        case measure => simp [intOf]; omega
      · have G : Hid (ht L (k + 1) = ht L k + 1) := cn_yes hh
        rw [hh] at q1
        clear hh
        generalize ht L k = s at *
        go_wp2_with fail
        go_round
        case rel => exact ⟨k + 1, by omega, by go_num, by rw [G.out]⟩
        case measure => simp [intOf]; omega
    · have hkn : k = n := by omega
      subst hkn
      obtain ⟨q, hq⟩ : ∃ q, q = (if (100 : Int) < p then 100 else p) + 1 := ⟨_, rfl⟩
      have hpq : p ≤ q := by split at hq <;> omega
      have mo := MO.out q hpq
      have f1 := FR.out p
      have bd1 := BD.out p
      have hb1 : 0 ≤ ht L k ∧ ht L k ≤ k := cn_bd _ _
      have K1 : Hid (Calls Try.prog 8 #[.slice sa k sc, .int .i64 p] w3 fun e w'' => e = .returned (cv (cn (pH L p) k) (cn (pM L p) k) (cn (pF L p) k) (cn (pN L p) k)) ∧ Below w3.heap.size w3 w'') := IT2.out p w3 B3.out
      have K2 : Hid (∀ w', Below w1.heap.size w1 w' → Calls Try.prog 8 #[.slice sa k sc, .int .i64 q] w' fun e w'' => e = .returned (cv (cn (pH L q) k) (cn (pM L q) k) (cn (pF L q) k) (cn (pN L q) k)) ∧ Below w'.heap.size w' w'') := IT2.out q
      have PCK : Hid (pc L k 11 = (k : Int) ∧ ph L k 11 = ht L k) := PC.out
      have BDQ := BD.out q
      clear MO FR BD IT2 PC
      generalize cn (pH L p) k = x0 at *
      generalize cn (pM L p) k = x1 at *
      generalize cn (pF L p) k = x2 at *
      generalize cn (pN L p) k = x3 at *
      generalize cn (pH L q) k = y0 at *
      generalize cn (pM L q) k = y1 at *
      generalize cn (pF L q) k = y2 at *
      generalize cn (pN L q) k = y3 at *
      generalize ht L k = hh at *
      clear BDQ
      go_wp2_with fail
      refine K1.out.mono ?_
      rintro e w4 ⟨rfl, b4⟩
      have B4' : Hid (Below w1.heap.size w1 w4) := B3.out.trans (b4.mono B3.out.size)
      have D4 : Hid (Below w2.heap.size w2 w4) := D3.out.trans (b4.mono D3.out.size)
      clear b4
      obtain ⟨w5, hw5⟩ : ∃ w5, w5 = w4.alloc (Obj.cells #[.int .i64 x0, .int .i64 x1, .int .i64 x2, .int .i64 x3] 30) := ⟨_, rfl⟩
      have HW5 : Hid (w5 = w4.alloc (Obj.cells #[.int .i64 x0, .int .i64 x1, .int .i64 x2, .int .i64 x3] 30)) := hw5
      have b5 : Below w4.heap.size w4 w5 := by rw [hw5]; exact (Below.refl _ _).alloc (Nat.le_refl _) _
      have z5 : w4.heap.size < w5.heap.size := by rw [hw5]; simp
      have B5 : Hid (Below w1.heap.size w1 w5) := B4'.out.trans (b5.mono B4'.out.size)
      have D5 : Hid (Below w2.heap.size w2 w5) := D4.out.trans (b5.mono D4.out.size)
      have X5 : Hid (B4 w5 w4.heap.size x0 x1 x2 x3) := (by show B4 _ _ _ _ _ _; rw [hw5]; exact B4.new w4 x0 x1 x2 x3 30)
      clear hw5 b5
      have EQ : Hid ((if (100 : Int) < p then 100 else p) + 1 = q) := hq.symm
      have pq : -1 ≤ p ∧ p ≤ 101 := h2
      by_cases hp : (100 : Int) < p
      · have eq1 : q = 101 := by have := EQ.out; rw [if_pos hp] at this; omega
        rw [eq1] at K2
        clear hq EQ eq1 hpq
        go_wp2_with fail
        rw [← HW5.out]
        refine (K2.out w5 B5.out).mono ?_
        rintro e w6 ⟨rfl, b6⟩
        have X6 : Hid (B4 w6 w4.heap.size x0 x1 x2 x3) := X5.out.on b6 z5
        have Z6 : Hid (w4.heap.size < w6.heap.size) := (by show _ < _; have := b6.size; omega)
        have B6 : Hid (Below w1.heap.size w1 w6) := B5.out.trans (b6.mono B5.out.size)
        have D6 : Hid (Below w2.heap.size w2 w6) := D5.out.trans (b6.mono D5.out.size)
        clear b6
        obtain ⟨w7, hw7⟩ : ∃ w7, w7 = w6.alloc (Obj.cells #[.int .i64 y0, .int .i64 y1, .int .i64 y2, .int .i64 y3] 30) := ⟨_, rfl⟩
        have HW7 : Hid (w7 = w6.alloc (Obj.cells #[.int .i64 y0, .int .i64 y1, .int .i64 y2, .int .i64 y3] 30)) := hw7
        have b7 : Below w6.heap.size w6 w7 := by rw [hw7]; exact (Below.refl _ _).alloc (Nat.le_refl _) _
        have B7 : Hid (Below w1.heap.size w1 w7) := B6.out.trans (b7.mono B6.out.size)
        have D7 : Hid (Below w2.heap.size w2 w7) := D6.out.trans (b7.mono D6.out.size)
        have X7 : Hid (B4 w7 w4.heap.size x0 x1 x2 x3) := X6.out.on b7 Z6.out
        have Y7 : Hid (B4 w7 w6.heap.size y0 y1 y2 y3) := (by show B4 _ _ _ _ _ _; rw [hw7]; exact B4.new w6 y0 y1 y2 y3 30)
        have E7 : Hid (Below w.heap.size w w7) := B1.out.trans (B7.out.mono B1.out.size)
        clear hw7 b7 X5 X6 B5 B6 D5 D6 K1 K2 HW5 B4' D4
        go_upto_region 18 with fail
        rw [← HW7.out]
        go_loop [10, 11, 12] (fun s t i => ∃ j : Nat, j ≤ 11 ∧ i = .int .i64 j ∧ s = .int .i64 (pc L k j) ∧ t = .int .i64 (ph L k j)) (fun _ _ i => 11 - (intOf i).toNat)
        case atStart => exact ⟨0, by omega, rfl, rfl, rfl⟩
        case round =>
          obtain ⟨j, hj, rfl, rfl, rfl⟩ := hrel
          by_cases hlj : j < 11
          · obtain ⟨q0, q1⟩ := BC.out j hlj w7 D7.out
            have i1 : (0 : Int) ≤ (j : Int) := by omega
            have i2 : (j : Int) < 11 := by omega
            have c1 := cn_bd (bC L j) k
            have c2 := cn_bd (bH L j) k
            have m1 : (k : Int) * (j : Int) ≤ 1000 * 11 := Int.mul_le_mul (by omega) (by omega) (by omega) (by omega)
            have p1 := pc_bd L k j
            have p2 := ph_bd L k j
            have p3 : pc L k j ≤ 11000 := by omega
            have p4 : ph L k j ≤ 11000 := by omega
            have F1 : Hid (pc L k (j + 1) = pc L k j + cn (bC L j) k) := rfl
            have F2 : Hid (ph L k (j + 1) = ph L k j + cn (bH L j) k) := rfl
            have p5 := p1.1
            have p6 := p2.1
            clear p1 p2 m1
            generalize pc L k j = s0 at *
            generalize ph L k j = s1 at *
            generalize cn (bC L j) k = d0 at *
            generalize cn (bH L j) k = d1 at *
            go_wp2_with fail
            go_round
            case rel => exact ⟨j + 1, by omega, by go_num, by rw [F1.out], by rw [F2.out]⟩
            case measure => simp [intOf]; omega
          · have hj11 : j = 11 := by omega
            subst hj11
            rw [PCK.out.1, PCK.out.2]
            obtain ⟨a0, a1, a2, a3'⟩ := X7.out
            obtain ⟨d0, d1, d2, d3⟩ := Y7.out
            have e1 : (x0 + x1 == hh) = true := by simp; omega
            have e2 : (x0 + x1 + x2 + x3 == (k : Int)) = true := by simp; omega
            have e3 : ((k : Int) == (k : Int)) = true := by simp
            have e4 : (hh == hh) = true := by simp
            have e5 : y0 ≤ x0 := mo.1
            have e6 : y2 ≤ x2 := mo.2
            have w1' : IntKind.i64.wrap (x0 + x1) = x0 + x1 := IntWalk.i64_in _ (by omega)
            have w2' : IntKind.i64.wrap (x0 + x1 + x2) = x0 + x1 + x2 := IntWalk.i64_in _ (by omega)
            have w3' : IntKind.i64.wrap (x0 + x1 + x2 + x3) = x0 + x1 + x2 + x3 := IntWalk.i64_in _ (by omega)
            go_wp2_with fail
            go_ret
            exact ⟨rfl, E7.out⟩
      · have eq1 : q = p + 1 := by have := EQ.out; rw [if_neg hp] at this; omega
        rw [eq1] at K2
        clear hq EQ eq1 hpq
        go_wp2_with fail
        rw [← HW5.out]
        refine (K2.out w5 B5.out).mono ?_
        rintro e w6 ⟨rfl, b6⟩
        have X6 : Hid (B4 w6 w4.heap.size x0 x1 x2 x3) := X5.out.on b6 z5
        have Z6 : Hid (w4.heap.size < w6.heap.size) := (by show _ < _; have := b6.size; omega)
        have B6 : Hid (Below w1.heap.size w1 w6) := B5.out.trans (b6.mono B5.out.size)
        have D6 : Hid (Below w2.heap.size w2 w6) := D5.out.trans (b6.mono D5.out.size)
        clear b6
        obtain ⟨w7, hw7⟩ : ∃ w7, w7 = w6.alloc (Obj.cells #[.int .i64 y0, .int .i64 y1, .int .i64 y2, .int .i64 y3] 30) := ⟨_, rfl⟩
        have HW7 : Hid (w7 = w6.alloc (Obj.cells #[.int .i64 y0, .int .i64 y1, .int .i64 y2, .int .i64 y3] 30)) := hw7
        have b7 : Below w6.heap.size w6 w7 := by rw [hw7]; exact (Below.refl _ _).alloc (Nat.le_refl _) _
        have B7 : Hid (Below w1.heap.size w1 w7) := B6.out.trans (b7.mono B6.out.size)
        have D7 : Hid (Below w2.heap.size w2 w7) := D6.out.trans (b7.mono D6.out.size)
        have X7 : Hid (B4 w7 w4.heap.size x0 x1 x2 x3) := X6.out.on b7 Z6.out
        have Y7 : Hid (B4 w7 w6.heap.size y0 y1 y2 y3) := (by show B4 _ _ _ _ _ _; rw [hw7]; exact B4.new w6 y0 y1 y2 y3 30)
        have E7 : Hid (Below w.heap.size w w7) := B1.out.trans (B7.out.mono B1.out.size)
        clear hw7 b7 X5 X6 B5 B6 D5 D6 K1 K2 HW5 B4' D4
        go_upto_region 18 with fail
        rw [← HW7.out]
        go_loop [10, 11, 12] (fun s t i => ∃ j : Nat, j ≤ 11 ∧ i = .int .i64 j ∧ s = .int .i64 (pc L k j) ∧ t = .int .i64 (ph L k j)) (fun _ _ i => 11 - (intOf i).toNat)
        case atStart => exact ⟨0, by omega, rfl, rfl, rfl⟩
        case round =>
          obtain ⟨j, hj, rfl, rfl, rfl⟩ := hrel
          by_cases hlj : j < 11
          · obtain ⟨q0, q1⟩ := BC.out j hlj w7 D7.out
            have i1 : (0 : Int) ≤ (j : Int) := by omega
            have i2 : (j : Int) < 11 := by omega
            have c1 := cn_bd (bC L j) k
            have c2 := cn_bd (bH L j) k
            have m1 : (k : Int) * (j : Int) ≤ 1000 * 11 := Int.mul_le_mul (by omega) (by omega) (by omega) (by omega)
            have p1 := pc_bd L k j
            have p2 := ph_bd L k j
            have p3 : pc L k j ≤ 11000 := by omega
            have p4 : ph L k j ≤ 11000 := by omega
            have F1 : Hid (pc L k (j + 1) = pc L k j + cn (bC L j) k) := rfl
            have F2 : Hid (ph L k (j + 1) = ph L k j + cn (bH L j) k) := rfl
            have p5 := p1.1
            have p6 := p2.1
            clear p1 p2 m1
            generalize pc L k j = s0 at *
            generalize ph L k j = s1 at *
            generalize cn (bC L j) k = d0 at *
            generalize cn (bH L j) k = d1 at *
            go_wp2_with fail
            go_round
            case rel => exact ⟨j + 1, by omega, by go_num, by rw [F1.out], by rw [F2.out]⟩
            case measure => simp [intOf]; omega
          · have hj11 : j = 11 := by omega
            subst hj11
            rw [PCK.out.1, PCK.out.2]
            obtain ⟨a0, a1, a2, a3'⟩ := X7.out
            obtain ⟨d0, d1, d2, d3⟩ := Y7.out
            have e1 : (x0 + x1 == hh) = true := by simp; omega
            have e2 : (x0 + x1 + x2 + x3 == (k : Int)) = true := by simp; omega
            have e3 : ((k : Int) == (k : Int)) = true := by simp
            have e4 : (hh == hh) = true := by simp
            have e5 : y0 ≤ x0 := mo.1
            have e6 : y2 ≤ x2 := mo.2
            have w1' : IntKind.i64.wrap (x0 + x1) = x0 + x1 := IntWalk.i64_in _ (by omega)
            have w2' : IntKind.i64.wrap (x0 + x1 + x2) = x0 + x1 + x2 := IntWalk.i64_in _ (by omega)
            have w3' : IntKind.i64.wrap (x0 + x1 + x2 + x3) = x0 + x1 + x2 + x3 := IntWalk.i64_in _ (by omega)
            go_wp2_with fail
            go_ret
            exact ⟨rfl, E7.out⟩
end Go.Proofs.Ytilkccilahglcaa.Tp
