/- Inside: both sides. -/
import Derived.Test.YtcifmncimpeanaaIn
namespace Go.Proofs.Ytcifmncimpeanaa.In
open Go.ChangeShapes Go.WideShapes Go.ChangeAt Go.RowKit
open Go.Proofs.Ytcifmncimpeanaa.Al

set_option maxHeartbeats 2000000 in
theorem lies_any (x1 y1 x2 y2 px py : Int) (w : World) (k1 : okp x1 y1 = true) (k2 : okp x2 y2 = true) (k3 : okp px py = true) :
    Calls Try.prog 14 #[.agg #[.int .i64 x1, .int .i64 y1], .agg #[.int .i64 x2, .int .i64 y2], .agg #[.int .i64 px, .int .i64 py]] w fun e w' => e = .returned (.bool (lf x1 y1 x2 y2 px py)) ∧ Below w.heap.size w w' := by
  have a1 := okp_parts k1
  have a2 := okp_parts k2
  have a3 := okp_parts k3
  have BB : Hid (Below w.heap.size w (((w.alloc (.cells #[.int .i64 x1, .int .i64 y1] 29)).alloc (.cells #[.int .i64 x2, .int .i64 y2] 29)).alloc (.cells #[.int .i64 px, .int .i64 py] 29))) := (((Below.refl _ _).alloc (Nat.le_refl _) _).alloc (by simp) _).alloc (by simp; omega) _
  have M1 := mb (a := x2 - x1) (b := py - y1) (by omega) (by omega)
  have M2 := mb (a := px - x1) (b := y2 - y1) (by omega) (by omega)
  obtain ⟨d, hd⟩ : ∃ d, d = y2 - y1 := ⟨_, rfl⟩
  obtain ⟨u, hu⟩ : ∃ u, u = x2 - x1 := ⟨_, rfl⟩
  obtain ⟨t, ht⟩ : ∃ t, t = py - y1 := ⟨_, rfl⟩
  obtain ⟨r, hr⟩ : ∃ r, r = px - x1 := ⟨_, rfl⟩
  have EV : ev x1 y1 x2 y2 px py = u * t - r * d := by unfold ev; rw [hu, ht, hr, hd]
  rw [← hu, ← ht] at M1
  rw [← hr, ← hd] at M2
  have J1 : IntKind.i64.wrap (y2 - y1) = d := by rw [← hd]; exact IntWalk.i64_in _ (by omega)
  have J2 : IntKind.i64.wrap (x2 - x1) = u := by rw [← hu]; exact IntWalk.i64_in _ (by omega)
  have J3 : IntKind.i64.wrap (py - y1) = t := by rw [← ht]; exact IntWalk.i64_in _ (by omega)
  have J4 : IntKind.i64.wrap (px - x1) = r := by rw [← hr]; exact IntWalk.i64_in _ (by omega)
  obtain ⟨m1, hm1⟩ : ∃ m1, m1 = u * t := ⟨_, rfl⟩
  obtain ⟨m2, hm2⟩ : ∃ m2, m2 = r * d := ⟨_, rfl⟩
  rw [← hm1] at M1 EV
  rw [← hm2] at M2 EV
  have J5 : IntKind.i64.wrap (u * t) = m1 := by rw [← hm1]; exact IntWalk.i64_in _ (by omega)
  have J6 : IntKind.i64.wrap (r * d) = m2 := by rw [← hm2]; exact IntWalk.i64_in _ (by omega)
  obtain ⟨z, hz⟩ : ∃ z, z = m1 - m2 := ⟨_, rfl⟩
  rw [← hz] at EV
  have J7 : IntKind.i64.wrap (m1 - m2) = z := by rw [← hz]; exact IntWalk.i64_in _ (by omega)
  have HD : Hid (d = y2 - y1) := hd
  clear hd hu ht hr hm1 hm2 hz
  clear a1 a2 a3 M1 M2 k1 k2 k3
  by_cases h1 : py < y1
  · have d1 : decide (py < y1) = true := decide_eq_true h1
    by_cases h2 : py < y2
    · have d2 : decide (py < y2) = true := decide_eq_true h2
      have EL : Hid (lf x1 y1 x2 y2 px py = false) := (by show _ = _; unfold lf; rw [EV]; rw [if_pos h1, if_pos h2])
      rw [EL.out]
      clear EL EV
      go_enter Try.func14, Try.ntmps14
      go_wp2_with fail
      go_ret
      exact ⟨rfl, BB.out⟩
    · have d2 : decide (py < y2) = false := decide_eq_false h2
      have g1 : decide (0 < d) = false := decide_eq_false (by have := HD.out; omega)
      have g2 : decide (d < 0) = true := decide_eq_true (by have := HD.out; omega)
      have g1' : ¬ 0 < d := by have := HD.out; omega
      have g2' : d < 0 := by have := HD.out; omega
      by_cases h3 : z < 0
      · have d3 : decide (z < 0) = true := decide_eq_true h3
        have EL : Hid (lf x1 y1 x2 y2 px py = true) := (by show _ = _; unfold lf; rw [EV]; rw [if_pos h1, if_neg h2]; exact d3)
        rw [EL.out]
        clear EL EV
        go_enter Try.func14, Try.ntmps14
        go_wp2_with fail
        go_ret
        exact ⟨rfl, BB.out⟩
      · have d3 : decide (z < 0) = false := decide_eq_false h3
        have EL : Hid (lf x1 y1 x2 y2 px py = false) := (by show _ = _; unfold lf; rw [EV]; rw [if_pos h1, if_neg h2]; exact d3)
        rw [EL.out]
        clear EL EV
        go_enter Try.func14, Try.ntmps14
        go_wp2_with fail
        go_ret
        exact ⟨rfl, BB.out⟩
  · have d1 : decide (py < y1) = false := decide_eq_false h1
    by_cases h2 : py < y2
    · have d2 : decide (py < y2) = true := decide_eq_true h2
      have g1 : decide (0 < d) = true := decide_eq_true (by have := HD.out; omega)
      have g2 : decide (d < 0) = false := decide_eq_false (by have := HD.out; omega)
      have g1' : 0 < d := by have := HD.out; omega
      have g2' : ¬ d < 0 := by have := HD.out; omega
      by_cases h3 : 0 < z
      · have d3 : decide (0 < z) = true := decide_eq_true h3
        have EL : Hid (lf x1 y1 x2 y2 px py = true) := (by show _ = _; unfold lf; rw [EV]; rw [if_neg h1, if_pos h2]; exact d3)
        rw [EL.out]
        clear EL EV
        go_enter Try.func14, Try.ntmps14
        go_wp2_with fail
        go_ret
        exact ⟨rfl, BB.out⟩
      · have d3 : decide (0 < z) = false := decide_eq_false h3
        have EL : Hid (lf x1 y1 x2 y2 px py = false) := (by show _ = _; unfold lf; rw [EV]; rw [if_neg h1, if_pos h2]; exact d3)
        rw [EL.out]
        clear EL EV
        go_enter Try.func14, Try.ntmps14
        go_wp2_with fail
        go_ret
        exact ⟨rfl, BB.out⟩
    · have d2 : decide (py < y2) = false := decide_eq_false h2
      have EL : Hid (lf x1 y1 x2 y2 px py = false) := (by show _ = _; unfold lf; rw [EV]; rw [if_neg h1, if_neg h2])
      rw [EL.out]
      clear EL EV
      go_enter Try.func14, Try.ntmps14
      go_wp2_with fail
      go_ret
      exact ⟨rfl, BB.out⟩

theorem box_at {w : World} (x y : Int) : (w.alloc (.cells #[.int .i64 x, .int .i64 y] 29)).cell? ⟨w.heap.size, 0, none⟩ = some (.int .i64 x) ∧ (w.alloc (.cells #[.int .i64 x, .int .i64 y] 29)).cell? ⟨w.heap.size, 1, none⟩ = some (.int .i64 y) := by simp [go_sem]
set_option maxRecDepth 20000 in
set_option maxHeartbeats 4000000 in
theorem sins_any (L : Sp.Ls) (px py : Int) (v : Value) (w : World) (hL : Sp.Reads w v L) :
    Calls Try.prog 5 #[v, .agg #[.int .i64 px, .int .i64 py]] w fun e w' => e = .returned (.bool (ins L px py)) ∧ Below w.heap.size w w' := by
  have C1 : Hid (∀ w', Below w.heap.size w w' → Calls Try.prog 10 #[v] w' fun e w'' => e = .returned (.bool (oka L)) ∧ Below w'.heap.size w' w'') := fun w' hb => sarea_any L v w' (hL.on hb)
  have C2 : Hid (∀ w', Calls Try.prog 11 #[.agg #[.int .i64 px, .int .i64 py]] w' fun e w'' => e = .returned (.bool (okp px py)) ∧ Below w'.heap.size w' w'') := fun w' => sspot_any px py w'
  have hf := hL.fits
  obtain ⟨b, o, hcell, hvv⟩ := reads_at hL
  obtain ⟨a, cap, rfl⟩ := hL.form
  obtain ⟨wb, hwb⟩ : ∃ wb, wb = w.alloc (.cells #[.int .i64 px, .int .i64 py] 29) := ⟨_, rfl⟩
  have HW : Hid (wb = w.alloc (.cells #[.int .i64 px, .int .i64 py] 29)) := hwb
  have BW : Hid (Below w.heap.size w wb) := (by show Below _ _ _; rw [hwb]; exact (Below.refl _ _).alloc (Nat.le_refl _) _)
  have ZW : Hid (wb.heap.size = w.heap.size + 1) := (by show _ = _; rw [hwb]; simp)
  have KW : Hid (∀ w', Below wb.heap.size wb w' → w'.cell? ⟨w.heap.size, 0, none⟩ = some (.int .i64 px) ∧ w'.cell? ⟨w.heap.size, 1, none⟩ = some (.int .i64 py)) := fun w' hb => (by
    have hlt : w.heap.size < wb.heap.size := by rw [ZW.out]; omega
    have := box_at (w := w) px py
    rw [← hwb] at this
    exact ⟨(hb.cell (p := ⟨w.heap.size, 0, none⟩) hlt).trans this.1, (hb.cell (p := ⟨w.heap.size, 1, none⟩) hlt).trans this.2⟩)
  clear hwb
  cases hA : oka L
  · have E : ins L px py = false := by unfold ins; rw [hA]; rfl
    rw [E]
    rw [hA] at C1
    clear hA E hL hcell hvv
    generalize L.length = n at *
    go_enter Try.func5, Try.ntmps5
    go_wp2_with fail
    rw [← HW.out]
    refine (C1.out _ BW.out).mono ?_
    rintro e w1 ⟨rfl, hb⟩
    have B1 : Hid (Below w.heap.size w w1) := BW.out.trans (hb.mono BW.out.size)
    clear hb
    go_wp2_with fail
    go_ret
    exact ⟨rfl, B1.out⟩
  rw [hA] at C1
  cases hP : okp px py
  · have E : ins L px py = false := by unfold ins; rw [hA, hP]; rfl
    rw [E]
    rw [hP] at C2
    clear hA hP E hL hcell hvv
    generalize L.length = n at *
    go_enter Try.func5, Try.ntmps5
    go_wp2_with fail
    rw [← HW.out]
    refine (C1.out _ BW.out).mono ?_
    rintro e w1 ⟨rfl, hb⟩
    have B1 : Hid (Below w.heap.size w w1) := BW.out.trans (hb.mono BW.out.size)
    obtain ⟨k0, k1⟩ := KW.out w1 hb
    clear hb
    go_wp2_with fail
    refine (C2.out _).mono ?_
    rintro e w2 ⟨rfl, hb⟩
    have B2 : Hid (Below w.heap.size w w2) := B1.out.trans (hb.mono B1.out.size)
    clear hb
    go_wp2_with fail
    go_ret
    exact ⟨rfl, B2.out⟩
  rw [hP] at C2
  have E : ins L px py = par (sd L px py) L.length := by unfold ins; rw [hA, hP]; rfl
  rw [E]
  clear E
  unfold oka at hA
  simp only [Bool.and_eq_true, inn_iff] at hA
  obtain ⟨⟨l1, l2⟩, hA⟩ := hA
  have HC : Hid (∀ w', Below w.heap.size w w' → ∀ i, i < L.length → Sp.Cs w' b o L i) := hcell
  obtain ⟨hb0, cap', hx⟩ := hvv (by omega)
  simp at hx
  obtain ⟨hx, hx2⟩ := hx
  subst hx hx2
  have HOK : Hid (∀ i, i < L.length → okp (Sp.c0 L i) (Sp.c1 L i) = true) := fun i hi => okl_at hA i hi
  have HPX := okp_parts hP
  have HS : Hid (∀ k, par (sd L px py) (k + 1) = xor (par (sd L px py) k) (lf (Sp.c0 L k) (Sp.c1 L k) (Sp.c0 L ((k + 1) % L.length)) (Sp.c1 L ((k + 1) % L.length)) px py)) := fun k => rfl
  clear hL hcell hvv hA hP
  obtain ⟨n, hn⟩ : ∃ n, n = L.length := ⟨_, rfl⟩
  rw [← hn] at hf l1 l2 C1 HC HOK HS ⊢
  clear hn
  go_enter Try.func5, Try.ntmps5
  go_wp2_with fail
  rw [← HW.out]
  refine (C1.out _ BW.out).mono ?_
  rintro e w1 ⟨rfl, hb⟩
  have B1 : Hid (Below wb.heap.size wb w1) := hb
  obtain ⟨k0, k1⟩ := KW.out w1 hb
  clear hb
  go_wp2_with fail
  refine (C2.out _).mono ?_
  rintro e w2 ⟨rfl, hb⟩
  have B2 : Hid (Below wb.heap.size wb w2) := B1.out.trans (hb.mono B1.out.size)
  clear hb k0 k1 C1 C2 B1 HW
  go_wp2_with fail
  go_loopw [5, 6] (fun c i wr => ∃ k : Nat, k ≤ n ∧ i = .int .i64 k ∧ c = .bool (par (sd L px py) k) ∧ Hid (Below wb.heap.size wb wr)) (fun _ i _ => n - (intOf i).toNat)
  case atStart => exact ⟨0, by omega, rfl, rfl, B2⟩
  case round =>
    clear B2
    obtain ⟨k, hk, rfl, rfl, BB⟩ := hrel
    by_cases hlt : k < n
    · have i1 : (0 : Int) ≤ (k : Int) := by omega
      have i2 : (k : Int) < (n : Int) := by omega
      have B3 : Below w.heap.size w wr := BW.out.trans (BB.out.mono (by have := ZW.out; omega))
      have zr := BB.out.size
      have zw := ZW.out
      have r1 : (k + 1) % n < n := Nat.mod_lt _ (by omega)
      obtain ⟨q0, q1⟩ := HC.out wr B3 k hlt
      obtain ⟨q2, q3⟩ := HC.out wr B3 ((k + 1) % n) r1
      obtain ⟨k0, k1⟩ := KW.out wr BB.out
      have o1 := okp_parts (HOK.out k hlt)
      have o2 := okp_parts (HOK.out ((k + 1) % n) r1)
      have hb1 : b < wr.heap.size := by omega
      have hb2 : ¬ b = wr.heap.size := by omega
      have hp1 : w.heap.size < wr.heap.size := by omega
      have hp2 : ¬ w.heap.size = wr.heap.size := by omega
      have EK := HS.out k
      have em : ((k : Int) + 1).tmod (n : Int) = (((k + 1) % n : Nat) : Int) := by rw [Int.tmod_eq_emod_of_nonneg (by omega)]; simp
      have em2 : ((k : Int) + 1) % (n : Int) = (((k + 1) % n : Nat) : Int) := by simp
      have e0 : ((n : Int) == 0) = false := by simp; omega
      have j1 : (0 : Int) ≤ (((k + 1) % n : Nat) : Int) := by omega
      have j2 : (((k + 1) % n : Nat) : Int) < (n : Int) := by omega
      have BE : Hid (Below wb.heap.size wb ((wr.alloc (.cells #[.int .i64 (Sp.c0 L k), .int .i64 (Sp.c1 L k)] 29)).alloc (.cells #[.int .i64 (Sp.c0 L ((k + 1) % n)), .int .i64 (Sp.c1 L ((k + 1) % n))] 29))) := (BB.out.alloc zr _).alloc (by simp; omega) _
      have hne0 : ¬ n = 0 := by omega
      clear B3 zr zw
      generalize hm : (k + 1) % n = m at *
      clear hm
      obtain ⟨pk, hpk⟩ : ∃ pk, pk = par (sd L px py) k := ⟨_, rfl⟩
      rw [← hpk] at EK ⊢
      clear hpk
      generalize Sp.c0 L k = x1 at *
      generalize Sp.c1 L k = y1 at *
      generalize Sp.c0 L m = x2 at *
      generalize Sp.c1 L m = y2 at *
      have EK : Hid (par (sd L px py) (k + 1) = xor pk (lf x1 y1 x2 y2 px py)) := EK
      have M1 := mb (a := x2 - x1) (b := py - y1) (by omega) (by omega)
      have M2 := mb (a := px - x1) (b := y2 - y1) (by omega) (by omega)
      obtain ⟨d, hd⟩ : ∃ d, d = y2 - y1 := ⟨_, rfl⟩
      obtain ⟨u, hu⟩ : ∃ u, u = x2 - x1 := ⟨_, rfl⟩
      obtain ⟨t, ht⟩ : ∃ t, t = py - y1 := ⟨_, rfl⟩
      obtain ⟨r, hr⟩ : ∃ r, r = px - x1 := ⟨_, rfl⟩
      have EV : ev x1 y1 x2 y2 px py = u * t - r * d := by unfold ev; rw [hu, ht, hr, hd]
      rw [← hu, ← ht] at M1
      rw [← hr, ← hd] at M2
      have J1 : IntKind.i64.wrap (y2 - y1) = d := by rw [← hd]; exact IntWalk.i64_in _ (by omega)
      have J2 : IntKind.i64.wrap (x2 - x1) = u := by rw [← hu]; exact IntWalk.i64_in _ (by omega)
      have J3 : IntKind.i64.wrap (py - y1) = t := by rw [← ht]; exact IntWalk.i64_in _ (by omega)
      have J4 : IntKind.i64.wrap (px - x1) = r := by rw [← hr]; exact IntWalk.i64_in _ (by omega)
      obtain ⟨m1, hm1⟩ : ∃ m1, m1 = u * t := ⟨_, rfl⟩
      obtain ⟨m2, hm2⟩ : ∃ m2, m2 = r * d := ⟨_, rfl⟩
      rw [← hm1] at M1 EV
      rw [← hm2] at M2 EV
      have J5 : IntKind.i64.wrap (u * t) = m1 := by rw [← hm1]; exact IntWalk.i64_in _ (by omega)
      have J6 : IntKind.i64.wrap (r * d) = m2 := by rw [← hm2]; exact IntWalk.i64_in _ (by omega)
      obtain ⟨z, hz⟩ : ∃ z, z = m1 - m2 := ⟨_, rfl⟩
      rw [← hz] at EV
      have J7 : IntKind.i64.wrap (m1 - m2) = z := by rw [← hz]; exact IntWalk.i64_in _ (by omega)
      have HD : Hid (d = y2 - y1) := hd
      clear hd hu ht hr hm1 hm2 hz
      clear o1 o2 M1 M2
      by_cases h1 : py < y1
      · have d1 : decide (py < y1) = true := decide_eq_true h1
        by_cases h2 : py < y2
        · have d2 : decide (py < y2) = true := decide_eq_true h2
          have EL : Hid (lf x1 y1 x2 y2 px py = false) := (by show _ = _; unfold lf; rw [EV]; rw [if_pos h1, if_pos h2])
          have EP : Hid (par (sd L px py) (k + 1) = pk) := (by show _ = _; rw [EK.out, EL.out]; cases pk <;> rfl)
          clear EK EL
          clear EV
          go_wp2_with fail
          go_roundw
          case rel => exact ⟨k + 1, by omega, by go_num, by rw [EP.out], BE⟩
          case measure => simp [intOf]; omega
        · have d2 : decide (py < y2) = false := decide_eq_false h2
          have g1 : decide (0 < d) = false := decide_eq_false (by have := HD.out; omega)
          have g2 : decide (d < 0) = true := decide_eq_true (by have := HD.out; omega)
          have g1' : ¬ 0 < d := by have := HD.out; omega
          have g2' : d < 0 := by have := HD.out; omega
          by_cases h3 : z < 0
          · have d3 : decide (z < 0) = true := decide_eq_true h3
            have EL : Hid (lf x1 y1 x2 y2 px py = true) := (by show _ = _; unfold lf; rw [EV]; rw [if_pos h1, if_neg h2]; exact d3)
            have EP : Hid (par (sd L px py) (k + 1) = !pk) := (by show _ = _; rw [EK.out, EL.out]; cases pk <;> rfl)
            clear EK EL
            clear EV
            go_wp2_with fail
            go_roundw
            case rel => exact ⟨k + 1, by omega, by go_num, by rw [EP.out], BE⟩
            case measure => simp [intOf]; omega
          · have d3 : decide (z < 0) = false := decide_eq_false h3
            have EL : Hid (lf x1 y1 x2 y2 px py = false) := (by show _ = _; unfold lf; rw [EV]; rw [if_pos h1, if_neg h2]; exact d3)
            have EP : Hid (par (sd L px py) (k + 1) = pk) := (by show _ = _; rw [EK.out, EL.out]; cases pk <;> rfl)
            clear EK EL
            clear EV
            go_wp2_with fail
            go_roundw
            case rel => exact ⟨k + 1, by omega, by go_num, by rw [EP.out], BE⟩
            case measure => simp [intOf]; omega
      · have d1 : decide (py < y1) = false := decide_eq_false h1
        by_cases h2 : py < y2
        · have d2 : decide (py < y2) = true := decide_eq_true h2
          have g1 : decide (0 < d) = true := decide_eq_true (by have := HD.out; omega)
          have g2 : decide (d < 0) = false := decide_eq_false (by have := HD.out; omega)
          have g1' : 0 < d := by have := HD.out; omega
          have g2' : ¬ d < 0 := by have := HD.out; omega
          by_cases h3 : 0 < z
          · have d3 : decide (0 < z) = true := decide_eq_true h3
            have EL : Hid (lf x1 y1 x2 y2 px py = true) := (by show _ = _; unfold lf; rw [EV]; rw [if_neg h1, if_pos h2]; exact d3)
            have EP : Hid (par (sd L px py) (k + 1) = !pk) := (by show _ = _; rw [EK.out, EL.out]; cases pk <;> rfl)
            clear EK EL
            clear EV
            go_wp2_with fail
            go_roundw
            case rel => exact ⟨k + 1, by omega, by go_num, by rw [EP.out], BE⟩
            case measure => simp [intOf]; omega
          · have d3 : decide (0 < z) = false := decide_eq_false h3
            have EL : Hid (lf x1 y1 x2 y2 px py = false) := (by show _ = _; unfold lf; rw [EV]; rw [if_neg h1, if_pos h2]; exact d3)
            have EP : Hid (par (sd L px py) (k + 1) = pk) := (by show _ = _; rw [EK.out, EL.out]; cases pk <;> rfl)
            clear EK EL
            clear EV
            go_wp2_with fail
            go_roundw
            case rel => exact ⟨k + 1, by omega, by go_num, by rw [EP.out], BE⟩
            case measure => simp [intOf]; omega
        · have d2 : decide (py < y2) = false := decide_eq_false h2
          have EL : Hid (lf x1 y1 x2 y2 px py = false) := (by show _ = _; unfold lf; rw [EV]; rw [if_neg h1, if_neg h2])
          have EP : Hid (par (sd L px py) (k + 1) = pk) := (by show _ = _; rw [EK.out, EL.out]; cases pk <;> rfl)
          clear EK EL
          clear EV
          go_wp2_with fail
          go_roundw
          case rel => exact ⟨k + 1, by omega, by go_num, by rw [EP.out], BE⟩
          case measure => simp [intOf]; omega
    · have hkn : k = n := by omega
      subst hkn
      have BE : Hid (Below w.heap.size w wr) := BW.out.trans (BB.out.mono (by have := ZW.out; omega))
      go_wp2_with fail
      go_ret
      exact ⟨rfl, BE.out⟩
end Go.Proofs.Ytcifmncimpeanaa.In
