/- Table: the program. -/
import Derived.Test.YtilkccilahglcaaTb
namespace Go.Proofs.Ytilkccilahglcaa.Br
open Go.ChangeShapes Go.WideShapes Go.ChangeAt Go.RowKit
open Go.Proofs.Ytilkccilahglcaa.Al

set_option maxHeartbeats 2000000 in
theorem itable_any (L : Ls) (p : Int) (v : Value) (w : World) (hL : Pb.Reads w v L) :
    Calls Try.prog 8 #[v, .int .i64 p] w fun e w' => e = .returned (tab L p) ∧ Below w.heap.size w w' := by
  have hf := hL.fits
  obtain ⟨W, hW⟩ : ∃ W, W = (w.alloc (Obj.cells #[.int .i64 0, .int .i64 0, .int .i64 0, .int .i64 0] 30)).alloc (Obj.cells #[.int .i64 0, .int .i64 0, .int .i64 0, .int .i64 0] 30) := ⟨_, rfl⟩
  have HW : Hid (W = (w.alloc (Obj.cells #[.int .i64 0, .int .i64 0, .int .i64 0, .int .i64 0] 30)).alloc (Obj.cells #[.int .i64 0, .int .i64 0, .int .i64 0, .int .i64 0] 30)) := hW
  have S0 : Hid (TB w W 0 0 0 0) := (by show TB _ _ _ _ _ _; rw [hW]; exact TB.start w)
  have C : Hid (∀ w', Below w.heap.size w w' → Calls Try.prog 13 #[v] w' fun e w'' => e = .returned (.bool (okT L)) ∧ Below w'.heap.size w' w'') := fun w' hb => iok_any L v w' (hL.on hb)
  obtain ⟨b, o, hcell, hvv⟩ := reads_at hL
  obtain ⟨a, cap, rfl⟩ := hL.form
  have HB : Hid (0 < L.length → b < w.heap.size) := fun hi => (hvv hi).1
  have HC : Hid (∀ i, i < L.length → ∀ w', Below w.heap.size w w' → Pb.Cs w' b o L i) := fun i hi w' hb => (hcell i hi).below hb (HB.out (by omega))
  have HA : Hid (0 < L.length → a = some ⟨b, o, none⟩) := fun hi => by
    obtain ⟨h1, c, h2⟩ := hvv hi
    simp at h2
    exact h2.1
  unfold tab
  clear hL hW hcell hvv
  cases ho : okT L
  · rw [ho] at C
    have e0 : (if false = true then cv (cn (pH L p) L.length) (cn (pM L p) L.length) (cn (pF L p) L.length) (cn (pN L p) L.length) else cv 0 0 0 0) = cv 0 0 0 0 := rfl
    rw [e0]
    clear ho e0 HC HA HB hf
    generalize L.length = n at *
    go_enter Try.func8, Try.ntmps8
    obtain ⟨r0, r1, r2, r3⟩ := S0.out.r
    obtain ⟨h0, h1, h2, h3⟩ := S0.out.h
    have rk := S0.out.k
    have rg := S0.out.g
    go_wp2_with fail
    rw [← HW.out]
    clear r0 r1 r2 r3 h0 h1 h2 h3 rk rg
    refine (C.out _ S0.out.b).mono ?_
    rintro e w1 ⟨rfl, hb⟩
    have S1 : Hid (TB w w1 0 0 0 0) := S0.out.on hb
    clear hb
    obtain ⟨r0, r1, r2, r3⟩ := S1.out.r
    obtain ⟨h0, h1, h2, h3⟩ := S1.out.h
    have rk := S1.out.k
    have rg := S1.out.g
    go_wp2_with fail
    refine bodyPost_ret (v := cv 0 0 0 0) (by simp [results, Try.results8, go_sem, r0, r1, r2, r3]) rfl ⟨rfl, ?_⟩
    have hb := S1.out.b
    repeat' first | exact hb | refine Below.setCell ?_ (by simp <;> omega) _
  · have r := (okT_iff L).mp ho
    rw [ho] at C
    have e0 : (if true = true then cv (cn (pH L p) L.length) (cn (pM L p) L.length) (cn (pF L p) L.length) (cn (pN L p) L.length) else cv 0 0 0 0) = cv (cn (pH L p) L.length) (cn (pM L p) L.length) (cn (pF L p) L.length) (cn (pN L p) L.length) := rfl
    rw [e0]
    have n2 := r.1
    clear ho e0 r hf
    obtain ⟨n, hn⟩ : ∃ n, n = L.length := ⟨_, rfl⟩
    rw [← hn] at C HC HA HB n2 ⊢
    clear hn
    go_enter Try.func8, Try.ntmps8
    obtain ⟨r0, r1, r2, r3⟩ := S0.out.r
    obtain ⟨h0, h1, h2, h3⟩ := S0.out.h
    have rk := S0.out.k
    have rg := S0.out.g
    go_wp2_with fail
    rw [← HW.out]
    clear r0 r1 r2 r3 h0 h1 h2 h3 rk rg
    refine (C.out _ S0.out.b).mono ?_
    rintro e w1 ⟨rfl, hb⟩
    have S1 : Hid (TB w w1 0 0 0 0) := S0.out.on hb
    clear hb
    obtain ⟨r0, r1, r2, r3⟩ := S1.out.r
    obtain ⟨h0, h1, h2, h3⟩ := S1.out.h
    have rk := S1.out.k
    have rg := S1.out.g
    go_wp2_with fail
    clear r0 r1 r2 r3 h0 h1 h2 h3 rk rg
    go_loopw [16] (fun i wr => ∃ k : Nat, k ≤ n ∧ i = .int .i64 k ∧ Hid (TB w wr (cn (pH L p) k) (cn (pM L p) k) (cn (pF L p) k) (cn (pN L p) k))) (fun i _ => n - (intOf i).toNat)
    case atStart => exact ⟨0, by omega, rfl, S1⟩
    case round =>
      obtain ⟨k, hk, rfl, S⟩ := hrel
      by_cases hlt : k < n
      · have hx := HA.out (by omega)
        subst hx
        obtain ⟨r0, r1, r2, r3⟩ := S.out.r
        obtain ⟨h0, h1, h2, h3⟩ := S.out.h
        have rk := S.out.k
        have rg := S.out.g
        have i1 : (0 : Int) ≤ (k : Int) := by omega
        have i2 : (k : Int) < (n : Int) := by omega
        have y0 := cn_bd (pH L p) k
        have y1 := cn_bd (pM L p) k
        have y2 := cn_bd (pF L p) k
        have y3 := cn_bd (pN L p) k
        obtain ⟨q0, q1⟩ := HC.out k hlt wr S.out.b
        cases hh : Pb.c1 L k
        · by_cases hy : p ≤ Pb.c0 L k
          · skip
            have w0 : pH L p k = false := by unfold pH; rw [hh, decide_eq_true hy]; rfl
            have w1 : pM L p k = false := by unfold pM; rw [hh, decide_eq_true hy]; rfl
            have w2 : pF L p k = true := by unfold pF; rw [hh, decide_eq_true hy]; rfl
            have w3 : pN L p k = false := by unfold pN; rw [hh, decide_eq_true hy]; rfl
            have g0 : cn (pH L p) (k + 1) = cn (pH L p) k := cn_no w0
            have g1 : cn (pM L p) (k + 1) = cn (pM L p) k := cn_no w1
            have g2 : cn (pF L p) (k + 1) = cn (pF L p) k + 1 := cn_yes w2
            have g3 : cn (pN L p) (k + 1) = cn (pN L p) k := cn_no w3
            rw [hh] at q1
            have G : Hid (cn (pH L p) (k + 1) = cn (pH L p) k ∧ cn (pM L p) (k + 1) = cn (pM L p) k ∧ cn (pF L p) (k + 1) = cn (pF L p) k + 1 ∧ cn (pN L p) (k + 1) = cn (pN L p) k) := ⟨g0, g1, g2, g3⟩
            clear hh w0 w1 w2 w3 g0 g1 g2 g3
            generalize cn (pH L p) k = x0 at *
            generalize cn (pM L p) k = x1 at *
            generalize cn (pF L p) k = x2 at *
            generalize cn (pN L p) k = x3 at *
            generalize Pb.c0 L k = z at *
            have S2 : Hid (TB w (wr.alloc (Obj.cells #[.int .i64 z, .bool false] 34)) x0 x1 x2 x3) := S.out.on ((Below.refl _ _).alloc (Nat.le_refl _) _)
            have zz := S.out.z
            have l1 : w.heap.size + 1 < wr.heap.size := by omega
            have l2 : ¬ w.heap.size + 1 = wr.heap.size := by omega
            obtain ⟨t0, t1, t2, t3⟩ := S2.out.h
            have tg := S2.out.g
            go_wp2_with fail
            go_roundw
            case rel =>
              refine ⟨k + 1, by omega, by go_num, ?_⟩
              show TB _ _ _ _ _ _
              rw [G.out.1, G.out.2.1, G.out.2.2.1, G.out.2.2.2]
              exact (S.out.p2 _).on ((Below.refl _ _).alloc (Nat.le_refl _) _)
            case measure => simp [intOf]; omega
          · skip
            have w0 : pH L p k = false := by unfold pH; rw [hh, decide_eq_false hy]; rfl
            have w1 : pM L p k = false := by unfold pM; rw [hh, decide_eq_false hy]; rfl
            have w2 : pF L p k = false := by unfold pF; rw [hh, decide_eq_false hy]; rfl
            have w3 : pN L p k = true := by unfold pN; rw [hh, decide_eq_false hy]; rfl
            have g0 : cn (pH L p) (k + 1) = cn (pH L p) k := cn_no w0
            have g1 : cn (pM L p) (k + 1) = cn (pM L p) k := cn_no w1
            have g2 : cn (pF L p) (k + 1) = cn (pF L p) k := cn_no w2
            have g3 : cn (pN L p) (k + 1) = cn (pN L p) k + 1 := cn_yes w3
            rw [hh] at q1
            have G : Hid (cn (pH L p) (k + 1) = cn (pH L p) k ∧ cn (pM L p) (k + 1) = cn (pM L p) k ∧ cn (pF L p) (k + 1) = cn (pF L p) k ∧ cn (pN L p) (k + 1) = cn (pN L p) k + 1) := ⟨g0, g1, g2, g3⟩
            clear hh w0 w1 w2 w3 g0 g1 g2 g3
            generalize cn (pH L p) k = x0 at *
            generalize cn (pM L p) k = x1 at *
            generalize cn (pF L p) k = x2 at *
            generalize cn (pN L p) k = x3 at *
            generalize Pb.c0 L k = z at *
            have S2 : Hid (TB w (wr.alloc (Obj.cells #[.int .i64 z, .bool false] 34)) x0 x1 x2 x3) := S.out.on ((Below.refl _ _).alloc (Nat.le_refl _) _)
            have zz := S.out.z
            have l1 : w.heap.size + 1 < wr.heap.size := by omega
            have l2 : ¬ w.heap.size + 1 = wr.heap.size := by omega
            obtain ⟨t0, t1, t2, t3⟩ := S2.out.h
            have tg := S2.out.g
            go_wp2_with fail
            go_roundw
            case rel =>
              refine ⟨k + 1, by omega, by go_num, ?_⟩
              show TB _ _ _ _ _ _
              rw [G.out.1, G.out.2.1, G.out.2.2.1, G.out.2.2.2]
              exact (S.out.p3 _).on ((Below.refl _ _).alloc (Nat.le_refl _) _)
            case measure => simp [intOf]; omega
        · by_cases hy : p ≤ Pb.c0 L k
          · skip
            have w0 : pH L p k = true := by unfold pH; rw [hh, decide_eq_true hy]; rfl
            have w1 : pM L p k = false := by unfold pM; rw [hh, decide_eq_true hy]; rfl
            have w2 : pF L p k = false := by unfold pF; rw [hh, decide_eq_true hy]; rfl
            have w3 : pN L p k = false := by unfold pN; rw [hh, decide_eq_true hy]; rfl
            have g0 : cn (pH L p) (k + 1) = cn (pH L p) k + 1 := cn_yes w0
            have g1 : cn (pM L p) (k + 1) = cn (pM L p) k := cn_no w1
            have g2 : cn (pF L p) (k + 1) = cn (pF L p) k := cn_no w2
            have g3 : cn (pN L p) (k + 1) = cn (pN L p) k := cn_no w3
            rw [hh] at q1
            have G : Hid (cn (pH L p) (k + 1) = cn (pH L p) k + 1 ∧ cn (pM L p) (k + 1) = cn (pM L p) k ∧ cn (pF L p) (k + 1) = cn (pF L p) k ∧ cn (pN L p) (k + 1) = cn (pN L p) k) := ⟨g0, g1, g2, g3⟩
            clear hh w0 w1 w2 w3 g0 g1 g2 g3
            generalize cn (pH L p) k = x0 at *
            generalize cn (pM L p) k = x1 at *
            generalize cn (pF L p) k = x2 at *
            generalize cn (pN L p) k = x3 at *
            generalize Pb.c0 L k = z at *
            have S2 : Hid (TB w (wr.alloc (Obj.cells #[.int .i64 z, .bool true] 34)) x0 x1 x2 x3) := S.out.on ((Below.refl _ _).alloc (Nat.le_refl _) _)
            have zz := S.out.z
            have l1 : w.heap.size + 1 < wr.heap.size := by omega
            have l2 : ¬ w.heap.size + 1 = wr.heap.size := by omega
            obtain ⟨t0, t1, t2, t3⟩ := S2.out.h
            have tg := S2.out.g
            go_wp2_with fail
            go_roundw
            case rel =>
              refine ⟨k + 1, by omega, by go_num, ?_⟩
              show TB _ _ _ _ _ _
              rw [G.out.1, G.out.2.1, G.out.2.2.1, G.out.2.2.2]
              exact (S.out.p0 _).on ((Below.refl _ _).alloc (Nat.le_refl _) _)
            case measure => simp [intOf]; omega
          · skip
            have w0 : pH L p k = false := by unfold pH; rw [hh, decide_eq_false hy]; rfl
            have w1 : pM L p k = true := by unfold pM; rw [hh, decide_eq_false hy]; rfl
            have w2 : pF L p k = false := by unfold pF; rw [hh, decide_eq_false hy]; rfl
            have w3 : pN L p k = false := by unfold pN; rw [hh, decide_eq_false hy]; rfl
            have g0 : cn (pH L p) (k + 1) = cn (pH L p) k := cn_no w0
            have g1 : cn (pM L p) (k + 1) = cn (pM L p) k + 1 := cn_yes w1
            have g2 : cn (pF L p) (k + 1) = cn (pF L p) k := cn_no w2
            have g3 : cn (pN L p) (k + 1) = cn (pN L p) k := cn_no w3
            rw [hh] at q1
            have G : Hid (cn (pH L p) (k + 1) = cn (pH L p) k ∧ cn (pM L p) (k + 1) = cn (pM L p) k + 1 ∧ cn (pF L p) (k + 1) = cn (pF L p) k ∧ cn (pN L p) (k + 1) = cn (pN L p) k) := ⟨g0, g1, g2, g3⟩
            clear hh w0 w1 w2 w3 g0 g1 g2 g3
            generalize cn (pH L p) k = x0 at *
            generalize cn (pM L p) k = x1 at *
            generalize cn (pF L p) k = x2 at *
            generalize cn (pN L p) k = x3 at *
            generalize Pb.c0 L k = z at *
            have S2 : Hid (TB w (wr.alloc (Obj.cells #[.int .i64 z, .bool true] 34)) x0 x1 x2 x3) := S.out.on ((Below.refl _ _).alloc (Nat.le_refl _) _)
            have zz := S.out.z
            have l1 : w.heap.size + 1 < wr.heap.size := by omega
            have l2 : ¬ w.heap.size + 1 = wr.heap.size := by omega
            obtain ⟨t0, t1, t2, t3⟩ := S2.out.h
            have tg := S2.out.g
            go_wp2_with fail
            go_roundw
            case rel =>
              refine ⟨k + 1, by omega, by go_num, ?_⟩
              show TB _ _ _ _ _ _
              rw [G.out.1, G.out.2.1, G.out.2.2.1, G.out.2.2.2]
              exact (S.out.p1 _).on ((Below.refl _ _).alloc (Nat.le_refl _) _)
            case measure => simp [intOf]; omega
      · have hkn : k = n := by omega
        subst hkn
        obtain ⟨x0, X0⟩ : ∃ x, cn (pH L p) k = x := ⟨_, rfl⟩
        obtain ⟨x1, X1⟩ : ∃ x, cn (pM L p) k = x := ⟨_, rfl⟩
        obtain ⟨x2, X2⟩ : ∃ x, cn (pF L p) k = x := ⟨_, rfl⟩
        obtain ⟨x3, X3⟩ : ∃ x, cn (pN L p) k = x := ⟨_, rfl⟩
        rw [X0, X1, X2, X3] at S
        have HX : Hid (cv x0 x1 x2 x3 = cv (cn (pH L p) k) (cn (pM L p) k) (cn (pF L p) k) (cn (pN L p) k)) := (by show _ = _; rw [X0, X1, X2, X3])
        clear X0 X1 X2 X3
        obtain ⟨r0, r1, r2, r3⟩ := S.out.r
        obtain ⟨h0, h1, h2, h3⟩ := S.out.h
        have rk := S.out.k
        have rg := S.out.g
        go_wp2_with fail
        refine bodyPost_ret (v := cv x0 x1 x2 x3) (by simp [results, Try.results8, go_sem, r0, r1, r2, r3]) rfl ⟨by rw [HX.out], ?_⟩
        have hb := S.out.b
        repeat' first | exact hb | refine Below.setCell ?_ (by simp <;> omega) _
end Go.Proofs.Ytilkccilahglcaa.Br