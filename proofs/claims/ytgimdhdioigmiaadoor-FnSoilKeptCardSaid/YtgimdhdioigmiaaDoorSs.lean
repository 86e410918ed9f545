/- Soils: the step of a right soil: the program. -/
import Derived.Test.YtgimdhdioigmiaaDoorSr
namespace Go.Proofs.YtgimdhdioigmiaaDoor.So
open Go.ChangeShapes Go.WideShapes Go.ChangeAt Go.RowKit

theorem okT_parts {a b c d f t r : Int} (h : okT a b c d f t r = true) : okB a b c d f = true ∧ inn t (-800) 800 = true ∧ inn r 0 5000 = true ∧ f ≤ 1000000000000 - r := by
  unfold okT at h
  simp only [Bool.and_eq_true, decide_eq_true_eq] at h
  exact h
theorem ml_bd {a t : Int} (ha : 0 ≤ a) (ht : 0 < t) : 0 ≤ ml a t ∧ ml a t ≤ a ∧ ml a t ≤ 3 * t / 10 := by unfold ml; omega
theorem dr_bd {b t : Int} (hb : 0 ≤ b) (ht : 0 < t) : 0 ≤ dr b t ∧ dr b t ≤ b ∧ dr b t ≤ t / 20 := by unfold dr; omega
theorem a1_bd {a t r : Int} (ha : 0 ≤ a ∧ a ≤ 1000000000000) (hr : 0 ≤ r ∧ r ≤ 5000) : 0 ≤ a1 a t r ∧ a1 a t r ≤ 1000000005000 := by unfold a1; split <;> omega
theorem b1_bd {b t r : Int} (hb : 0 ≤ b ∧ b ≤ 400) (hr : 0 ≤ r ∧ r ≤ 5000) : 0 ≤ b1 b t r ∧ b1 b t r ≤ 5400 := by unfold b1; split <;> omega


set_option maxHeartbeats 1000000 in
theorem istep_yes (a b c d f t r : Int) (w : World) (h : okT a b c d f t r = true) : Calls Tryd.prog 7 #[sv a b c d f, .int .i64 t, .int .i64 r] w fun e w' => e = .returned (.tuple #[res a b c d f t r, .bool true]) ∧ Below w.heap.size w w' := by
  obtain ⟨o0, o1, o2, o3⟩ := okT_parts h
  obtain ⟨pa, pb, pc, pd, pf, pe⟩ := okB_parts o0
  clear pe
  have pt := (inn_iff _ _ _).mp o1
  have pr := (inn_iff _ _ _).mp o2
  obtain ⟨W, hW⟩ : ∃ W, W = (w.alloc (Obj.cells #[.int .i64 a, .int .i64 b, .int .i64 c, .int .i64 d, .int .i64 f] 25)).alloc (Obj.cells #[.int .i64 0, .int .i64 0, .int .i64 0, .int .i64 0, .int .i64 0] 25) := ⟨_, rfl⟩
  have HW : Hid (W = (w.alloc (Obj.cells #[.int .i64 a, .int .i64 b, .int .i64 c, .int .i64 d, .int .i64 f] 25)).alloc (Obj.cells #[.int .i64 0, .int .i64 0, .int .i64 0, .int .i64 0, .int .i64 0] 25)) := hW
  have S0 : Hid (SB w W a b c d f) := (by show SB _ _ _ _ _ _ _; rw [hW]; exact SB.start w a b c d f)
  have P0 : Hid (Calls Tryd.prog 15 #[sv a b c d f] W fun e w' => e = .returned (.bool (okB a b c d f)) ∧ SB w w' a b c d f) := by
    refine (iok_any a b c d f W).mono ?_
    rintro e w' ⟨rfl, hb⟩
    exact ⟨rfl, S0.out.on hb⟩
  have P1 : Hid (∀ w, Calls Tryd.prog 16 #[.int .i64 t, .int .i64 (-800), .int .i64 800] w fun e w' => e = .returned (.bool (inn t (-800) 800)) ∧ w' = w) := fun w => i_in _ _ _ w
  have P2 : Hid (∀ w, Calls Tryd.prog 16 #[.int .i64 r, .int .i64 0, .int .i64 5000] w fun e w' => e = .returned (.bool (inn r 0 5000)) ∧ w' = w) := fun w => i_in _ _ _ w
  clear hW
  rw [o0] at P0
  rw [o1] at P1
  rw [o2] at P2
  have A := a1_bd (t := t) pa pr
  have Bb := b1_bd (t := t) pb pr
  have P3 : Hid (∀ w, Calls Tryd.prog 17 #[sv a b c d f, .int .i64 t, .int .i64 r] w fun e w' => e = .returned (sv (a1 a t r) (b1 b t r) c d (f + r)) ∧ Below w.heap.size w w') := fun w => rained_any a b c d f t r w (by omega) (by omega) (by omega) pr
  have gz : ¬ 1000000000000 - r < f := by omega
  clear o0 o1 o2 o3
  by_cases g : 0 < t
  · have em : ml1 a t r = ml (a1 a t r) t := if_pos g
    have ed : dr1 a b t r = dr (b1 b t r + ml (a1 a t r) t) t := (by unfold dr1 b2; rw [if_pos g, em])
    have mb := ml_bd A.1 g
    have db := dr_bd (b := b1 b t r + ml (a1 a t r) t) (by omega) g
    have P4 : Hid (∀ w, Calls Tryd.prog 18 #[sv (a1 a t r) (b1 b t r) c d (f + r), .int .i64 t] w fun e w' => e = .returned (sv (a1 a t r - ml (a1 a t r) t) (b1 b t r + ml (a1 a t r) t - dr (b1 b t r + ml (a1 a t r) t) t) c (d + dr (b1 b t r + ml (a1 a t r) t) t) (f + r)) ∧ Below w.heap.size w w') := fun w => warmed_any _ _ c d (f + r) t w (by omega) (by omega) (by omega) (by omega)
    have P5 : Hid (∀ w, Calls Tryd.prog 19 #[sv (a1 a t r - ml (a1 a t r) t) (b1 b t r + ml (a1 a t r) t - dr (b1 b t r + ml (a1 a t r) t) t) c (d + dr (b1 b t r + ml (a1 a t r) t) t) (f + r)] w fun e w' => e = .returned (res a b c d f t r) ∧ Below w.heap.size w w') := fun w => by
      have e := seeped_any (a1 a t r - ml (a1 a t r) t) (b1 b t r + ml (a1 a t r) t - dr (b1 b t r + ml (a1 a t r) t) t) c (d + dr (b1 b t r + ml (a1 a t r) t) t) (f + r) w (by omega) pc (by omega)
      unfold res b3 b2 d3
      rw [ed, em]
      exact e
    generalize hB : b1 b t r + ml (a1 a t r) t - dr (b1 b t r + ml (a1 a t r) t) t = vb at *
    generalize hD : d + dr (b1 b t r + ml (a1 a t r) t) t = vd at *
    generalize hA : a1 a t r - ml (a1 a t r) t = va at *
    obtain ⟨x0, x1, x2, x3, x4, hx⟩ : ∃ x0 x1 x2 x3 x4, res a b c d f t r = sv x0 x1 x2 x3 x4 := ⟨_, _, _, _, _, rfl⟩
    rw [hx] at P5 ⊢
    clear hB hD hA em ed mb db hx A Bb
    generalize a1 a t r = ua at *
    generalize b1 b t r = ub at *
    generalize f + r = uf at *
    go_enter Tryd.func7, Tryd.ntmps7
    obtain ⟨r0, r1, r2, r3, r4⟩ := S0.out.r
    obtain ⟨h0, h1, h2, h3, h4⟩ := S0.out.h
    have rk := S0.out.k
    have rg := S0.out.g
    go_wp2_with fail
    rw [← HW.out]
    go_wp2_with fail
    clear r0 r1 r2 r3 r4 h0 h1 h2 h3 h4 rk rg
    refine P0.out.mono ?_
    rintro e w1 ⟨rfl, hb⟩
    have S1 : Hid (SB w w1 a b c d f) := hb
    clear hb
    obtain ⟨r0, r1, r2, r3, r4⟩ := S1.out.r
    obtain ⟨h0, h1, h2, h3, h4⟩ := S1.out.h
    have rk := S1.out.k
    have rg := S1.out.g
    go_wp2_with fail
    refine (P1.out _).mono ?_
    rintro e w2 ⟨rfl, hw⟩
    subst hw
    go_wp2_with fail
    refine (P2.out _).mono ?_
    rintro e w3 ⟨rfl, hw⟩
    subst hw
    go_wp2_with fail
    clear r0 r1 r2 r3 r4 h0 h1 h2 h3 h4 rk rg
    refine (P3.out _).mono ?_
    rintro e w4 ⟨rfl, hb⟩
    have S4 : Hid (SB w w4 a b c d f) := S1.out.on hb
    clear hb
    obtain ⟨r0, r1, r2, r3, r4⟩ := S4.out.r
    obtain ⟨h0, h1, h2, h3, h4⟩ := S4.out.h
    have rk := S4.out.k
    have rg := S4.out.g
    go_wp2_with fail
    have S5 : Hid (SB _ _ ua ub c d uf) := S4.out.put ua ub c d uf
    clear r0 r1 r2 r3 r4 h0 h1 h2 h3 h4 rk rg
    refine (P4.out _).mono ?_
    rintro e w6 ⟨rfl, hb⟩
    have S6 : Hid (SB w w6 ua ub c d uf) := S5.out.on hb
    clear hb
    obtain ⟨r0, r1, r2, r3, r4⟩ := S6.out.r
    obtain ⟨h0, h1, h2, h3, h4⟩ := S6.out.h
    have rk := S6.out.k
    have rg := S6.out.g
    go_wp2_with fail
    have S7 : Hid (SB _ _ va vb c vd uf) := S6.out.put va vb c vd uf
    clear r0 r1 r2 r3 r4 h0 h1 h2 h3 h4 rk rg
    refine (P5.out _).mono ?_
    rintro e w8 ⟨rfl, hb⟩
    have S8 : Hid (SB w w8 va vb c vd uf) := S7.out.on hb
    clear hb
    obtain ⟨r0, r1, r2, r3, r4⟩ := S8.out.r
    obtain ⟨h0, h1, h2, h3, h4⟩ := S8.out.h
    have rk := S8.out.k
    have rg := S8.out.g
    go_wp2_with fail
    refine bodyPost_ret (v := .tuple #[sv x0 x1 x2 x3 x4, .bool true]) (by simp [results, Tryd.results7, go_sem, h0, h1, h2, h3, h4]) rfl ⟨rfl, ?_⟩
    have hb := S8.out.b
    repeat' first | exact hb | refine Below.setCell ?_ (by simp <;> omega) _
  · have em : ml1 a t r = 0 := if_neg g
    have ed : dr1 a b t r = 0 := if_neg g
    have P5 : Hid (∀ w, Calls Tryd.prog 19 #[sv (a1 a t r) (b1 b t r) c d (f + r)] w fun e w' => e = .returned (res a b c d f t r) ∧ Below w.heap.size w w') := fun w => by
      have e := seeped_any (a1 a t r) (b1 b t r) c d (f + r) w (by omega) pc (by omega)
      unfold res b3 b2 d3
      rw [ed, em, Int.sub_zero, Int.sub_zero, Int.add_zero, Int.add_zero]
      exact e
    obtain ⟨x0, x1, x2, x3, x4, hx⟩ : ∃ x0 x1 x2 x3 x4, res a b c d f t r = sv x0 x1 x2 x3 x4 := ⟨_, _, _, _, _, rfl⟩
    rw [hx] at P5 ⊢
    clear em ed hx A Bb
    generalize a1 a t r = ua at *
    generalize b1 b t r = ub at *
    generalize f + r = uf at *
    go_enter Tryd.func7, Tryd.ntmps7
    obtain ⟨r0, r1, r2, r3, r4⟩ := S0.out.r
    obtain ⟨h0, h1, h2, h3, h4⟩ := S0.out.h
    have rk := S0.out.k
    have rg := S0.out.g
    go_wp2_with fail
    rw [← HW.out]
    go_wp2_with fail
    clear r0 r1 r2 r3 r4 h0 h1 h2 h3 h4 rk rg
    refine P0.out.mono ?_
    rintro e w1 ⟨rfl, hb⟩
    have S1 : Hid (SB w w1 a b c d f) := hb
    clear hb
    obtain ⟨r0, r1, r2, r3, r4⟩ := S1.out.r
    obtain ⟨h0, h1, h2, h3, h4⟩ := S1.out.h
    have rk := S1.out.k
    have rg := S1.out.g
    go_wp2_with fail
    refine (P1.out _).mono ?_
    rintro e w2 ⟨rfl, hw⟩
    subst hw
    go_wp2_with fail
    refine (P2.out _).mono ?_
    rintro e w3 ⟨rfl, hw⟩
    subst hw
    go_wp2_with fail
    clear r0 r1 r2 r3 r4 h0 h1 h2 h3 h4 rk rg
    refine (P3.out _).mono ?_
    rintro e w4 ⟨rfl, hb⟩
    have S4 : Hid (SB w w4 a b c d f) := S1.out.on hb
    clear hb
    obtain ⟨r0, r1, r2, r3, r4⟩ := S4.out.r
    obtain ⟨h0, h1, h2, h3, h4⟩ := S4.out.h
    have rk := S4.out.k
    have rg := S4.out.g
    go_wp2_with fail
    have S5 : Hid (SB _ _ ua ub c d uf) := S4.out.put ua ub c d uf
    clear r0 r1 r2 r3 r4 h0 h1 h2 h3 h4 rk rg
    refine (P5.out _).mono ?_
    rintro e w8 ⟨rfl, hb⟩
    have S8 : Hid (SB w w8 ua ub c d uf) := S5.out.on hb
    clear hb
    obtain ⟨r0, r1, r2, r3, r4⟩ := S8.out.r
    obtain ⟨h0, h1, h2, h3, h4⟩ := S8.out.h
    have rk := S8.out.k
    have rg := S8.out.g
    go_wp2_with fail
    refine bodyPost_ret (v := .tuple #[sv x0 x1 x2 x3 x4, .bool true]) (by simp [results, Tryd.results7, go_sem, h0, h1, h2, h3, h4]) rfl ⟨rfl, ?_⟩
    have hb := S8.out.b
    repeat' first | exact hb | refine Below.setCell ?_ (by simp <;> omega) _
end Go.Proofs.YtgimdhdioigmiaaDoor.So