/- Rotate: the model; what is refused; the law. -/
import Derived.Test.YtchglmmeejonjaaRi
import Derived.Deep.RegionHeldLaw
import Derived.Deep.AppendLies
namespace Go.Proofs.Ytchglmmeejonjaa.Ro
open Go.ChangeShapes Go.WideShapes Go.ChangeAt Go.RowKit
open Go.Proofs.Ytchglmmeejonjaa.Flt Go.Proofs.Ytchglmmeejonjaa.Wa Go.Proofs.Ytchglmmeejonjaa.An Go.Proofs.Ytchglmmeejonjaa.Co Go.Proofs.Ytchglmmeejonjaa.Ho Go.Proofs.Ytchglmmeejonjaa.Rl

attribute [local go_sem] Flt.run_store_float
attribute [local go_sem ↓] Go.wp_at_zero Go.wp_at_succ
set_option maxRecDepth 20000 in
set_option maxHeartbeats 2000000 in
theorem sro_yes (L : Co.Ls) (h : Int) (v : Value) (w : World) (hL : Co.Reads w v L) (hok : okP L = true) (hh : inn h (-1000000) 1000000 = true) :
    Calls Try.prog 12 #[v, .int .i64 h] w fun e w' => ∃ v' C, e = .returned v' ∧ Rl.Tells C (rf L h) L.length ∧ Co.Row w' w.heap.size v' C ∧ Below w.heap.size w w' := by
  have hf := hL.fits
  have o := (okP_iff L).1 hok
  obtain ⟨i0, hi, hz0, hz1, hz2⟩ := info_parts Co.Try.infoE
  obtain ⟨W0, hW0⟩ : ∃ W0, W0 = w.alloc (Obj.cells #[] 46) := ⟨_, rfl⟩
  have HW0 : Hid (W0 = w.alloc (Obj.cells #[] 46)) := hW0
  have BW0 : Below w.heap.size w W0 := (by rw [hW0]; exact (Below.refl _ _).alloc (Nat.le_refl _) _)
  have RW0 : Hid (Co.Row W0 w.heap.size (.slice (some ⟨w.heap.size, 0, none⟩) 0 0) []) := (by rw [hW0]; exact ⟨[], World.ownsRow_lit w #[] 0 (Nat.le_refl _) (Nat.zero_le _) rfl, fun i hi => absurd hi (by simp)⟩)
  have C : Hid (Calls Try.prog 21 #[v] W0 fun e w' => e = .returned (.bool true) ∧ Below W0.heap.size W0 w') := (by have := sok_any L v W0 (hL.on BW0); rw [hok] at this; exact this)
  have C2 : Hid (∀ w, Calls Try.prog 22 #[.int .i64 h] w fun e w' => e = .returned (.bool true) ∧ w' = w) := fun w => (by have := shour h w; rw [hh] at this; exact this)
  have HW : Hid (∀ i, i < L.length → IntKind.i64.wrap (Co.c0 L i * h) = Co.c0 L i * h) := fun i hi => turn_in (o.2 i hi) hh
  have HT : Hid (∀ k w, Calls Try.prog 25 #[.int .i64 k] w fun e w' => ∃ a b, e = .returned (pr a b) ∧ cn a = sine ((k + 9) % 36) ∧ cn b = sine (k % 36) ∧ Below w.heap.size w w') := fun k w => sturn k w
  have HM : Hid (∀ a b c d w, Calls Try.prog 24 #[pr a b, pr c d] w fun e w' => ∃ x y, e = .returned (pr x y) ∧ cn x = mre (cn a) (cn b) (cn c) (cn d) ∧ cn y = mim (cn a) (cn b) (cn c) (cn d) ∧ Below w.heap.size w w') := fun a b c d w => smul a b c d w
  have AT : Hid (∀ w' i, Below w.heap.size w w' → i < L.length → ∃ b o cap, v = .slice (some ⟨b, o, none⟩) L.length cap ∧ b < w.heap.size ∧ Co.Cs w' b o L i) := fun w' i hb hi => by
    obtain ⟨b, o, cap, e, hbb, hc⟩ := at_of hL (by omega)
    exact ⟨b, o, cap, e, hbb, (hc i hi).below hb hbb⟩
  have l40 := o.1
  have HBW0 : Hid (Below w.heap.size w W0) := BW0
  obtain ⟨a, cap, rfl⟩ := hL.form
  obtain ⟨n, hn⟩ : ∃ n, n = L.length := ⟨_, rfl⟩
  rw [← hn] at AT HW hf C l40 ⊢
  clear hL hn o hok hh BW0 hW0
  go_enter Try.func12, Try.ntmps12
  go_wp2_with fail
  rw [← HW0.out]
  refine C.out.mono ?_
  rintro e w0 ⟨rfl, hb0⟩
  have B0 : Hid (Below w.heap.size w w0) := HBW0.out.trans (hb0.mono HBW0.out.size)
  have R0 : Hid (Co.Row w0 w.heap.size (.slice (some ⟨w.heap.size, 0, none⟩) 0 0) []) := RW0.out.on hb0
  clear hb0 HBW0 RW0
  go_wp2_with fail
  refine (C2.out _).mono ?_
  rintro e w2 ⟨rfl, hw⟩
  have hw' := hw.symm
  subst hw'
  go_wp2_with fail
  go_loopw [5, 6] (fun u i wr => ∃ k : Nat, k ≤ n ∧ i = .int .i64 k ∧ Hid (∃ D, Rl.Tells D (rf L h) k ∧ Co.Row wr w.heap.size u D) ∧ Hid (Below w.heap.size w wr)) (fun _ i _ => n - (intOf i).toNat)
  case atStart => exact ⟨0, by omega, rfl, ⟨[], ⟨rfl, fun i hi => absurd hi (by omega)⟩, R0.out⟩, B0⟩
  case round =>
    obtain ⟨k, hk, rfl, RR, BR⟩ := hrel
    obtain ⟨D, TD, RD⟩ := RR.out
    have HTD : Hid (Rl.Tells D (rf L h) k) := TD
    obtain ⟨sa, sc, hv⟩ := RD.form
    have hDl : D.length = k := TD.1
    rw [hDl] at hv
    subst hv
    by_cases hlt : k < n
    · obtain ⟨b, o, cp, e, bl, q0, q1, q2⟩ := AT.out wr k BR.out hlt
      simp at e
      obtain ⟨rfl, rfl⟩ := e
      have i1 : (0 : Int) ≤ (k : Int) := by omega
      have i2 : (k : Int) < (n : Int) := by omega
      have J1 := HW.out k hlt
      have HR : Hid ((rf L h k).1 = Co.c0 L k ∧ (rf L h k).2.1 = mre (cn (Co.c1 L k)) (cn (Co.c2 L k)) (sine ((Co.c0 L k * h + 9) % 36)) (sine ((Co.c0 L k * h) % 36)) ∧ (rf L h k).2.2 = mim (cn (Co.c1 L k)) (cn (Co.c2 L k)) (sine ((Co.c0 L k * h + 9) % 36)) (sine ((Co.c0 L k * h) % 36))) := ⟨rfl, rfl, rfl⟩
      generalize Co.c0 L k = z0 at *
      generalize Co.c1 L k = z1 at *
      generalize Co.c2 L k = z2 at *
      have HJ : Hid (IntKind.i64.wrap (z0 * h) = z0 * h) := J1
      obtain ⟨xs, O, G⟩ := RD
      rw [hDl] at O G
      have O' : Hid (wr.ownsRow w.heap.size 46 3 (.slice sa k sc) k xs) := O
      have G' : Hid (Co.Good xs D k) := G
      have OL : ∀ g, (Value.slice sa k sc).ownBlock = some g → w.heap.size ≤ g := fun g hg => (O.lt g hg).1
      have zr := BR.out.size
      have bwr : b < wr.heap.size := by omega
      clear O G TD RR hDl
      go_wp2_with fail
      go_region_held_law (fun w' => w'.cell? ⟨b, o + k * 3, none⟩ = some (.int .i64 z0) ∧ w'.cell? ⟨b, o + k * 3 + 1, none⟩ = some (.float .f64 z1) ∧ w'.cell? ⟨b, o + k * 3 + 2, none⟩ = some (.float .f64 z2)) (first | go_keep | (go_split_ands; refine ⟨?_, ?_, ?_⟩ <;> (rw [hgrow.cell_far _ (by simp; omega) (fun h => by have := OL _ h.symm; simp at this; omega)]; assumption)))
        (first
        | (go_at_call 25; refine (HT.out _ _).mono ?_; rintro e w1 ⟨t0, t1, rfl, ht0, ht1, hb1⟩; obtain ⟨p0, p1, p2, p3⟩ := keepD (b := b) (j := o + k * 3) (a := .int .i64 z0) (c := .float .f64 z1) (z := .float .f64 z2) hb1 (by first | omega | (simp; done) | (simp; omega)) (by go_simp) (by go_simp) (by go_simp); have R1 : Hid (w1.ownsRow w.heap.size 46 3 (.slice sa k sc) k xs) := Co.row_below (by exact O'.out) hb1; have B1 : Hid (Below w.heap.size w w1) := (BR.out.drew).trans (hb1.mono BR.out.size); have y1 := hb1.size)
        | (go_at_call 24; refine (HM.out _ _ _ _ _).mono ?_; rintro e w2 ⟨s0, s1, rfl, hs0, hs1, hb2⟩; obtain ⟨r0, r1, r2, r3⟩ := keepD (b := b) (j := o + k * 3) (a := .int .i64 z0) (c := .float .f64 z1) (z := .float .f64 z2) hb2 (by first | omega | (simp; done) | (simp; omega)) (by go_simp) (by go_simp) (by go_simp); have R2 : Hid (w2.ownsRow w.heap.size 46 3 (.slice sa k sc) k xs) := Co.row_below R1.out hb2; have B2 : Hid (Below w.heap.size w w2) := B1.out.trans (hb2.mono B1.out.size); have y2 := B2.out.size)
        | (refine step_append_lies _ (by rfl) _ _ 26 (by rfl) w.heap.size 46 i0 (.agg #[.int .i64 0, .float .f64 0, .float .f64 0]) 3 24 Try.underlying26 hi hz0 hz1 hz2 rfl (by decide) _ _ _ (by rfl) (R2.out.alloc _) ⟨w2.heap.size, 0, none⟩ 1 1 [.int .i64 z0, .float .f64 s0, .float .f64 s1] (by rfl) rfl (Co.cell_news w2 (.int .i64 z0) (.float .f64 s0) (.float .f64 s1) 46) (by intro u hu; simp at hu; rcases hu with rfl | rfl | rfl <;> rfl) (by decide) (by unfold maxLen; omega) (by omega) (by simp; omega) (w2.heap.size + 1) (by simp) ?_; intro g2 cap3 w5 hown hgrow hat hlt5))
      (try rw [HJ.out] at ht0 ht1)
      have RE : Hid (∃ D, Rl.Tells D (rf L h) (k + 1) ∧ Co.Row w5 w.heap.size (.slice (some ⟨g2, 0, none⟩) (k + 1) cap3) D) := (by
        have T2 := tells_snoc (z0 := z0) (z1 := s0) (z2 := s1) HTD.out HR.out.1.symm (by rw [hs0, ht0, ht1, HR.out.2.1]) (by rw [hs1, ht0, ht1, HR.out.2.2])
        have hl := HTD.out.1
        refine ⟨D ++ [(z0, s0, s1)], T2, xs ++ [.int .i64 z0, .float .f64 s0, .float .f64 s1], ?_, ?_⟩
        · rw [T2.1]; exact hown
        · have G2 := G'.out
          rw [← hl] at G2
          have := Co.good_snoc (z0 := z0) (z1 := s0) (z2 := s1) G2 (by rw [R2.out.1, hl])
          exact this)
      have B5 : Hid (Below w.heap.size w w5) := (B2.out.alloc B2.out.size _).grown hgrow (by simp; omega) (fun g hg => OL g hg)
      clear hown hgrow hat R1 B1 R2 B2 OL hb1 hb2 ht0 ht1 hs0 hs1
      go_wp2_with fail
      go_roundw
      case rel => exact ⟨k + 1, by omega, by go_num, RE, B5⟩
      case measure => simp [intOf]; omega
    · have hkn : k = n := by omega
      subst hkn
      have RD' : Hid (Co.Row wr w.heap.size (.slice sa k sc) D) := RD
      clear RD RR TD
      go_wp2_with fail
      go_ret
      exact ⟨_, D, rfl, HTD.out, RD'.out, BR.out⟩

set_option maxHeartbeats 1000000 in
theorem sro_no (L : Co.Ls) (h : Int) (v : Value) (w : World) (hL : Co.Reads w v L) (hno : okP L = false ∨ (okP L = true ∧ inn h (-1000000) 1000000 = false)) :
    Calls Try.prog 12 #[v, .int .i64 h] w fun e w' => ∃ v' C, e = .returned v' ∧ Rl.Tells C (rf L h) 0 ∧ Co.Row w' w.heap.size v' C ∧ Below w.heap.size w w' := by
  obtain ⟨W0, hW0⟩ : ∃ W0, W0 = w.alloc (Obj.cells #[] 46) := ⟨_, rfl⟩
  have HW0 : Hid (W0 = w.alloc (Obj.cells #[] 46)) := hW0
  have BW0 : Below w.heap.size w W0 := (by rw [hW0]; exact (Below.refl _ _).alloc (Nat.le_refl _) _)
  have RW0 : Hid (Co.Row W0 w.heap.size (.slice (some ⟨w.heap.size, 0, none⟩) 0 0) []) := (by rw [hW0]; exact ⟨[], World.ownsRow_lit w #[] 0 (Nat.le_refl _) (Nat.zero_le _) rfl, fun i hi => absurd hi (by simp)⟩)
  have C : Hid (Calls Try.prog 21 #[v] W0 fun e w' => e = .returned (.bool (okP L)) ∧ Below W0.heap.size W0 w') := sok_any L v W0 (hL.on BW0)
  have C2 : Hid (∀ w, Calls Try.prog 22 #[.int .i64 h] w fun e w' => e = .returned (.bool (inn h (-1000000) 1000000)) ∧ w' = w) := fun w => shour h w
  have HBW0 : Hid (Below w.heap.size w W0) := BW0
  obtain ⟨a, cap, rfl⟩ := hL.form
  clear hL BW0 hW0
  have T0 : Hid (Rl.Tells [] (rf L h) 0) := ⟨rfl, fun i hi => absurd hi (by omega)⟩
  generalize L.length = n at *
  rcases hno with ho | ⟨ho, hi⟩
  · rw [ho] at C
    clear ho
    go_enter Try.func12, Try.ntmps12
    go_wp2_with fail
    rw [← HW0.out]
    refine C.out.mono ?_
    rintro e w0 ⟨rfl, hb0⟩
    have B0 : Hid (Below w.heap.size w w0) := HBW0.out.trans (hb0.mono HBW0.out.size)
    have R0 : Hid (Co.Row w0 w.heap.size (.slice (some ⟨w.heap.size, 0, none⟩) 0 0) []) := RW0.out.on hb0
    clear hb0
    go_wp2_with fail
    go_ret
    exact ⟨_, [], rfl, T0.out, R0.out, B0.out⟩
  · rw [ho] at C
    rw [hi] at C2
    clear ho hi
    go_enter Try.func12, Try.ntmps12
    go_wp2_with fail
    rw [← HW0.out]
    refine C.out.mono ?_
    rintro e w0 ⟨rfl, hb0⟩
    have B0 : Hid (Below w.heap.size w w0) := HBW0.out.trans (hb0.mono HBW0.out.size)
    have R0 : Hid (Co.Row w0 w.heap.size (.slice (some ⟨w.heap.size, 0, none⟩) 0 0) []) := RW0.out.on hb0
    clear hb0
    go_wp2_with fail
    refine (C2.out _).mono ?_
    rintro e w2 ⟨rfl, hw⟩
    have hw' := hw.symm
    subst hw'
    go_wp2_with fail
    go_ret
    exact ⟨_, [], rfl, T0.out, R0.out, B0.out⟩

set_option maxHeartbeats 1000000 in
theorem iro_no (L : Co.Ls) (h : Int) (v : Value) (w : World) (hL : Co.Reads w v L) (hno : okP L = false ∨ (okP L = true ∧ inn h (-1000000) 1000000 = false)) :
    Calls Try.prog 13 #[v, .int .i64 h] w fun e w' => ∃ v' C, e = .returned v' ∧ Rl.Tells C (rf L h) 0 ∧ Co.Row w' w.heap.size v' C ∧ Below w.heap.size w w' := by
  have C : Hid (Calls Try.prog 27 #[v] w fun e w' => e = .returned (.bool (okP L)) ∧ Below w.heap.size w w') := iok_any L v w hL
  have C2 : Hid (∀ w, Calls Try.prog 28 #[.int .i64 h] w fun e w' => e = .returned (.bool (inn h (-1000000) 1000000)) ∧ w' = w) := fun w => ihour h w
  have T0 : Hid (Rl.Tells [] (rf L h) 0) := ⟨rfl, fun i hi => absurd hi (by omega)⟩
  have RN : Hid (∀ w' : World, Co.Row w' w.heap.size (.slice none 0 0) []) := fun w' => ⟨[], ⟨by simp, .inl ⟨rfl, rfl⟩⟩, fun i hi => absurd hi (by simp)⟩
  obtain ⟨a, cap, rfl⟩ := hL.form
  clear hL
  generalize L.length = n at *
  rcases hno with ho | ⟨ho, hi⟩
  · rw [ho] at C
    clear ho
    go_enter Try.func13, Try.ntmps13
    go_wp2_with fail
    refine C.out.mono ?_
    rintro e w0 ⟨rfl, hb0⟩
    have B0 : Hid (Below w.heap.size w w0) := hb0
    clear hb0
    go_wp2_with fail
    go_ret
    exact ⟨_, [], rfl, T0.out, RN.out _, B0.out⟩
  · rw [ho] at C
    rw [hi] at C2
    clear ho hi
    go_enter Try.func13, Try.ntmps13
    go_wp2_with fail
    refine C.out.mono ?_
    rintro e w0 ⟨rfl, hb0⟩
    have B0 : Hid (Below w.heap.size w w0) := hb0
    clear hb0
    go_wp2_with fail
    refine (C2.out _).mono ?_
    rintro e w2 ⟨rfl, hw⟩
    have hw' := hw.symm
    subst hw'
    go_wp2_with fail
    go_ret
    exact ⟨_, [], rfl, T0.out, RN.out _, B0.out⟩

theorem rotateAll (w : World) (v : Value) (L : Co.Ls) (hL : Co.Reads w v L) (_ : Co.Fit L) (h : Int) :
    Calls Try.prog 4 #[v, .int .i64 h] w fun e w' => e = .returned (.bool true) ∧ Below w.heap.size w w' := by
  cases ho : okP L
  · exact Rl.rotateLaw w v L hL (rf L h) 0 (by omega) h (fun w t hr => sro_no L h t w hr (Or.inl ho)) (fun w t hr => iro_no L h t w hr (Or.inl ho))
  · cases hi : inn h (-1000000) 1000000
    · exact Rl.rotateLaw w v L hL (rf L h) 0 (by omega) h (fun w t hr => sro_no L h t w hr (Or.inr ⟨ho, hi⟩)) (fun w t hr => iro_no L h t w hr (Or.inr ⟨ho, hi⟩))
    · have := ((okP_iff L).1 ho).1
      exact Rl.rotateLaw w v L hL (rf L h) L.length (by omega) h (fun w t hr => sro_yes L h t w hr ho hi) (fun w t hr => iro_yes L h t w hr ho hi)
end Go.Proofs.Ytchglmmeejonjaa.Ro
