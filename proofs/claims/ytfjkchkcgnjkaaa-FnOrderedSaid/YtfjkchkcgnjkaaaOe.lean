/- The law of ordered lists, walked. -/
import Derived.Test.YtfjkchkcgnjkaaaOd
namespace Go.Proofs.Ytfjkchkcgnjkaaa.Srt
open Go.ChangeShapes Go.WideShapes Go.ChangeAt Go.RowKit
open Go.Proofs.Ytfjkchkcgnjkaaa.Flt Go.Proofs.Ytfjkchkcgnjkaaa.St Go.Proofs.Ytfjkchkcgnjkaaa.Fls
attribute [local go_sem] Fls.run_store_flt

set_option maxRecDepth 20000 in
set_option maxHeartbeats 4000000 in
theorem orderedLaw (a : Option Addr) (len cap : Nat) (w : World) (hc : Fd.Code w a len cap) (hn : len < 9223372036854775808) : Calls Try.prog 4 #[.slice a len cap] w fun e w' => e = .returned (.bool true) ∧ Below w.heap.size w w' := by
  by_cases hl : 1048576 < len
  · have C : Hid (Calls Try.prog 11 #[.slice a len cap] w fun e w' => e = .returned (.bool true) ∧ w' = w) := big_yes a len cap w hl hn
    clear hc
    go_enter Try.func4, Try.ntmps4
    go_wp2_with fail
    refine C.out.mono ?_
    rintro e w1 ⟨rfl, hw⟩
    subst hw
    go_wp2_with fail
    go_ret
    exact ⟨rfl, Below.refl _ _⟩
  have C : Hid (Calls Try.prog 11 #[.slice a len cap] w fun e w' => e = .returned (.bool false) ∧ w' = w) := big_no a len cap w (by omega)
  obtain ⟨B, hB, hcod⟩ := hc.bytes
  obtain ⟨X, hX⟩ := Fd.order_draw B (by omega)
  rw [hB] at hX
  have D : Hid (∀ w', Below w.heap.size w w' → Calls Try.prog 12 #[.slice a len cap] w' fun e w'' => ∃ v C, e = .returned v ∧ C.map cn = X ∧ Bd C ∧ w''.ownsRow (w'.heap.size + 1) 31 1 v (List.length C) (flts C) ∧ Below w'.heap.size w' w'') := fun w' hb => hX a cap w' ((hcod.kept hb (Nat.le_refl _)).up hb.size)
  clear hc hX hcod hB
  go_enter Try.func4, Try.ntmps4
  go_wp2_with fail
  refine C.out.mono ?_
  rintro e w1 ⟨rfl, hw⟩
  have hw' := hw.symm
  subst hw'
  clear hw C
  go_wp2_with fail
  refine (D.out w (Below.refl _ _)).mono ?_
  rintro e w2 ⟨v, L, rfl, l1, l2, l3, l4⟩
  have B2 : Hid (Below w.heap.size w w2) := l4
  have HL : Hid (L.map cn = X ∧ Bd L) := ⟨l1, l2⟩
  have RL : Hid (w2.ownsRow (w.heap.size + 1) 31 1 v L.length (flts L)) := l3
  clear l1 l2 l3 l4
  obtain ⟨va, vc, hv⟩ := (reads_row RL.out).form
  subst hv
  obtain ⟨n, hnn⟩ : ∃ n, n = L.length := ⟨_, rfl⟩
  rw [← hnn] at RL ⊢
  have HN : Hid (n = L.length) := hnn
  clear hnn
  by_cases far : 300 < n
  · have i1 : (300 : Int) < (n : Int) := by omega
    go_wp2_with fail
    go_ret
    exact ⟨rfl, B2.out⟩
  have i1 : ¬ (300 : Int) < (n : Int) := by omega
  go_wp2_with fail
  refine (D.out w2 B2.out).mono ?_
  rintro e w3 ⟨v2, L2, rfl, l1, l2, l3, l4⟩
  have hl2 : L2.length = n := by
    have := congrArg List.length (l1.trans HL.out.1.symm)
    rw [List.length_map, List.length_map] at this
    exact this.trans HN.out.symm
  have B3 : Hid (Below w.heap.size w w3) := B2.out.trans (l4.mono B2.out.size)
  have RL3 : Hid (w3.ownsRow (w.heap.size + 1) 31 1 (.slice va n vc) n (flts L)) := row_below RL.out l4
  have OC : Hid (Calls Try.prog 7 #[v2] w3 fun e w' => ∃ v' M, e = .returned v' ∧ w'.ownsRow w3.heap.size 31 1 v' (List.length M) (flts M) ∧ LM n L M ∧ Below w3.heap.size w3 w') := (iorder_any L2 w3 v2 l2 (reads_row l3)).mono (by
    rintro e w' ⟨v', M, rfl, m1, m2, m3⟩
    exact ⟨v', M, rfl, m1, by rw [HN.out]; exact LM.of (HL.out.1.trans l1.symm) HL.out.2 l2 (by omega) m2, m3⟩)
  clear l1 l2 l3 l4 D RL hl2
  go_wp2_with fail
  refine OC.out.mono ?_
  rintro e w4 ⟨v3, M, rfl, m1, m2, m3⟩
  have B4 : Hid (Below w.heap.size w w4) := B3.out.trans (m3.mono B3.out.size)
  have RL4 : Hid (w4.ownsRow (w.heap.size + 1) 31 1 (.slice va n vc) n (flts L)) := row_below RL3.out m3
  have HM : Hid (LM n L M) := m2
  have hm : M.length = n := m2.lm
  rw [hm] at m1
  have RM : Hid (w4.ownsRow w3.heap.size 31 1 v3 n (flts M)) := m1
  obtain ⟨g2, o2, c2, hv3, k2⟩ := Cells.of (L := M) (by rw [hm]; exact m1)
  obtain ⟨g1, o1, c1, hv1, k1⟩ := Cells.of (L := L) (by rw [← HN.out]; exact RL4.out)
  rw [hm] at hv3 k2
  rw [← HN.out] at hv1 k1
  have K1 : Hid (∀ i, i < n → w4.cell? ⟨g1, o1 + i, none⟩ = some (.float .f64 (L.getD i 0))) := k1
  have K2 : Hid (∀ i, i < n → w4.cell? ⟨g2, o2 + i, none⟩ = some (.float .f64 (M.getD i 0))) := k2
  clear m1 m2 m3 OC RL3 RM RL4 k1 k2 hm
  by_cases h0 : n = 0
  · obtain ⟨z, cz, hz⟩ : ∃ z cz, v3 = .slice z 0 cz := by
      rcases hv3 with ⟨_, e⟩ | e
      · exact ⟨_, _, e⟩
      · exact ⟨_, c2, by rw [e, h0]⟩
    subst hz
    clear hv3 hv1 K1 K2
    have hs := h0
    subst hs
    go_wp2_with fail
    go_loopw [5] (fun i wr => i = .int .i64 0 ∧ wr = w4) (fun _ _ => 0)
    case atStart => exact ⟨rfl, rfl⟩
    case round =>
      obtain ⟨rfl, hw⟩ := hrel
      subst hw
      go_wp2_with fail
      go_ret
      exact ⟨rfl, B4.out⟩
  have e3 : v3 = .slice (some ⟨g2, o2, none⟩) n c2 := by rcases hv3 with ⟨e, _⟩ | e; exact absurd e h0; exact e
  have e1 : Value.slice va n vc = .slice (some ⟨g1, o1, none⟩) n c1 := by rcases hv1 with ⟨e, _⟩ | e; exact absurd e h0; exact e
  injection e1 with x1 _ x3
  subst x1 x3 e3
  have SA : Hid (∀ (x y : Nat) (w : World), x < 18446744073709551616 → y < 18446744073709551616 → Calls Try.prog 13 #[.float .f64 x, .float .f64 y] w fun e w' => e = .returned (.bool (sameB x y)) ∧ w' = w) := fun x y w h1 h2 => same_any x y w h1 h2
  have n300 : n ≤ 300 := by omega
  clear hv3 hv1 h0 far i1 HL
  go_wp2_with fail
  go_loopw [5] (fun i wr => ∃ q m : Nat, q ≤ n ∧ i = .int .i64 q ∧ Hid (wr = w4.drewN m)) (fun i _ => n - (intOf i).toNat)
  case atStart => exact ⟨0, 0, Nat.zero_le _, rfl, rfl⟩
  case round =>
    obtain ⟨q, m, hq, rfl, HR⟩ := hrel
    by_cases hlt : q < n
    · have i1 : (q : Int) < (n : Int) := by omega
      have i0 : (0 : Int) ≤ (q : Int) := by omega
      obtain ⟨wo, hwo⟩ : ∃ wo, wo = wr := ⟨_, rfl⟩
      subst hwo
      have CZ : Hid (0 = cnt L (L.getD q 0) 0 ∧ 0 = cnt M (L.getD q 0) 0) := ⟨(cnt_zero _ _).symm, (cnt_zero _ _).symm⟩
      go_wp2_with fail
      go_loopw [6, 7, 8] (fun sa sb sk wr => ∃ k m ca cb : Nat, k ≤ n ∧ ca ≤ k ∧ cb ≤ k ∧ sa = .int .i64 ca ∧ sb = .int .i64 cb ∧ sk = .int .i64 k ∧ Hid (ca = cnt L (L.getD q 0) k ∧ cb = cnt M (L.getD q 0) k) ∧ Hid (wr = w4.drewN m)) (fun _ _ sk _ => n - (intOf sk).toNat)
      case atStart => exact ⟨0, m, 0, 0, Nat.zero_le _, Nat.le_refl _, Nat.le_refl _, rfl, rfl, rfl, CZ, HR⟩
      case round =>
        clear CZ HR
        obtain ⟨k, m2, ca, cb, hk, hca, hcb, rfl, rfl, rfl, HC, HR⟩ := hrel
        by_cases hkn : k < n
        · have j1 : (k : Int) < (n : Int) := by omega
          have j0 : (0 : Int) ≤ (k : Int) := by omega
          have q1 : wr.cell? ⟨g1, o1 + k, none⟩ = some (.float .f64 (L.getD k 0)) := by rw [HR.out]; exact K1.out k hkn
          have q2 : wr.cell? ⟨g2, o2 + k, none⟩ = some (.float .f64 (M.getD k 0)) := by rw [HR.out]; exact K2.out k hkn
          have q3 : wr.cell? ⟨g1, o1 + q, none⟩ = some (.float .f64 (L.getD q 0)) := by rw [HR.out]; exact K1.out q hlt
          obtain ⟨s1, hs1⟩ : ∃ s, sameB (L.getD k 0) (L.getD q 0) = s := ⟨_, rfl⟩
          obtain ⟨s2, hs2⟩ : ∃ s, sameB (M.getD k 0) (L.getD q 0) = s := ⟨_, rfl⟩
          have S1 : Hid (∀ w, Calls Try.prog 13 #[.float .f64 (L.getD k 0), .float .f64 (L.getD q 0)] w fun e w' => e = .returned (.bool s1) ∧ w' = w) := fun w => by rw [← hs1]; exact SA.out _ _ w (bd_get HM.out.bl _) (bd_get HM.out.bl _)
          have S2 : Hid (∀ w, Calls Try.prog 13 #[.float .f64 (M.getD k 0), .float .f64 (L.getD q 0)] w fun e w' => e = .returned (.bool s2) ∧ w' = w) := fun w => by rw [← hs2]; exact SA.out _ _ w (bd_get HM.out.bm _) (bd_get HM.out.bl _)
          have T1 : Hid (cnt L (L.getD q 0) (k + 1) = ca + if s1 then 1 else 0) := by show _ = _; rw [cnt_step (by rw [HM.out.ln]; exact hkn), hs1, ← HC.out.1]
          have T2 : Hid (cnt M (L.getD q 0) (k + 1) = cb + if s2 then 1 else 0) := by show _ = _; rw [cnt_step (by rw [HM.out.lm]; exact hkn), hs2, ← HC.out.2]
          clear hs1 hs2 HC
          generalize L.getD k 0 = x at q1 S1
          generalize M.getD k 0 = y at q2 S2
          obtain ⟨z, hz⟩ : ∃ z, z = L.getD q 0 := ⟨_, rfl⟩
          rw [← hz] at q3 S1 S2
          have HZ : Hid (z = L.getD q 0) := hz
          clear hz
          cases s1
          · go_wp2_with fail
            go_quiet ((go_at_call 13; exact Calls.quiet_of_same (S1.out _)))
            have r2 : (wr.drewN nq).cell? ⟨g2, o2 + k, none⟩ = some (.float .f64 y) := q2
            have r3 : (wr.drewN nq).cell? ⟨g1, o1 + q, none⟩ = some (.float .f64 z) := q3
            have HR2 : Hid (wr.drewN nq = w4.drewN (m2 + nq)) := (by show _ = _; rw [HR.out]; exact World.drewN_drewN _ _ _)
            obtain ⟨m3, hm3⟩ : ∃ m3, m3 = m2 + nq := ⟨_, rfl⟩
            rw [← hm3] at HR2
            clear q1 q2 q3 HR S1 hm3
            generalize wr.drewN nq = wq at r2 r3 HR2 ⊢
            cases s2
            · go_wp2_with fail
              go_quiet ((go_at_call 13; exact Calls.quiet_of_same (S2.out _)))
              go_wp2_with fail
              go_roundw
              case rel => exact ⟨k + 1, m3 + nq, ca, cb, by omega, by omega, by omega, rfl, rfl, by go_num, ⟨T1.out.symm, T2.out.symm⟩, (by show _ = _; rw [HR2.out]; exact World.drewN_drewN _ _ _)⟩
              case measure => simp [intOf]; omega
            · go_wp2_with fail
              go_quiet ((go_at_call 13; exact Calls.quiet_of_same (S2.out _)))
              go_wp2_with fail
              go_roundw
              case rel => exact ⟨k + 1, m3 + nq, ca, cb + 1, by omega, by omega, by omega, rfl, by go_num, by go_num, ⟨T1.out.symm, T2.out.symm⟩, (by show _ = _; rw [HR2.out]; exact World.drewN_drewN _ _ _)⟩
              case measure => simp [intOf]; omega
          · go_wp2_with fail
            go_quiet ((go_at_call 13; exact Calls.quiet_of_same (S1.out _)))
            have r2 : (wr.drewN nq).cell? ⟨g2, o2 + k, none⟩ = some (.float .f64 y) := q2
            have r3 : (wr.drewN nq).cell? ⟨g1, o1 + q, none⟩ = some (.float .f64 z) := q3
            have HR2 : Hid (wr.drewN nq = w4.drewN (m2 + nq)) := (by show _ = _; rw [HR.out]; exact World.drewN_drewN _ _ _)
            obtain ⟨m3, hm3⟩ : ∃ m3, m3 = m2 + nq := ⟨_, rfl⟩
            rw [← hm3] at HR2
            clear q1 q2 q3 HR S1 hm3
            generalize wr.drewN nq = wq at r2 r3 HR2 ⊢
            cases s2
            · go_wp2_with fail
              go_quiet ((go_at_call 13; exact Calls.quiet_of_same (S2.out _)))
              go_wp2_with fail
              go_roundw
              case rel => exact ⟨k + 1, m3 + nq, ca + 1, cb, by omega, by omega, by omega, by go_num, rfl, by go_num, ⟨T1.out.symm, T2.out.symm⟩, (by show _ = _; rw [HR2.out]; exact World.drewN_drewN _ _ _)⟩
              case measure => simp [intOf]; omega
            · go_wp2_with fail
              go_quiet ((go_at_call 13; exact Calls.quiet_of_same (S2.out _)))
              go_wp2_with fail
              go_roundw
              case rel => exact ⟨k + 1, m3 + nq, ca + 1, cb + 1, by omega, by omega, by omega, by go_num, by go_num, by go_num, ⟨T1.out.symm, T2.out.symm⟩, (by show _ = _; rw [HR2.out]; exact World.drewN_drewN _ _ _)⟩
              case measure => simp [intOf]; omega
        · have hkk : k = n := by omega
          have hcc : ca = cb := by
            have h1 := HC.out.1
            have h2 := HC.out.2
            have h3 := cnt_full (x := L.getD q 0) HM.out.perm
            rw [HM.out.ln, HM.out.lm] at h3
            rw [h1, h2, hkk, h3]
          subst hcc
          clear HC
          have j1 : ¬ (k : Int) < (n : Int) := by omega
          have ec : ((ca : Int) != (ca : Int)) = false := by simp
          have q2 : wr.cell? ⟨g2, o2 + q, none⟩ = some (.float .f64 (M.getD q 0)) := by rw [HR.out]; exact K2.out q hlt
          by_cases hq0 : q = 0
          · have d0 : decide ((0 : Int) < (q : Int)) = false := by simp; omega
            have d1 : ¬ (0 : Int) < (q : Int) := by omega
            go_wp2_with fail
            go_quiet (fail)
            go_wp2_with fail
            go_roundw
            case rel => exact ⟨q + 1, m2 + nq, by omega, by go_num, (by show _ = _; rw [HR.out]; exact World.drewN_drewN _ _ _)⟩
            case measure => simp [intOf]; omega
          · have d0 : decide ((0 : Int) < (q : Int)) = true := by simp; omega
            have d1 : (0 : Int) < (q : Int) := by omega
            have d2 : 0 < q := by omega
            have d3 : decide (0 < q) = true := by simp; omega
            obtain ⟨p, hp⟩ : ∃ p, p = q - 1 := ⟨_, rfl⟩
            have p1 : (q : Int) - 1 = (p : Int) := by omega
            have p2 : (0 : Int) ≤ (p : Int) := by omega
            have p4 : (1 : Int) ≤ (q : Int) := by omega
            have p5 : IntKind.i64.wrap ((q : Int) - 1) = (p : Int) := by rw [p1]; exact IntWalk.i64_in _ (by omega)
            have p3 : (p : Int) < (n : Int) := by omega
            have q1 : wr.cell? ⟨g2, o2 + p, none⟩ = some (.float .f64 (M.getD p 0)) := by rw [HR.out]; exact K2.out p (by omega)
            have o0 : (ord (M.getD q 0) (M.getD q 0) == some .eq) = !(nan (M.getD q 0)) := by
              rw [← self_ne]; unfold bne; rw [Bool.not_not]
            have ox1 : nan (M.getD q 0) = false → FloatKind.f64.format.order (M.getD p 0) (M.getD q 0) = some .lt ∨ FloatKind.f64.format.order (M.getD p 0) (M.getD q 0) = some .eq := fun h => by
              rw [hp]; exact HM.out.le (by omega) hlt h
            clear hp
            generalize M.getD p 0 = y at q1 ox1
            generalize M.getD q 0 = z at q2 o0 ox1
            cases hz : nan z
            · rw [hz, Bool.not_false] at o0
              have ox2 : (FloatKind.f64.format.order y z == some .lt || FloatKind.f64.format.order y z == some .eq) = true := by
                rcases ox1 hz with e | e <;> rw [e] <;> rfl
              clear ox1 hz
              go_wp2_with fail
              go_quiet (fail)
              go_wp2_with fail
              go_roundw
              case rel => exact ⟨q + 1, m2 + nq, by omega, by go_num, (by show _ = _; rw [HR.out]; exact World.drewN_drewN _ _ _)⟩
              case measure => simp [intOf]; omega
            · rw [hz, Bool.not_true] at o0
              clear ox1 hz
              go_wp2_with fail
              go_quiet (fail)
              go_wp2_with fail
              go_roundw
              case rel => exact ⟨q + 1, m2 + nq, by omega, by go_num, (by show _ = _; rw [HR.out]; exact World.drewN_drewN _ _ _)⟩
              case measure => simp [intOf]; omega
    · have i1 : ¬ (q : Int) < (n : Int) := by omega
      have BE : Hid (Below w.heap.size w wr) := (by show Below _ _ _; rw [HR.out]; exact below_drewN B4.out _)
      clear HR K1 K2 HM SA
      go_wp2_with fail
      go_ret
      exact ⟨rfl, BE.out⟩
end Go.Proofs.Ytfjkchkcgnjkaaa.Srt
