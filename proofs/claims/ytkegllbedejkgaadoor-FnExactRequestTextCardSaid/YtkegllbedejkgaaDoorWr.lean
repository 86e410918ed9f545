/- l25RequestOk: the model. -/
import Derived.Test.YtkegllbedejkgaaDoorWs
import Derived.Test.YtkegllbedejkgaaDoorRq
import Derived.Test.YtkegllbedejkgaaDoorKy
namespace Go.Proofs.YtkegllbedejkgaaDoor.Ix
open Go.ChangeShapes Go.WideShapes Go.ChangeAt Go.RowKit
open Al Eo
theorem bl_gt {x y : List UInt8} (h : Op.bytesLess y x = true) : Op.bytesLess x y = false ∧ (x == y) = false := by
  rw [Ky.bl] at h ⊢
  have h' := of_decide_eq_true h
  refine ⟨decide_eq_false (fun g => List.lt_irrefl _ (List.lt_trans g h')), ?_⟩
  simp only [beq_eq_false_iff_ne, ne_eq]
  rintro rfl
  exact List.lt_irrefl _ h'
theorem bl_le {x y : List UInt8} (h : Op.bytesLess y x = false) : (Op.bytesLess x y || x == y) = true := by
  rw [Ky.bl] at h ⊢
  have h' := of_decide_eq_false h
  by_cases g : x < y
  · simp [g]
  · have : x = y := List.le_antisymm h' g
    simp [this]

set_option maxRecDepth 20000 in
set_option maxHeartbeats 2000000 in
theorem sreq_any (R : Rq) (vP vT vS vL : Value) (w : World) (h : RqR w vP vT vS vL R) : Calls Tryd.prog 11 #[.agg #[vP, vT, vS, vL]] w fun e w' => e = .returned (.bool (okR R)) ∧ Below w.heap.size w w' := by
  obtain ⟨w0, hw0⟩ : ∃ w0, w0 = w.alloc (Obj.cells #[vP, vT, vS, vL] 28) := ⟨_, rfl⟩
  have HW0 : Hid (w0 = w.alloc (Obj.cells #[vP, vT, vS, vL] 28)) := hw0
  have B0 : Below w.heap.size w w0 := by rw [hw0]; exact (Below.refl _ _).alloc (Nat.le_refl _) _
  have BD : Hid (∀ n, Below w.heap.size w (w0.drewN n)) := fun n => B0.trans ⟨rfl, rfl, rfl, Nat.le_refl _, fun _ _ => rfl⟩
  have CB : Hid (∀ n, (w0.drewN n).cell? ⟨w.heap.size, 0, none⟩ = some vP ∧ (w0.drewN n).cell? ⟨w.heap.size, 1, none⟩ = some vT ∧ (w0.drewN n).cell? ⟨w.heap.size, 2, none⟩ = some vS ∧ (w0.drewN n).cell? ⟨w.heap.size, 3, none⟩ = some vL) := fun n => (by
    show w0.cell? ⟨w.heap.size, 0, none⟩ = some vP ∧ w0.cell? ⟨w.heap.size, 1, none⟩ = some vT ∧ w0.cell? ⟨w.heap.size, 2, none⟩ = some vS ∧ w0.cell? ⟨w.heap.size, 3, none⟩ = some vL
    rw [hw0]
    refine ⟨?_, ?_, ?_, ?_⟩ <;> simp [go_sem])
  have S1 : Hid (∀ n, Calls Tryd.prog 29 #[vT, .int .i64 0, .int .i64 52596000] (w0.drewN n) fun e w' => e = .returned (.bool (okI (fun n => inn n 0 52596000) R.2.1)) ∧ ∃ k, w' = (w0.drewN n).drewN k) := fun n => srises_any _ _ _ _ _ (h.t.on (BD.out n))
  have S2 : Hid (∀ n, Calls Tryd.prog 29 #[vS, .int .i64 0, .int .i64 360] (w0.drewN n) fun e w' => e = .returned (.bool (okI (fun n => inn n 0 360) R.2.2.1)) ∧ ∃ k, w' = (w0.drewN n).drewN k) := fun n => srises_any _ _ _ _ _ (h.s.on (BD.out n))
  have S3 : Hid (∀ n, Calls Tryd.prog 29 #[vL, .int .i64 0, .int .i64 1100] (w0.drewN n) fun e w' => e = .returned (.bool (okI (fun n => inn n 0 1100) R.2.2.2)) ∧ ∃ k, w' = (w0.drewN n).drewN k) := fun n => srises_any _ _ _ _ _ (h.l.on (BD.out n))
  have hp := h.p
  have hz := h.z
  obtain ⟨_, _, formT⟩ := h.t.form
  obtain ⟨_, _, formS⟩ := h.s.form
  obtain ⟨_, _, formL⟩ := h.l.form
  have HR : Hid (okR R = (okP R.1 && (okI (fun n => inn n 0 52596000) R.2.1 && (okI (fun n => inn n 0 360) R.2.2.1 && okI (fun n => inn n 0 1100) R.2.2.2)))) := rfl
  generalize okR R = res at *
  generalize okI (fun n => inn n 0 52596000) R.2.1 = b1 at *
  generalize okI (fun n => inn n 0 360) R.2.2.1 = b2 at *
  generalize okI (fun n => inn n 0 1100) R.2.2.2 = b3 at *
  have ln := hp.fits
  generalize R.1 = L at *
  obtain ⟨a, c, rfl⟩ := hp.form
  obtain ⟨m, hm⟩ : ∃ m, m = L.length := ⟨_, rfl⟩
  have HM : Hid (m = L.length) := hm
  have HZ : Hid (∀ i, i < L.length → (L.getD i ⟨#[]⟩).size ≤ 1048576) := hz
  have HC : Hid (∀ n i, i < m → ∃ b o, a = some ⟨b, o, none⟩ ∧ (w0.drewN n).cell? ⟨b, o + i, none⟩ = some (.string (L.getD i ⟨#[]⟩))) := fun n i hi => (by
    rw [HM.out] at hi
    rcases hp with ⟨rfl, _⟩ | ⟨b, o, c, e, _, _, x, y⟩
    · simp at hi
    · simp at e; exact ⟨b, o, e.1, ((BD.out n).cell (p := ⟨b, o + i, none⟩) x).trans (y i hi)⟩)
  have HO : Hid (okP L = (decide (m ≤ 40) && allP L m)) := (by show _ = _; unfold okP; rw [HM.out])
  rw [← hm] at ln CB ⊢
  rw [← hm] at HW0
  subst formT formS formL
  clear h hm hz hp B0 hw0
  obtain ⟨X, hX⟩ : ∃ X, X = w.heap.size := ⟨_, rfl⟩
  have HX : Hid (X = w.heap.size) := hX
  rw [← hX] at CB
  clear hX
  go_enter Tryd.func11, Tryd.ntmps11
  go_upto_region 1 with fail
  rw [← HW0.out, ← HX.out]
  obtain ⟨c0, c1, c2, c3⟩ := CB.out 0
  replace c0 : w0.cell? ⟨X, 0, none⟩ = some (.slice a m c) := c0
  clear c1 c2 c3
  by_cases h40 : 40 < m
  · have E : Hid (res = false) := (by show _ = _; rw [HR.out, HO.out, decide_eq_false (by omega)]; rfl)
    have j40 : (40 : Int) < (m : Int) := by omega
    go_wp2_with fail
    go_ret
    exact ⟨by rw [E.out]; rfl, BD.out 0⟩
  have j40 : ¬ (40 : Int) < (m : Int) := by omega
  go_wp2_with fail
  clear c0
  go_loopw [3] (fun i wr => ∃ k n : Nat, k ≤ m ∧ i = .int .i64 k ∧ wr = w0.drewN n ∧ Hid (allP L k = true)) (fun i _ => m - (intOf i).toNat)
  case atStart => exact ⟨0, 0, Nat.zero_le _, rfl, rfl, rfl⟩
  case round =>
    obtain ⟨k, n, hk, rfl, hw, AK⟩ := hrel
    obtain ⟨c0, c1, c2, c3⟩ := CB.out n
    rw [← hw] at c0 c1 c2 c3
    by_cases hlt : k < m
    · obtain ⟨b, o, rfl, q0⟩ := HC.out n k hlt
      rw [← hw] at q0
      clear c1 c2 c3
      have i0 : (0 : Int) ≤ (k : Int) := by omega
      have i1 : (k : Int) < (m : Int) := by omega
      have CF : Hid (∀ w, Calls Tryd.prog 28 #[.string (L.getD k ⟨#[]⟩)] w fun e w' => e = .returned (.bool (pok (L.getD k ⟨#[]⟩))) ∧ w' = w) := fun w => sparam_any _ _ (HZ.out k (by rw [← HM.out]; exact hlt))
      have NO : Hid (wP L k = false → res = false) := fun h => (by rw [HR.out, HO.out, allP_at hlt h]; simp)
      have YE : Hid (wP L k = true → allP L (k + 1) = true) := fun h => (by rw [allP_succ, AK.out, h]; rfl)
      have WW : Hid (wP L k = (pok (L.getD k ⟨#[]⟩) && (decide (k = 0) || Op.bytesLess (L.getD (k - 1) ⟨#[]⟩).toList (L.getD k ⟨#[]⟩).toList))) := rfl
      have HP0 : Hid (∀ k', k' + 1 = k → wr.cell? ⟨b, o + k', none⟩ = some (.string (L.getD (k - 1) ⟨#[]⟩))) := fun k' hk' => (by
        obtain ⟨b', o', e, y⟩ := HC.out n k' (by omega)
        simp at e
        obtain ⟨rfl, rfl⟩ := e
        have : k' = k - 1 := by omega
        rw [hw, ← this]
        exact y)
      have HW : Hid (∀ j, ∃ n', wr.drewN j = w0.drewN n') := fun j => ⟨n + j, by rw [hw, World.drewN_drewN]⟩
      generalize L.getD k ⟨#[]⟩ = x at *
      generalize L.getD (k - 1) ⟨#[]⟩ = y at *
      generalize pok x = px at *
      clear AK hw S1 S2 S3
      cases px
      · have E : Hid (res = false) := NO.out (by rw [WW.out]; rfl)
        go_wp2_with fail
        go_quiet (exact Calls.quiet_of_same (CF.out _))
        obtain ⟨n', hn'⟩ := HW.out nq
        have HB : Hid (Below w.heap.size w (wr.drewN nq)) := (by show Below _ _ _; rw [hn']; exact BD.out n')
        clear hn'
        go_wp2_with fail
        go_ret
        exact ⟨by rw [E.out]; rfl, HB.out⟩
      · cases k with
        | zero =>
          rw [Nat.add_zero] at q0
          have NX : Hid (allP L 1 = true) := YE.out (by rw [WW.out]; rfl)
          go_wp2_with fail
          go_quiet (exact Calls.quiet_of_same (CF.out _))
          obtain ⟨n', hn'⟩ := HW.out nq
          have HN' : Hid (wr.drewN nq = w0.drewN n') := hn'
          clear hn'
          go_wp2_with fail
          go_roundw
          case rel => exact ⟨1, n', by omega, by go_num, HN'.out, NX⟩
          case measure => simp [intOf]; omega
        | succ k =>
          have qp := HP0.out k rfl
          have k1 : (0 : Int) < ((k + 1 : Nat) : Int) := by omega
          have k2 : (((k + 1 : Nat) : Int) - 1) = (k : Int) := by omega
          have k3 : (k : Int) < (m : Int) := by omega
          have k4 : (0 : Int) ≤ (k : Int) := by omega
          have k5 : (0 : Int) < (k : Int) + 1 := by omega
          have k6 : decide ((0 : Int) < ((k + 1 : Nat) : Int)) = true := decide_eq_true (by omega)
          cases hyx : Op.bytesLess y.toList x.toList
          · have E : Hid (res = false) := NO.out (by rw [WW.out, hyx]; simp)
            have fl := bl_le hyx
            go_wp2_with fail
            go_quiet (exact Calls.quiet_of_same (CF.out _))
            obtain ⟨n', hn'⟩ := HW.out nq
            have HB : Hid (Below w.heap.size w (wr.drewN nq)) := (by show Below _ _ _; rw [hn']; exact BD.out n')
            clear hn'
            go_wp2_with fail
            go_ret
            exact ⟨by rw [E.out]; rfl, HB.out⟩
          · have NX : Hid (allP L (k + 1 + 1) = true) := YE.out (by rw [WW.out, hyx]; simp)
            obtain ⟨f1, f2⟩ := bl_gt hyx
            go_wp2_with fail
            go_quiet (exact Calls.quiet_of_same (CF.out _))
            obtain ⟨n', hn'⟩ := HW.out nq
            have HN' : Hid (wr.drewN nq = w0.drewN n') := hn'
            clear hn'
            go_wp2_with fail
            go_roundw
            case rel => exact ⟨k + 1 + 1, n', by omega, by go_num, HN'.out, NX⟩
            case measure => simp [intOf]; omega
    · have hkm : k = m := by omega
      have E : Hid (res = (b1 && (b2 && b3))) := (by show _ = _; rw [HR.out, HO.out, ← hkm, AK.out, decide_eq_true (by omega)]; rfl)
      have j1 : ¬ (k : Int) < (m : Int) := by omega
      have HW : Hid (wr = w0.drewN n) := hw
      clear HC HO HR hw
      go_wp2_with fail
      rw [HW.out]
      refine (S1.out n).mono ?_
      rintro e w1 ⟨rfl, n1, hw1⟩
      rw [World.drewN_drewN] at hw1
      generalize n + n1 = n2 at *
      have HW1 : Hid (w1 = w0.drewN n2) := hw1
      obtain ⟨d0, d1, d2, d3⟩ := CB.out n2
      rw [← hw1] at d0 d1 d2 d3
      clear c0 c1 c2 c3 d0 hw1
      cases b1
      · have HB : Hid (Below w.heap.size w w1) := (by show Below _ _ _; rw [HW1.out]; exact BD.out _)
        go_wp2_with fail
        go_ret
        exact ⟨by rw [E.out]; rfl, HB.out⟩
      go_wp2_with fail
      rw [HW1.out]
      refine (S2.out n2).mono ?_
      rintro e w2 ⟨rfl, n3, hw2⟩
      rw [World.drewN_drewN] at hw2
      generalize n2 + n3 = n4 at *
      have HW2 : Hid (w2 = w0.drewN n4) := hw2
      clear d1 d2 d3
      obtain ⟨d0, d1, d2, d3⟩ := CB.out n4
      rw [← hw2] at d0 d1 d2 d3
      clear d0 hw2
      cases b2
      · have HB : Hid (Below w.heap.size w w2) := (by show Below _ _ _; rw [HW2.out]; exact BD.out _)
        go_wp2_with fail
        go_ret
        exact ⟨by rw [E.out]; rfl, HB.out⟩
      go_wp2_with fail
      rw [HW2.out]
      refine (S3.out n4).mono ?_
      rintro e w3 ⟨rfl, n5, hw3⟩
      rw [World.drewN_drewN] at hw3
      have HB : Hid (Below w.heap.size w w3) := (by show Below _ _ _; rw [hw3]; exact BD.out _)
      clear d1 d2 d3 hw3
      go_wp2_with fail
      go_ret
      exact ⟨by rw [E.out]; rfl, HB.out⟩
end Go.Proofs.YtkegllbedejkgaaDoor.Ix
