/- The law FnSignificant walked. -/
import Derived.Test.YtjnjpbbpphklhaaRdO
namespace Go.Proofs.Ytjnjpbbpphklhaa.Rd
open Go.ChangeShapes Go.WideShapes Go.ChangeAt Go.RowKit
open Flt
attribute [local go_sem] run_store_float

set_option maxRecDepth 20000 in
set_option maxHeartbeats 2000000 in
theorem sLaw (a : Option Addr) (n cap : Nat) (w : World) (h : Code w a n cap) (hn : n < 9223372036854775808) : Calls Try.prog 3 #[.slice a n cap] w fun e w' => e = .returned (.bool true) ∧ Below w.heap.size w w' := by
  by_cases hb : 1048576 < n
  · go_enter Try.func3, Try.ntmps3
    go_wp2_with fail
    refine (big_yes _ _ _ _ hb hn).mono ?_
    rintro e w1 ⟨rfl, hw⟩
    have hw' := hw.symm
    subst hw'
    go_wp2_with fail
    go_ret
    exact ⟨rfl, Below.refl _ _⟩
  have H : Hid (Code w a n cap) := h
  have HB : Hid (n ≤ 1048576) := (by show _ ≤ _; omega)
  clear h hb
  go_enter Try.func3, Try.ntmps3
  go_wp2_with fail
  refine (big_no _ _ _ _ HB.out).mono ?_
  rintro e w1 ⟨rfl, hw⟩
  have hw' := hw.symm
  subst hw'
  go_wp2_with fail
  refine (drawSignif_any a n cap _ H.out HB.out).mono ?_
  rintro e w2 ⟨v, tol, rfl, htol, b2, L, hl, o2⟩
  have HT : Hid (tol < 18446744073709551616) := htol
  have B2 : Hid (Below w.heap.size w w2) := b2
  have R2 : Hid (Reads w2 v L) := reads_flat o2
  obtain ⟨va, vc, rfl⟩ := R2.out.form
  clear o2 b2 htol H hn
  by_cases hbig : 120 < L.length
  · have c1 : (120 : Int) < (L.length : Int) := by omega
    go_wp2_with fail
    go_ret
    exact ⟨rfl, B2.out⟩
  have c1 : ¬ ((120 : Int) < (L.length : Int)) := by omega
  have HM : Hid (L.length ≤ 1048576) := (by show _ ≤ _; omega)
  go_wp2_with fail
  refine (isig_any w2 _ L tol R2.out HM.out HT.out).mono ?_
  rintro e w3 ⟨v3, rfl, o3, b3⟩
  have B3 : Hid (Below w.heap.size w w3) := B2.out.trans (b3.mono B2.out.size)
  have R3 : Hid (Reads w3 (.slice va L.length vc) L) := R2.out.on b3
  have O3 : Hid (w3.ownsRow w2.heap.size 2 1 v3 (sgs L tol).length (ints (sgs L tol))) := o3
  clear b3 o3 B2 R2
  go_wp2_with fail
  refine (ssig_any w3 _ L tol R3.out).mono ?_
  rintro e w4 ⟨v4, rfl, o4, b4⟩
  obtain ⟨a4, c4, rfl⟩ := row_form o4
  have O4 : Hid (w4.ownsRow w2.heap.size 2 1 v3 (sgs L tol).length (ints (sgs L tol))) := row_below O3.out b4
  have B4 : Hid (Below w.heap.size w w4) := B3.out.trans (b4.mono B3.out.size)
  have R4 : Hid (Reads w4 (.slice va L.length vc) L) := R3.out.on b4
  clear o4 b4 O3 R3 B3
  rcases tol_or L tol with he | ⟨hk, h2, h3⟩
  · obtain ⟨a3, c3, rfl⟩ := row_form O4.out
    rw [he]
    go_wp2_with fail
    go_ret
    exact ⟨rfl, B4.out⟩
  obtain ⟨l2, l4, hok⟩ := lok_size hk
  obtain ⟨LK', RB', IN', UP', LA', hNl⟩ := facts L tol hk h2 h3
  obtain ⟨A, hA⟩ : ∃ A, A = sgs L tol := ⟨_, rfl⟩
  rw [← hA] at O4 LK' RB' IN' UP' LA' hNl
  rw [← hA]
  clear hA hok hk h2 h3
  have LK : Hid (lok (pick L A) = true) := LK'
  have UP : Hid (∀ k, k + 1 < A.length → A.getD k 0 < A.getD (k + 1) 0) := UP'
  have IN : Hid (∀ k, k < A.length → 0 ≤ A.getD k 0 ∧ A.getD k 0 < (L.length : Int)) := IN'
  have LA : Hid (A.getD 0 0 = 0 ∧ A.getD (A.length - 1) 0 = ((L.length - 1 : Nat) : Int)) := LA'
  have RB : Hid (∀ i, i < L.length → ∃ x : Nat, (∀ y, cn y = rebF (pick L A) (pOf L i) ((pick L A).length - 1) 0 → y = x) ∧ ∃ D : Nat, (∀ w, (binOp .sub 25 (.float .f64 (tOf L i)) (.float .f64 x)).run Try.prog w = .ok (.float .f64 D) w) ∧ (ord D tol == some .lt || ord D tol == some .eq) = true ∧ (ord (Op.negFloat .f64 D) tol == some .lt || ord (Op.negFloat .f64 D) tol == some .eq) = true) := RB'
  clear LK' RB' IN' UP' LA'
  obtain ⟨g3, c3, rfl, hg3⟩ : ∃ g c, v3 = .slice (some ⟨g, 0, none⟩) A.length c ∧ g < w4.heap.size ∧ A.length ≤ c ∧ c ≤ maxLen := (by
    rcases row_cases O4.out with ⟨q, _⟩ | ⟨g, c, q1, _, q2, q3, q4⟩
    · omega
    · exact ⟨g, c, q1, q2, q3, q4⟩)
  have KA : Hid (∀ i, i < A.length → w4.cell? ⟨g3, i, none⟩ = some (.int .i64 (A.getD i 0))) := fun i hi => int_cell O4.out i hi
  obtain ⟨b, o, c, hva, x1, x2, x3, x4⟩ : ∃ b o c, Value.slice va L.length vc = .slice (some ⟨b, o, none⟩) L.length c ∧ L.length ≤ c ∧ c ≤ maxLen ∧ b < w4.heap.size ∧ ∀ i, i < L.length → w4.cell? ⟨b, o + i * 2, none⟩ = some (.int .i64 (pOf L i)) ∧ w4.cell? ⟨b, o + i * 2 + 1, none⟩ = some (.float .f64 (tOf L i)) := (by
    rcases R4.out with ⟨q, _⟩ | ⟨b, o, c, q⟩
    · rw [q] at l2; simp at l2
    · exact ⟨b, o, c, q⟩)
  injection hva with hva1 hva2 hva3
  subst hva1 hva3
  have KL : Hid (b < w4.heap.size ∧ ∀ i, i < L.length → w4.cell? ⟨b, o + i * 2, none⟩ = some (.int .i64 (pOf L i)) ∧ w4.cell? ⟨b, o + i * 2 + 1, none⟩ = some (.float .f64 (tOf L i))) := ⟨x3, x4⟩
  obtain ⟨N, hNe⟩ : ∃ N, A.length = N := ⟨_, rfl⟩
  obtain ⟨m, hme⟩ : ∃ m, L.length = m := ⟨_, rfl⟩
  have HNE : Hid (A.length = N) := hNe
  have HME : Hid (L.length = m) := hme
  rw [hNe] at KA hNl hg3 LA UP IN
  rw [hme] at KL LA l2 l4 RB c1 x1 IN
  rw [hNe, hme]
  obtain ⟨N1, hN1⟩ : ∃ N1 : Nat, (N : Int) - 1 = (N1 : Int) := ⟨N - 1, by omega⟩
  obtain ⟨m1, hm1⟩ : ∃ m1 : Nat, (m : Int) - 1 = (m1 : Int) := ⟨m - 1, by omega⟩
  have p0 : w4.cell? ⟨g3, 0, none⟩ = some (.int .i64 0) := (by have := KA.out 0 (by omega); rw [LA.out.1] at this; exact this)
  have pl : w4.cell? ⟨g3, N1, none⟩ = some (.int .i64 (m1 : Int)) := (by have := KA.out N1 (by omega); rw [show N1 = N - 1 by omega, LA.out.2, show ((m - 1 : Nat) : Int) = (m1 : Int) by omega] at this; rw [show N1 = N - 1 by omega]; exact this)
  have n0 : ¬ ((N : Int) < 2) := by omega
  have n1 : (0 : Int) < (N : Int) := by omega
  have n2 : (N1 : Int) < (N : Int) := by omega
  have n3 : ¬ ((N : Int) = 0) := by omega
  clear hNe hme x4 hva2 hbig
  unfold maxLen at hg3 x2
  go_wp2_with fail
  clear p0 pl
  go_loopw [7] (fun i wr => ∃ k : Nat, 1 ≤ k ∧ k ≤ N ∧ i = .int .i64 k ∧ Hid (∃ q, wr = w4.drewN q)) (fun i _ => N - (intOf i).toNat)
  case atStart => exact ⟨1, by omega, by omega, rfl, 0, rfl⟩
  case round =>
    obtain ⟨k, hk1, hk2, rfl, HQ⟩ := hrel
    by_cases hlt : k < N
    · have a1 : (k : Int) < (N : Int) := by omega
      have a2 : (0 : Int) ≤ (k : Int) := by omega
      obtain ⟨j, rfl⟩ : ∃ j, k = j + 1 := ⟨k - 1, by omega⟩
      have r1 : wr.cell? ⟨g3, j + 1, none⟩ = some (.int .i64 (A.getD (j + 1) 0)) := (by obtain ⟨q, hq⟩ := HQ.out; rw [hq]; exact KA.out (j + 1) hlt)
      have r2 : wr.cell? ⟨g3, j, none⟩ = some (.int .i64 (A.getD j 0)) := (by obtain ⟨q, hq⟩ := HQ.out; rw [hq]; exact KA.out j (by omega))
      have up := UP.out j hlt
      obtain ⟨x, hx⟩ : ∃ x, x = A.getD (j + 1) 0 := ⟨_, rfl⟩
      obtain ⟨y, hy⟩ : ∃ y, y = A.getD j 0 := ⟨_, rfl⟩
      rw [← hx] at r1 up
      rw [← hy] at r2 up
      clear hx hy KA KL RB IN UP LA LK O4 R4 B4 HNE HME HB HT HM
      have a3 : IntKind.i64.wrap (((j + 1 : Nat) : Int) - 1) = (j : Int) := (by rw [show ((j + 1 : Nat) : Int) - 1 = (j : Int) by omega]; exact IntWalk.i64_in _ (by omega))
      have a4 : (j : Int) < (N : Int) := by omega
      have a5 : (0 : Int) ≤ (j : Int) := by omega
      have a6 : ¬ (x ≤ y) := by omega
      have a7 : decide (x ≤ y) = false := by simp; omega
      have a8 : ((j + 1 : Nat) : Int) - 1 = (j : Int) := by omega
      clear up
      go_wp2_with fail
      go_quiet (fail)
      go_wp2_with fail
      go_roundw
      case rel => exact ⟨j + 1 + 1, by omega, by omega, by go_num, (by obtain ⟨q, hq⟩ := HQ.out; exact ⟨q + nq, by rw [hq]; exact World.drewN_drewN _ _ _⟩)⟩
      case measure => simp [intOf]; omega
    · have a1 : ¬ ((k : Int) < (N : Int)) := by omega
      have B5' : Hid (Below w4.heap.size w4 wr) := (by obtain ⟨q, hq⟩ := HQ.out; show Below _ _ _; rw [hq]; exact below_drewN (Below.refl _ _) q)
      have R5 : Hid (Reads wr (.slice (some ⟨b, o, none⟩) m vc) L) := (by show Reads _ _ _; rw [← HME.out]; exact R4.out.on B5'.out)
      have O5 : Hid (wr.ownsRow w2.heap.size 2 1 (.slice (some ⟨g3, 0, none⟩) N c3) A.length (ints A)) := (by show World.ownsRow _ _ _ _ _ _ _; rw [← HNE.out]; exact row_below O4.out B5'.out)
      have B5 : Hid (Below w.heap.size w wr) := B4.out.trans (B5'.out.mono B4.out.size)
      have KL5 : Hid (b < wr.heap.size ∧ ∀ i, i < m → wr.cell? ⟨b, o + i * 2, none⟩ = some (.int .i64 (pOf L i)) ∧ wr.cell? ⟨b, o + i * 2 + 1, none⟩ = some (.float .f64 (tOf L i))) := ⟨Nat.lt_of_lt_of_le KL.out.1 B5'.out.size, fun i hi => ⟨(B5'.out.cell (p := ⟨b, o + i * 2, none⟩) KL.out.1).trans (KL.out.2 i hi).1, (B5'.out.cell (p := ⟨b, o + i * 2 + 1, none⟩) KL.out.1).trans (KL.out.2 i hi).2⟩⟩
      clear HQ KL R4 O4 B4 B5' KA UP LA
      go_wp2_with fail
      refine (at_any wr _ _ L A w2.heap.size R5.out O5.out (by rw [HNE.out, HME.out]; exact IN.out) (by rw [HNE.out]; omega) (by rw [HNE.out]; omega)).mono ?_
      rintro e w6 ⟨v6, rfl, o6, b6⟩
      have B6 : Hid (Below w.heap.size w w6) := B5.out.trans (b6.mono B5.out.size)
      have R6 : Hid (Reads w6 v6 (pick L A)) := reads_flat o6
      have KL6 : Hid (b < w6.heap.size ∧ ∀ i, i < m → w6.cell? ⟨b, o + i * 2, none⟩ = some (.int .i64 (pOf L i)) ∧ w6.cell? ⟨b, o + i * 2 + 1, none⟩ = some (.float .f64 (tOf L i))) := ⟨Nat.lt_of_lt_of_le KL5.out.1 b6.size, fun i hi => ⟨(b6.cell (p := ⟨b, o + i * 2, none⟩) KL5.out.1).trans (KL5.out.2 i hi).1, (b6.cell (p := ⟨b, o + i * 2 + 1, none⟩) KL5.out.1).trans (KL5.out.2 i hi).2⟩⟩
      clear o6 b6 KL5 O5 R5 B5 IN
      go_wp2_with fail
      go_loopw [9] (fun i wx => ∃ k : Nat, k ≤ m ∧ i = .int .i64 k ∧ Hid (Below w6.heap.size w6 wx)) (fun i _ => m - (intOf i).toNat)
      case atStart => exact ⟨0, Nat.zero_le _, rfl, Below.refl _ _⟩
      case round =>
        obtain ⟨k, hkm, rfl, BR⟩ := hrel
        by_cases hlt2 : k < m
        · have a1 : (k : Int) < (m : Int) := by omega
          have a2 : (0 : Int) ≤ (k : Int) := by omega
          obtain ⟨x, hx, D, hD, d1, d2⟩ := RB.out k hlt2
          have HX : Hid (∀ y, cn y = rebF (pick L A) (pOf L k) ((pick L A).length - 1) 0 → y = x) := hx
          have q1 : wr.cell? ⟨b, o + k * 2, none⟩ = some (.int .i64 (pOf L k)) := (BR.out.cell (p := ⟨b, o + k * 2, none⟩) KL6.out.1).trans (KL6.out.2 k hlt2).1
          have q2 : wr.cell? ⟨b, o + k * 2 + 1, none⟩ = some (.float .f64 (tOf L k)) := (BR.out.cell (p := ⟨b, o + k * 2 + 1, none⟩) KL6.out.1).trans (KL6.out.2 k hlt2).2
          have CB : Hid (∀ w', Below w6.heap.size w6 w' → Calls Try.prog 10 #[v6, .int .i64 (pOf L k)] w' fun e w'' => e = .returned (.float .f64 x) ∧ Below w'.heap.size w' w'') := fun w' hw' => (ireb_yes w' v6 (pick L A) (pOf L k) (R6.out.on hw') LK.out).mono fun e w'' ⟨y, he, hy, hb⟩ => ⟨by rw [he, HX.out y hy], hb⟩
          have nb : b < wr.heap.size := Nat.lt_of_lt_of_le KL6.out.1 BR.out.size
          obtain ⟨pk, hpk⟩ : ∃ pk, pk = pOf L k := ⟨_, rfl⟩
          obtain ⟨tk, htk⟩ : ∃ tk, tk = tOf L k := ⟨_, rfl⟩
          rw [← hpk] at CB q1
          rw [← htk] at q2 hD
          have hneg : Op.unary .neg (.float .f64 D) = pure (.float .f64 (Op.negFloat .f64 D)) := rfl
          clear hx HX hpk htk RB LK R6
          go_wp2_with fail
          go_region_held3 (fun w' => w'.cell? ⟨b, o + k * 2, none⟩ = some (.int .i64 pk) ∧ w'.cell? ⟨b, o + k * 2 + 1, none⟩ = some (.float .f64 tk)) (go_keep)
            (first
            | (go_at_call 10; refine (CB.out _ (BR.out.drew)).mono ?_; rintro e w3' ⟨rfl, hb3⟩; have r1 := (hb3.cell (p := ⟨b, o + k * 2, none⟩) nb).trans q1; have r2 := (hb3.cell (p := ⟨b, o + k * 2 + 1, none⟩) nb).trans q2))
          have BX : Hid (Below w6.heap.size w6 w3') := BR.out.drew.trans (hb3.mono BR.out.size)
          clear hb3 r1 r2 q1 q2 CB
          go_wp2_with fail
          go_roundw
          case rel => exact ⟨k + 1, by omega, by go_num, BX⟩
          case measure => simp [intOf]; omega
        · have a1 : ¬ ((k : Int) < (m : Int)) := by omega
          go_wp2_with fail
          go_ret
          exact ⟨rfl, B6.out.trans (BR.out.mono B6.out.size)⟩
end Go.Proofs.Ytjnjpbbpphklhaa.Rd
