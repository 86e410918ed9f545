/- The law FnFewer walked. -/
import Derived.Test.YtjnjpbbpphklhaaFwA
namespace Go.Proofs.Ytjnjpbbpphklhaa.Rd
open Go.ChangeShapes Go.WideShapes Go.ChangeAt Go.RowKit
open Flt
attribute [local go_sem] run_store_float

theorem any_take (A : List Int) (z : Int) (j : Nat) (h : j < A.length) : (A.take (j + 1)).any (fun x => x == z) = ((A.take j).any (fun x => x == z) || (A.getD j 0 == z)) := by
  rw [List.take_succ_eq_append_getElem h, List.any_append]
  simp [List.getD_eq_getElem?_getD, List.getElem?_eq_getElem h]

set_option maxRecDepth 20000 in
set_option maxHeartbeats 2000000 in
theorem fLaw (a : Option Addr) (n cap : Nat) (a2 : Option Addr) (n2 cap2 : Nat) (w : World) (h : Code w a n cap) (hn : n < 9223372036854775808) (hn2 : n2 < 9223372036854775808) : Calls Try.prog 4 #[.slice a n cap, .slice a2 n2 cap2] w fun e w' => e = .returned (.bool true) ∧ Below w.heap.size w w' := by
  by_cases hb : 1048576 < n
  · have HB : Hid (1048576 < n ∧ n < 9223372036854775808) := ⟨hb, hn⟩
    clear hb hn h
    go_enter Try.func4, Try.ntmps4
    go_wp2_with (go_at_call 5; refine (big_yes _ _ _ _ HB.out.1 HB.out.2).mono ?_; rintro e w1 ⟨rfl, hw⟩; have hw' := hw.symm; subst hw')
    go_ret
    exact ⟨rfl, Below.refl _ _⟩
  have H : Hid (Code w a n cap) := h
  have HB : Hid (n ≤ 1048576) := (by show _ ≤ _; omega)
  clear h hb hn
  by_cases hb2 : 1048576 < n2
  · have HB2 : Hid (1048576 < n2 ∧ n2 < 9223372036854775808) := ⟨hb2, hn2⟩
    clear hb2 hn2 H
    go_enter Try.func4, Try.ntmps4
    go_wp2_with fail
    refine (big_no _ _ _ _ HB.out).mono ?_
    rintro e w1 ⟨rfl, hw⟩
    have hw' := hw.symm
    subst hw'
    go_wp2_with (go_at_call 5; refine (big_yes _ _ _ _ HB2.out.1 HB2.out.2).mono ?_; rintro e w1 ⟨rfl, hw⟩; have hw' := hw.symm; subst hw')
    go_ret
    exact ⟨rfl, Below.refl _ _⟩
  have HB2 : Hid (n2 ≤ 1048576) := (by show _ ≤ _; omega)
  obtain ⟨z, hz⟩ : ∃ z : Nat, z = n2 % 50 := ⟨_, rfl⟩
  have hz50 : z < 50 := by omega
  have hzz : Int.tmod (n2 : Int) 50 = (z : Int) := by rw [hz]; rfl
  obtain ⟨q, q0, q1, q2, q3⟩ := tenth_at z hz50
  have QQ : Hid (Ieee.double.div (floatOfInt .f64 (z : Int)) 4621819117588971520 = some q ∧ rng q < 9218868437227405312 ∧ 0 ≤ num q ∧ num q ≤ num 4617315517961601024) := ⟨q0, q1, q2, q3⟩
  clear hb2 hn2 hz q0 q1 q2 q3
  go_enter Try.func4, Try.ntmps4
  go_wp2_with fail
  refine (big_no _ _ _ _ HB.out).mono ?_
  rintro e w1 ⟨rfl, hw⟩
  have hw' := hw.symm
  subst hw'
  go_wp2_with fail
  refine (big_no _ _ _ _ HB2.out).mono ?_
  rintro e w1 ⟨rfl, hw⟩
  have hw' := hw.symm
  subst hw'
  go_wp2_with fail
  refine (drawSignif_any a n cap _ H.out HB.out).mono ?_
  rintro e w2 ⟨v, tol, rfl, htol, b2, L, hl, o2⟩
  have HT : Hid (tol < 18446744073709551616) := htol
  have B2 : Hid (Below w.heap.size w w2) := b2
  have R2 : Hid (Reads w2 v L) := reads_flat o2
  obtain ⟨va, vc, rfl⟩ := R2.out.form
  clear o2 b2 htol H
  by_cases hbig : 120 < L.length
  · have c1 : (120 : Int) < (L.length : Int) := by omega
    go_wp2_with fail
    go_ret
    exact ⟨rfl, B2.out⟩
  have c1 : ¬ ((120 : Int) < (L.length : Int)) := by omega
  have HM : Hid (L.length ≤ 1048576) := (by show _ ≤ _; omega)
  clear hl hbig
  go_wp2_with fail
  refine (ssig_any w2 _ L tol R2.out).mono ?_
  rintro e w3 ⟨v3, rfl, o3, b3⟩
  obtain ⟨a3, c3, rfl⟩ := row_form o3
  have B3 : Hid (Below w.heap.size w w3) := B2.out.trans (b3.mono B2.out.size)
  have R3 : Hid (Reads w3 (.slice va L.length vc) L) := R2.out.on b3
  clear b3 o3 B2 R2
  rcases tol_or L tol with he | ⟨hk, h2, h3⟩
  · rw [he]
    go_wp2_with fail
    go_ret
    exact ⟨rfl, B3.out⟩
  obtain ⟨l2, l4, hok⟩ := lok_size hk
  obtain ⟨_, _, _, _, _, hNl⟩ := facts L tol hk h2 h3
  have n3 : ¬ (((sgs L tol).length : Int) = 0) := by omega
  have n3' : (((sgs L tol).length : Int) == 0) = false := beq_eq_false_iff_ne.2 n3
  cases h4 : (ord tol 4696837146684686336 == some .gt)
  case true =>
    clear hok hNl
    go_wp2_with fail
    go_ret
    exact ⟨rfl, B3.out⟩
  obtain ⟨r, r0, r1, r2, r3, r4⟩ := wide_of h2 h3 h4 QQ.out.2.1 QQ.out.2.2.1 QQ.out.2.2.2
  obtain ⟨f1, f2, f3, f4, f5⟩ := fewer hk h2 h3 r1 r2 r3
  have HR4 : Hid (r < 18446744073709551616) := r4
  have hQ : ∀ w, (binOp .quo 25 (.float .f64 (floatOfInt .f64 (z : Int))) (.float .f64 4621819117588971520)).run Try.prog w = .ok (.float .f64 q) w := fun w => run_float_arith w .quo 25 .f64 _ _ _ QQ.out.1
  have hA : ∀ w, (binOp .add 25 (.float .f64 tol) (.float .f64 q)).run Try.prog w = .ok (.float .f64 r) w := fun w => run_float_arith w .add 25 .f64 _ _ _ r0
  clear hok hNl hk h2 h3 r0 r1 r2 r3 r4 QQ
  go_wp2_with fail
  refine (isig_any w3 _ L tol R3.out HM.out HT.out).mono ?_
  rintro e w4 ⟨v4, rfl, o4, b4⟩
  have B4 : Hid (Below w.heap.size w w4) := B3.out.trans (b4.mono B3.out.size)
  have R4 : Hid (Reads w4 (.slice va L.length vc) L) := R3.out.on b4
  have O4 : Hid (w4.ownsRow w3.heap.size 2 1 v4 (sgs L tol).length (ints (sgs L tol))) := o4
  clear b4 o4 R3 B3
  go_wp2_with fail
  refine (isig_any w4 _ L r R4.out HM.out HR4.out).mono ?_
  rintro e w5 ⟨v5, rfl, o5, b5⟩
  have B5 : Hid (Below w.heap.size w w5) := B4.out.trans (b5.mono B4.out.size)
  have O4' : Hid (w5.ownsRow w3.heap.size 2 1 v4 (sgs L tol).length (ints (sgs L tol))) := row_below O4.out b5
  have O5 : Hid (w5.ownsRow w4.heap.size 2 1 v5 (sgs L r).length (ints (sgs L r))) := o5
  clear b5 o5 B4 R4 O4
  obtain ⟨A, hA'⟩ : ∃ A, A = sgs L tol := ⟨_, rfl⟩
  obtain ⟨B, hB'⟩ : ∃ B, B = sgs L r := ⟨_, rfl⟩
  rw [← hA'] at O4' f1 f4 f5
  rw [← hB'] at O5 f1 f2 f3
  rw [← hA']
  obtain ⟨g4, c4, rfl, hg4⟩ : ∃ g c, v4 = .slice (some ⟨g, 0, none⟩) A.length c ∧ g < w5.heap.size ∧ A.length ≤ c ∧ c ≤ maxLen := (by
    rcases row_cases O4'.out with ⟨q, _⟩ | ⟨g, c, q1, _, q2, q3, q4⟩
    · omega
    · exact ⟨g, c, q1, q2, q3, q4⟩)
  obtain ⟨g5, c5, rfl, hg5⟩ : ∃ g c, v5 = .slice (some ⟨g, 0, none⟩) B.length c ∧ g < w5.heap.size ∧ B.length ≤ c ∧ c ≤ maxLen := (by
    rcases row_cases O5.out with ⟨q, _⟩ | ⟨g, c, q1, _, q2, q3, q4⟩
    · omega
    · exact ⟨g, c, q1, q2, q3, q4⟩)
  have KA : Hid (∀ i, i < A.length → w5.cell? ⟨g4, i, none⟩ = some (.int .i64 (A.getD i 0))) := fun i hi => int_cell O4'.out i hi
  have KB : Hid (∀ i, i < B.length → w5.cell? ⟨g5, i, none⟩ = some (.int .i64 (B.getD i 0))) := fun i hi => int_cell O5.out i hi
  have F1 : Hid (∀ i, i < B.length → A.any (fun x => x == B.getD i 0) = true) := f1
  obtain ⟨NA, hNA⟩ : ∃ N, N = A.length := ⟨_, rfl⟩
  obtain ⟨NB, hNB⟩ : ∃ N, N = B.length := ⟨_, rfl⟩
  have HNA : Hid (NA = A.length) := hNA
  have HNB : Hid (NB = B.length) := hNB
  rw [← hNA] at hg4 f4 f5
  rw [← hNB] at hg5 f2 f3
  rw [← hNA, ← hNB]
  unfold maxLen at hg4 hg5
  have n0 : ¬ ((NB : Int) < 2) := by omega
  clear hA' hB' hNA hNB f1 O4' O5 n3 n3' c1 hQ hA h4 hzz HR4 HT HM HB HB2
  go_wp2_with fail
  go_loopw [10, 11, 12] (fun i _ _ wr => ∃ k : Nat, k ≤ NB ∧ i = .int .i64 k ∧ Hid (∃ q, wr = w5.drewN q)) (fun i _ _ _ => NB - (intOf i).toNat)
  case atStart => exact ⟨0, Nat.zero_le _, rfl, 0, rfl⟩
  case round =>
    obtain ⟨k, hk, rfl, HQ⟩ := hrel
    by_cases hlt : k < NB
    · have a1 : (k : Int) < (NB : Int) := by omega
      have a2 : (0 : Int) ≤ (k : Int) := by omega
      obtain ⟨y, hy⟩ : ∃ y, y = B.getD k 0 := ⟨_, rfl⟩
      have AY : Hid (A.any (fun x => x == y) = true) := (by show _ = _; rw [hy]; exact F1.out k (by rw [← HNB.out]; exact hlt))
      have KY : Hid (∀ q, (w5.drewN q).cell? ⟨g5, k, none⟩ = some (.int .i64 y)) := fun q => by rw [hy]; exact KB.out k (by rw [← HNB.out]; exact hlt)
      clear hy
      go_wp2_with fail
      go_loopw [11, 12] (fun t i wx => ∃ j : Nat, j ≤ NA ∧ i = .int .i64 j ∧ t = .bool ((A.take j).any (fun x => x == y)) ∧ Hid (∃ q, wx = w5.drewN q)) (fun _ i _ => NA - (intOf i).toNat)
      case atStart => exact ⟨0, Nat.zero_le _, rfl, rfl, HQ.out⟩
      case round =>
        obtain ⟨j, hj, rfl, rfl, HQ2⟩ := hrel
        by_cases hlt2 : j < NA
        · have a3 : (j : Int) < (NA : Int) := by omega
          have a4 : (0 : Int) ≤ (j : Int) := by omega
          have s1 := any_take A y j (by rw [← HNA.out]; exact hlt2)
          have S1 : Hid ((A.take (j + 1)).any (fun x => x == y) = ((A.take j).any (fun x => x == y) || (A.getD j 0 == y))) := s1
          clear s1
          have r1 : wr.cell? ⟨g4, j, none⟩ = some (.int .i64 (A.getD j 0)) := (by obtain ⟨q, hq⟩ := HQ2.out; rw [hq]; exact KA.out j (by rw [← HNA.out]; exact hlt2))
          have r2 : wr.cell? ⟨g5, k, none⟩ = some (.int .i64 y) := (by obtain ⟨q, hq⟩ := HQ2.out; rw [hq]; exact KY.out q)
          obtain ⟨x, hx⟩ : ∃ x, x = A.getD j 0 := ⟨_, rfl⟩
          have HX : Hid (x = A.getD j 0) := hx
          rw [← hx] at r1
          clear hx
          obtain ⟨t, ht⟩ : ∃ t, t = (A.take j).any (fun x => x == y) := ⟨_, rfl⟩
          have HTT : Hid (t = (A.take j).any (fun x => x == y)) := ht
          rw [← ht]
          clear ht
          cases t
          · go_wp2_with fail
            go_quiet (fail)
            go_wp2_with fail
            go_roundw
            case rel => exact ⟨j + 1, by omega, by go_num, (by rw [S1.out, ← HTT.out, ← HX.out]; rfl), (by obtain ⟨q, hq⟩ := HQ2.out; exact ⟨q + nq, by rw [hq]; exact World.drewN_drewN _ _ _⟩)⟩
            case measure => simp [intOf]; omega
          · go_wp2_with fail
            go_quiet (fail)
            go_wp2_with fail
            go_roundw
            case rel => exact ⟨j + 1, by omega, by go_num, (by rw [S1.out, ← HTT.out]; rfl), (by obtain ⟨q, hq⟩ := HQ2.out; exact ⟨q + nq, by rw [hq]; exact World.drewN_drewN _ _ _⟩)⟩
            case measure => simp [intOf]; omega
        · have hjn : j = NA := by omega
          subst hjn
          have a3 : ¬ ((j : Int) < (j : Int)) := by omega
          rw [show (A.take j).any (fun x => x == y) = true by rw [HNA.out, List.take_length]; exact AY.out]
          go_wp2_with fail
          go_roundw
          case rel => exact ⟨k + 1, by omega, by go_num, HQ2⟩
          case measure => simp [intOf]; omega
    · have a1 : ¬ ((k : Int) < (NB : Int)) := by omega
      go_wp2_with fail
      go_ret
      refine ⟨rfl, ?_⟩
      obtain ⟨q, hq⟩ := HQ.out
      rw [hq]
      exact below_drewN B5.out q
end Go.Proofs.Ytjnjpbbpphklhaa.Rd
