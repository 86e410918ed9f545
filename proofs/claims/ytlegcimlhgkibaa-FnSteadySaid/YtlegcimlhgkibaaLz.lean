/- Levels: the model. -/
import Derived.Test.YtlegcimlhgkibaaLy
namespace Go.Proofs.Ytlegcimlhgkibaa.Lv
open Go.ChangeShapes Go.WideShapes Go.ChangeAt Go.RowKit
open Go.Proofs.Ytlegcimlhgkibaa.Lists Go.Proofs.Ytlegcimlhgkibaa.Al Go.Proofs.Ytlegcimlhgkibaa.Se

set_option linter.unusedVariables false
theorem below_drewN {B : Nat} {a w : World} (h : Below B a w) (n : Nat) : Below B a (w.drewN n) := h.trans ⟨rfl, rfl, rfl, Nat.le_refl _, fun _ _ => rfl⟩
theorem row_none (w : World) (b : Nat) : w.ownsRow b 2 1 (.slice none 0 0) 0 [] := ⟨by simp, .inl ⟨rfl, rfl⟩⟩
theorem empty_row {W : World} (e : TypeId) : (W.alloc (.cells #[] e)).ownsRow W.heap.size e 1 (.slice (some ⟨W.heap.size, 0, none⟩) 0 0) 0 [] := by
  refine ⟨by simp, .inr ⟨W.heap.size, 0, #[], rfl, Nat.le_refl _, ?_, Nat.le_refl _, Nat.zero_le _, by simp, by simp⟩⟩
  exact heap_alloc_new W _
theorem row_form {w : World} {base n : Nat} {v : Value} {xs : List Value} (h : w.ownsRow base 2 1 v n xs) : ∃ a cap, v = .slice a n cap := by
  rcases h.2 with ⟨rfl, rfl⟩ | ⟨g, cap, cur, rfl, _⟩
  · exact ⟨_, _, rfl⟩
  · exact ⟨_, _, rfl⟩
theorem cell_one (w : World) (v0 : Value) (t : TypeId) : ∀ j u, [v0][j]? = some u → (w.alloc (Obj.cells #[v0] t)).cell? ((⟨w.heap.size, 0, none⟩ : Addr).add j) = some u := by
  intro j u hj
  match j, hj with
  | 0, hj => simp at hj; subst hj; simp [Addr.add]
theorem one_one (x : Int) : ∀ u ∈ [Value.int .i64 x], u.oneCell' = true := by intro u hu; simp at hu; subst hu; rfl
theorem ints_snoc (L : List Int) (x : Int) : ints (L ++ [x]) = ints L ++ [.int .i64 x] := by simp [ints]
theorem good_no1 {S A B : List Int} {h : Int} (e : okS S = false) : X0 S A B h = [] ∧ good S A B h = false := by
  have : good S A B h = false := by unfold good; rw [e]; rfl
  exact ⟨by unfold X0; rw [this]; rfl, this⟩
theorem good_no2 {S A B : List Int} {h : Int} (e : (okB A B && inn h 1 100) = false) : X0 S A B h = [] ∧ good S A B h = false := by
  have : good S A B h = false := by unfold good; rw [e]; simp
  exact ⟨by unfold X0; rw [this]; rfl, this⟩
theorem good_yes {S A B : List Int} {h : Int} (e1 : okS S = true) (e2 : okB A B = true) (e3 : inn h 1 100 = true) : X0 S A B h = lvs A B h.toNat S S.length ∧ good S A B h = true := by
  have : good S A B h = true := by unfold good; rw [e1, e2, e3]; rfl
  exact ⟨by unfold X0; rw [this]; rfl, this⟩

set_option maxHeartbeats 1000000 in
theorem s_no1 (S A B : List Int) (h : Int) (vS vA vB : Value) (w : World) (hS : Lists.Reads w vS S) (hA : Lists.Reads w vA A) (hB : Lists.Reads w vB B) (fS : S.length < 9223372036854775808) (fA : A.length < 9223372036854775808) (fB : B.length < 9223372036854775808) (hok : okS S = false) :
    Calls Try.prog 6 #[vS, vA, vB, .int .i64 h] w fun e w' => ∃ u0, e = .returned (.tuple #[u0, .bool false]) ∧ w'.ownsRow w.heap.size 2 1 u0 0 [] ∧ Below w.heap.size w w' := by
  have C : Hid (∀ w', Below w.heap.size w w' → Calls Try.prog 12 #[vS] w' fun e w'' => e = .returned (.bool (okS S)) ∧ ∃ m, w'' = w'.drewN m) := fun w' hb => sok_any S vS w' (hS.on hb) fS
  rw [hok] at C
  have ER : Hid ((w.alloc (.cells #[] 2)).ownsRow w.heap.size 2 1 (.slice (some ⟨w.heap.size, 0, none⟩) 0 0) 0 []) := empty_row 2
  have EB : Hid (Below w.heap.size w (w.alloc (.cells #[] 2))) := (Below.refl _ _).alloc (Nat.le_refl _) _
  obtain ⟨a, cap, rfl⟩ := hS.form
  obtain ⟨a1, cap1, rfl⟩ := hA.form
  obtain ⟨a2, cap2, rfl⟩ := hB.form
  clear hS hA hB hok
  generalize S.length = n at *
  generalize A.length = n1 at *
  generalize B.length = n2 at *
  go_enter Try.func6, Try.ntmps6
  go_wp2_with fail
  refine (C.out _ EB.out).mono ?_
  rintro e w1 ⟨rfl, m0, rfl⟩
  go_wp2_with fail
  go_ret2
  exact ⟨_, rfl, ER.out, below_drewN EB.out _⟩

set_option maxHeartbeats 1000000 in
theorem s_no2 (S A B : List Int) (h : Int) (vS vA vB : Value) (w : World) (hS : Lists.Reads w vS S) (hA : Lists.Reads w vA A) (hB : Lists.Reads w vB B) (fS : S.length < 9223372036854775808) (fA : A.length < 9223372036854775808) (fB : B.length < 9223372036854775808) (hok : okS S = true) (hno : (okB A B && inn h 1 100) = false) :
    Calls Try.prog 6 #[vS, vA, vB, .int .i64 h] w fun e w' => ∃ u0, e = .returned (.tuple #[u0, .bool false]) ∧ w'.ownsRow w.heap.size 2 1 u0 0 [] ∧ Below w.heap.size w w' := by
  have C : Hid (∀ w', Below w.heap.size w w' → Calls Try.prog 12 #[vS] w' fun e w'' => e = .returned (.bool (okS S)) ∧ ∃ m, w'' = w'.drewN m) := fun w' hb => sok_any S vS w' (hS.on hb) fS
  have C2 : Hid (∀ w', Below w.heap.size w w' → Calls Try.prog 13 #[vA, vB, .int .i64 h] w' fun e w'' => e = .returned (.bool (okB A B && inn h 1 100)) ∧ ∃ m, w'' = w'.drewN m) := fun w' hb => slimits_any A B h vA vB w' (hA.on hb) (hB.on hb) fA fB
  rw [hok] at C
  rw [hno] at C2
  have ER : Hid ((w.alloc (.cells #[] 2)).ownsRow w.heap.size 2 1 (.slice (some ⟨w.heap.size, 0, none⟩) 0 0) 0 []) := empty_row 2
  have EB : Hid (Below w.heap.size w (w.alloc (.cells #[] 2))) := (Below.refl _ _).alloc (Nat.le_refl _) _
  obtain ⟨a, cap, rfl⟩ := hS.form
  obtain ⟨a1, cap1, rfl⟩ := hA.form
  obtain ⟨a2, cap2, rfl⟩ := hB.form
  clear hS hA hB hok hno
  generalize S.length = n at *
  generalize A.length = n1 at *
  generalize B.length = n2 at *
  go_enter Try.func6, Try.ntmps6
  go_wp2_with fail
  refine (C.out _ EB.out).mono ?_
  rintro e w1 ⟨rfl, m0, rfl⟩
  go_wp2_with fail
  refine (C2.out _ (below_drewN EB.out _)).mono ?_
  rintro e w1 ⟨rfl, m1, rfl⟩
  go_wp2_with fail
  go_ret2
  exact ⟨_, rfl, ER.out, below_drewN EB.out _⟩

set_option maxHeartbeats 4000000 in
theorem s_yes (S A B : List Int) (hh : Nat) (vS vA vB : Value) (w : World) (hS : Lists.Reads w vS S) (hA : Lists.Reads w vA A) (hB : Lists.Reads w vB B) (fS : S.length < 9223372036854775808) (fA : A.length < 9223372036854775808) (fB : B.length < 9223372036854775808) (hok : okS S = true) (ho2 : okB A B = true) (ho3 : inn (hh : Int) 1 100 = true) :
    Calls Try.prog 6 #[vS, vA, vB, .int .i64 (hh : Int)] w fun e w' => ∃ u0, e = .returned (.tuple #[u0, .bool true]) ∧ w'.ownsRow w.heap.size 2 1 u0 S.length (ints (lvs A B hh S S.length)) ∧ Below w.heap.size w w' := by
  have C : Hid (∀ w', Below w.heap.size w w' → Calls Try.prog 12 #[vS] w' fun e w'' => e = .returned (.bool (okS S)) ∧ ∃ m, w'' = w'.drewN m) := fun w' hb => sok_any S vS w' (hS.on hb) fS
  have C2 : Hid (∀ w', Below w.heap.size w w' → Calls Try.prog 13 #[vA, vB, .int .i64 (hh : Int)] w' fun e w'' => e = .returned (.bool (okB A B && inn (hh : Int) 1 100)) ∧ ∃ m, w'' = w'.drewN m) := fun w' hb => slimits_any A B hh vA vB w' (hA.on hb) (hB.on hb) fA fB
  obtain ⟨a1, a2, a3, a4, a5⟩ := okB_parts ho2
  obtain ⟨s1, s2, _⟩ := okS_parts hok
  rw [hok] at C
  rw [ho2, ho3, Bool.true_and] at C2
  rw [inn_iff] at ho3
  obtain ⟨g1, g2⟩ := ho3
  have TA : Hid (∀ w' x, Below w.heap.size w w' → Calls Try.prog 14 #[vA, .int .i64 x] w' fun e w'' => e = .returned (.int .i64 (tp A x : Int)) ∧ w'' = w') := fun w' x hb => stop_any A x vA w' (hA.on hb) a2 a4
  have TB : Hid (∀ w' x, Below w.heap.size w w' → Calls Try.prog 14 #[vB, .int .i64 x] w' fun e w'' => e = .returned (.int .i64 (tp B x : Int)) ∧ w'' = w') := fun w' x hb => stop_any B x vB w' (hB.on hb) (by omega) a5
  have HRN : Hid (∀ k, (rn A B hh S k).1 ≤ A.length ∧ (rn A B hh S k).2 < hh) := rn_bd A B hh S a3 (by omega)
  have HTA : Hid (∀ x, tp A x ≤ A.length) := tp_le A
  have HTB : Hid (∀ x, tp B x ≤ A.length) := fun x => by have := tp_le B x; show _ ≤ _; omega
  have ER0 : Hid (∀ m, ((w.alloc (.cells #[] 2)).drewN m).ownsRow w.heap.size 2 1 (.slice (some ⟨w.heap.size, 0, none⟩) 0 0) 0 (ints (lvs A B hh S 0))) := fun m => empty_row 2
  have EB : Hid (Below w.heap.size w (w.alloc (.cells #[] 2))) := (Below.refl _ _).alloc (Nat.le_refl _) _
  obtain ⟨i0, hi, hz0, hz1, hz2⟩ := info_parts Lists.Try.info2
  rcases hS with ⟨rfl, _⟩ | ⟨b, o, cap, rfl, _, _, hb0, hc0⟩
  · simp at s1
  have HC : Hid (∀ w', Below w.heap.size w w' → ∀ i, i < S.length → w'.cell? ⟨b, o + i, none⟩ = some (.int .i64 (S.getD i 0))) := fun w' hb i hi => (hb.cell (p := ⟨b, o + i, none⟩) hb0).trans (hc0 i hi)
  rcases hB with ⟨rfl, _⟩ | ⟨b2, o2, cap2, rfl, _, _, hb2, hc2⟩
  · simp at a3; omega
  have HCB : Hid (∀ w', Below w.heap.size w w' → ∀ i, i < B.length → w'.cell? ⟨b2, o2 + i, none⟩ = some (.int .i64 (B.getD i 0))) := fun w' hb i hi => (hb.cell (p := ⟨b2, o2 + i, none⟩) hb2).trans (hc2 i hi)
  obtain ⟨a1', cap1, rfl⟩ := hA.form
  have HLB : Hid (B.length = A.length) := a3
  have HST : Hid (∀ k, rn A B hh S (k + 1) = st A B hh (rn A B hh S k) (S.getD k 0)) := fun k => rfl
  have HLV : Hid (∀ k, lvs A B hh S (k + 1) = lvs A B hh S k ++ [((rn A B hh S (k + 1)).1 : Int)]) := fun k => rfl
  clear hA hok ho2 hc0 hb0 hc2 hb2 a4 a5 a3
  obtain ⟨n, hn⟩ : ∃ n, n = S.length := ⟨_, rfl⟩
  obtain ⟨na, hna⟩ : ∃ na, na = A.length := ⟨_, rfl⟩
  obtain ⟨nb, hnb⟩ : ∃ nb, nb = B.length := ⟨_, rfl⟩
  rw [← hn] at fS s1 s2 C HC ⊢
  rw [← hna] at fA a1 a2 C2 TA HRN HTA HTB HLB ⊢
  rw [← hnb] at fB C2 TB HCB HLB ⊢
  clear hn hna hnb
  go_enter Try.func6, Try.ntmps6
  go_wp2_with fail
  refine (C.out _ EB.out).mono ?_
  rintro e w1 ⟨rfl, m0, rfl⟩
  go_wp2_with fail
  refine (C2.out _ (below_drewN EB.out _)).mono ?_
  rintro e w1 ⟨rfl, m1, rfl⟩
  have BS : Hid (Below w.heap.size w (((w.alloc (.cells #[] 2)).drewN m0).drewN m1)) := below_drewN (below_drewN EB.out _) _
  have RS : Hid ((((w.alloc (.cells #[] 2)).drewN m0).drewN m1).ownsRow w.heap.size 2 1 (.slice (some ⟨w.heap.size, 0, none⟩) 0 0) 0 (ints (lvs A B hh S 0))) := ER0.out 0
  generalize ((w.alloc (.cells #[] 2)).drewN m0).drewN m1 = wS at *
  clear C C2 ER0 EB
  go_wp2_with fail
  go_loopw [10, 11, 12, 13] (fun v lv ct i wr => ∃ k : Nat, k ≤ n ∧ i = .int .i64 k ∧ lv = .int .i64 ((rn A B hh S k).1 : Int) ∧ ct = .int .i64 ((rn A B hh S k).2 : Int) ∧ Hid (wr.ownsRow w.heap.size 2 1 v k (ints (lvs A B hh S k))) ∧ Hid (Below w.heap.size w wr)) (fun _ _ _ i _ => n - (intOf i).toNat)
  case atStart => exact ⟨0, Nat.zero_le _, rfl, rfl, rfl, RS, BS⟩
  case round =>
    clear RS BS
    obtain ⟨k, hk, rfl, rfl, rfl, R, BB⟩ := hrel
    obtain ⟨v, hv⟩ : ∃ v, v = u10 := ⟨_, rfl⟩
    subst hv
    obtain ⟨sa, sc, hv⟩ := row_form R.out
    subst hv
    by_cases hlt : k < n
    · have i1 : (0 : Int) ≤ (k : Int) := by omega
      have i2 : (k : Int) < (n : Int) := by omega
      have q := HC.out wr BB.out k hlt
      have E0 := HST.out k
      have EP := HLV.out k
      obtain ⟨r1, r2⟩ := HRN.out k
      obtain ⟨r3, r4⟩ := HRN.out (k + 1)
      have zr := BB.out.size
      have OL : Hid (∀ g, (Value.slice sa k sc).ownBlock = some g → w.heap.size ≤ g ∧ g < wr.heap.size) := fun g hg => R.out.lt g hg
      generalize S.getD k 0 = x at *
      obtain ⟨lc, hlc⟩ : ∃ p : Nat × Nat, p = rn A B hh S k := ⟨_, rfl⟩
      obtain ⟨l, c⟩ := lc
      rw [← hlc] at E0 r1 r2 ⊢
      simp only at r1 r2 ⊢
      have t1 := TA.out wr x BB.out
      have t1' : Hid (Calls Try.prog 14 #[.slice a1' na cap1, .int .i64 x] wr fun e w'' => e = .returned (.int .i64 (tp A x : Int)) ∧ w'' = wr) := t1
      clear t1 hlc
      have tb1 := HTA.out x
      have tb2 := HTB.out x
      by_cases h1 : l < tp A x
      · have ER : Hid (rn A B hh S (k + 1) = (tp A x, 0)) := (by show _ = _; rw [E0]; unfold st; rw [if_pos h1])
        have EP : Hid (lvs A B hh S (k + 1) = lvs A B hh S k ++ [(tp A x : Int)]) := (by show _ = _; rw [EP, ER.out])
        have j1 : (l : Int) < (tp A x : Int) := by omega
        rw [ER.out] at r3 r4
        clear E0 r3 r4
        generalize lvs A B hh S k = X at *
        generalize tp A x = l2 at *
        go_wp2_with fail
        refine t1'.out.mono ?_
        rintro e w1 ⟨rfl, hw⟩
        have hw' := hw.symm
        subst hw'
        go_wp2_with fail
        refine t1'.out.mono ?_
        rintro e w1 ⟨rfl, hw⟩
        have hw' := hw.symm
        subst hw'
        go_wp2_with (at_builtin; refine wpList_append_own _ rfl _ _ 24 rfl w.heap.size 2 i0 (.int .i64 0) 1 8 Try.underlying24 hi hz0 hz1 hz2 rfl (by decide) _ _ _ rfl (R.out.alloc _) ⟨wr.heap.size, 0, none⟩ 1 1 [.int .i64 (l2 : Int)] rfl rfl (cell_one wr _ 2) (one_one _) (by unfold maxLen; omega) (by omega) (by simp; omega) ?_)
        · intro v' w5 hown hgrow _
          have R5 : Hid (w5.ownsRow w.heap.size 2 1 v' (k + 1) (ints (lvs A B hh S (k + 1)))) := (by show World.ownsRow _ _ _ _ _ _ _; rw [EP.out, ints_snoc]; exact hown)
          have B5 : Hid (Below w.heap.size w w5) := (BB.out.alloc zr _).grown hgrow (by simp; omega) (fun b hb => (OL.out b hb).1)
          clear hown hgrow R BB
          go_wp2_with fail
          go_roundw
          case rel => exact ⟨k + 1, by omega, by go_num, by rw [ER.out], by rw [ER.out]; rfl, R5, B5⟩
          case measure => simp [intOf]; omega
      · have j1 : ¬ (l : Int) < (tp A x : Int) := by omega
        by_cases h2 : 0 < l
        · have j2 : (0 : Int) < (l : Int) := by omega
          have j3 : (1 : Int) ≤ (l : Int) := by omega
          have j4 : (0 : Int) ≤ (l : Int) - 1 := by omega
          have j5 : (l : Int) - 1 < (nb : Int) := by have := HLB.out; omega
          have j6 : ((l : Int) - 1).toNat = l - 1 := by omega
          have j7 : IntKind.i64.wrap ((l : Int) - 1) = (l : Int) - 1 := IntWalk.i64_in _ (by omega)
          have qb := HCB.out wr BB.out (l - 1) (by have := HLB.out; omega)
          by_cases h3 : x < B.getD (l - 1) 0
          · by_cases h4 : c + 1 = hh
            · have ER : Hid (rn A B hh S (k + 1) = (tp B x, 0)) := (by show _ = _; rw [E0]; unfold st; rw [if_neg h1, if_pos (And.intro h2 h3), if_pos h4])
              have EP : Hid (lvs A B hh S (k + 1) = lvs A B hh S k ++ [(tp B x : Int)]) := (by show _ = _; rw [EP, ER.out])
              have t2 : Hid (Calls Try.prog 14 #[.slice (some ⟨b2, o2, none⟩) nb cap2, .int .i64 x] wr fun e w'' => e = .returned (.int .i64 (tp B x : Int)) ∧ w'' = wr) := TB.out wr x BB.out
              have e1 : ((c : Int) + 1 == (hh : Int)) = true := by simp; omega
              have wq : IntKind.i64.wrap ((c : Int) + 1) = (c : Int) + 1 := IntWalk.i64_in _ (by omega)
              clear E0 r3 r4
              generalize lvs A B hh S k = X at *
              generalize tp A x = l1 at *
              generalize tp B x = l2 at *
              generalize B.getD (l - 1) 0 = y at *
              go_wp2_with fail
              refine t1'.out.mono ?_
              rintro e w1 ⟨rfl, hw⟩
              have hw' := hw.symm
              subst hw'
              go_wp2_with fail
              refine t2.out.mono ?_
              rintro e w1 ⟨rfl, hw⟩
              have hw' := hw.symm
              subst hw'
              go_wp2_with (at_builtin; refine wpList_append_own _ rfl _ _ 24 rfl w.heap.size 2 i0 (.int .i64 0) 1 8 Try.underlying24 hi hz0 hz1 hz2 rfl (by decide) _ _ _ rfl (R.out.alloc _) ⟨wr.heap.size, 0, none⟩ 1 1 [.int .i64 (l2 : Int)] rfl rfl (cell_one wr _ 2) (one_one _) (by unfold maxLen; omega) (by omega) (by simp; omega) ?_)
              · intro v' w5 hown hgrow _
                have R5 : Hid (w5.ownsRow w.heap.size 2 1 v' (k + 1) (ints (lvs A B hh S (k + 1)))) := (by show World.ownsRow _ _ _ _ _ _ _; rw [EP.out, ints_snoc]; exact hown)
                have B5 : Hid (Below w.heap.size w w5) := (BB.out.alloc zr _).grown hgrow (by simp; omega) (fun b hb => (OL.out b hb).1)
                clear hown hgrow R BB
                go_wp2_with fail
                go_roundw
                case rel => exact ⟨k + 1, by omega, by go_num, by rw [ER.out], by rw [ER.out]; rfl, R5, B5⟩
                case measure => simp [intOf]; omega
            · have ER : Hid (rn A B hh S (k + 1) = (l, c + 1)) := (by show _ = _; rw [E0]; unfold st; rw [if_neg h1, if_pos (And.intro h2 h3), if_neg h4])
              have EP : Hid (lvs A B hh S (k + 1) = lvs A B hh S k ++ [(l : Int)]) := (by show _ = _; rw [EP, ER.out])
              have e1 : ((c : Int) + 1 == (hh : Int)) = false := by simp; omega
              have wq : IntKind.i64.wrap ((c : Int) + 1) = (c : Int) + 1 := IntWalk.i64_in _ (by omega)
              obtain ⟨l2, hl2⟩ : ∃ l2, l2 = l := ⟨_, rfl⟩
              subst hl2
              clear E0 r3 r4
              generalize lvs A B hh S k = X at *
              generalize tp A x = l1 at *
              generalize B.getD (l2 - 1) 0 = y at *
              go_wp2_with fail
              refine t1'.out.mono ?_
              rintro e w1 ⟨rfl, hw⟩
              have hw' := hw.symm
              subst hw'
              go_wp2_with (at_builtin; refine wpList_append_own _ rfl _ _ 24 rfl w.heap.size 2 i0 (.int .i64 0) 1 8 Try.underlying24 hi hz0 hz1 hz2 rfl (by decide) _ _ _ rfl (R.out.alloc _) ⟨wr.heap.size, 0, none⟩ 1 1 [.int .i64 (l2 : Int)] rfl rfl (cell_one wr _ 2) (one_one _) (by unfold maxLen; omega) (by omega) (by simp; omega) ?_)
              · intro v' w5 hown hgrow _
                have R5 : Hid (w5.ownsRow w.heap.size 2 1 v' (k + 1) (ints (lvs A B hh S (k + 1)))) := (by show World.ownsRow _ _ _ _ _ _ _; rw [EP.out, ints_snoc]; exact hown)
                have B5 : Hid (Below w.heap.size w w5) := (BB.out.alloc zr _).grown hgrow (by simp; omega) (fun b hb => (OL.out b hb).1)
                clear hown hgrow R BB
                go_wp2_with fail
                go_roundw
                case rel => exact ⟨k + 1, by omega, by go_num, by rw [ER.out], by rw [ER.out]; go_num, R5, B5⟩
                case measure => simp [intOf]; omega
          · have g3 : decide (x < B.getD (l - 1) 0) = false := decide_eq_false h3
            have ER : Hid (rn A B hh S (k + 1) = (l, 0)) := (by show _ = _; rw [E0]; unfold st; rw [if_neg h1, if_neg (fun e : 0 < l ∧ x < B.getD (l - 1) 0 => h3 e.2)])
            have EP : Hid (lvs A B hh S (k + 1) = lvs A B hh S k ++ [(l : Int)]) := (by show _ = _; rw [EP, ER.out])
            obtain ⟨l2, hl2⟩ : ∃ l2, l2 = l := ⟨_, rfl⟩
            subst hl2
            clear E0 r3 r4
            generalize lvs A B hh S k = X at *
            generalize tp A x = l1 at *
            generalize B.getD (l2 - 1) 0 = y at *
            go_wp2_with fail
            refine t1'.out.mono ?_
            rintro e w1 ⟨rfl, hw⟩
            have hw' := hw.symm
            subst hw'
            go_wp2_with (at_builtin; refine wpList_append_own _ rfl _ _ 24 rfl w.heap.size 2 i0 (.int .i64 0) 1 8 Try.underlying24 hi hz0 hz1 hz2 rfl (by decide) _ _ _ rfl (R.out.alloc _) ⟨wr.heap.size, 0, none⟩ 1 1 [.int .i64 (l2 : Int)] rfl rfl (cell_one wr _ 2) (one_one _) (by unfold maxLen; omega) (by omega) (by simp; omega) ?_)
            · intro v' w5 hown hgrow _
              have R5 : Hid (w5.ownsRow w.heap.size 2 1 v' (k + 1) (ints (lvs A B hh S (k + 1)))) := (by show World.ownsRow _ _ _ _ _ _ _; rw [EP.out, ints_snoc]; exact hown)
              have B5 : Hid (Below w.heap.size w w5) := (BB.out.alloc zr _).grown hgrow (by simp; omega) (fun b hb => (OL.out b hb).1)
              clear hown hgrow R BB
              go_wp2_with fail
              go_roundw
              case rel => exact ⟨k + 1, by omega, by go_num, by rw [ER.out], by rw [ER.out]; rfl, R5, B5⟩
              case measure => simp [intOf]; omega
        · have l0 : l = 0 := by omega
          have ER : Hid (rn A B hh S (k + 1) = (l, 0)) := (by show _ = _; rw [E0]; unfold st; rw [if_neg h1, if_neg (fun e : 0 < l ∧ x < B.getD (l - 1) 0 => h2 e.1)])
          have EP : Hid (lvs A B hh S (k + 1) = lvs A B hh S k ++ [(l : Int)]) := (by show _ = _; rw [EP, ER.out])
          obtain ⟨l2, hl2⟩ : ∃ l2, l2 = l := ⟨_, rfl⟩
          subst hl2
          have g2' : decide ((0 : Int) < (l2 : Int)) = false := decide_eq_false (by omega)
          have g3' : decide (0 < l2) = false := decide_eq_false (by omega)
          clear E0 r3 r4 l0
          generalize lvs A B hh S k = X at *
          generalize tp A x = l1 at *
          go_wp2_with fail
          refine t1'.out.mono ?_
          rintro e w1 ⟨rfl, hw⟩
          have hw' := hw.symm
          subst hw'
          go_wp2_with (at_builtin; refine wpList_append_own _ rfl _ _ 24 rfl w.heap.size 2 i0 (.int .i64 0) 1 8 Try.underlying24 hi hz0 hz1 hz2 rfl (by decide) _ _ _ rfl (R.out.alloc _) ⟨wr.heap.size, 0, none⟩ 1 1 [.int .i64 (l2 : Int)] rfl rfl (cell_one wr _ 2) (one_one _) (by unfold maxLen; omega) (by omega) (by simp; omega) ?_)
          · intro v' w5 hown hgrow _
            have R5 : Hid (w5.ownsRow w.heap.size 2 1 v' (k + 1) (ints (lvs A B hh S (k + 1)))) := (by show World.ownsRow _ _ _ _ _ _ _; rw [EP.out, ints_snoc]; exact hown)
            have B5 : Hid (Below w.heap.size w w5) := (BB.out.alloc zr _).grown hgrow (by simp; omega) (fun b hb => (OL.out b hb).1)
            clear hown hgrow R BB
            go_wp2_with fail
            go_roundw
            case rel => exact ⟨k + 1, by omega, by go_num, by rw [ER.out], by rw [ER.out]; rfl, R5, B5⟩
            case measure => simp [intOf]; omega
    · have hkn : k = n := by omega
      subst hkn
      go_wp2_with fail
      go_ret2
      exact ⟨_, rfl, R.out, BB.out⟩
end Go.Proofs.Ytlegcimlhgkibaa.Lv
