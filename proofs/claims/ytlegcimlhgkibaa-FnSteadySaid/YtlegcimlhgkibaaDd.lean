/- Series and a share drawn of a code. -/
import Derived.Test.YtlegcimlhgkibaaDc
namespace Go.Proofs.Ytlegcimlhgkibaa.Dc
open Go.ChangeShapes Go.WideShapes Go.ChangeAt Go.RowKit
open Go.Proofs.Ytlegcimlhgkibaa.Lists Go.Proofs.Ytlegcimlhgkibaa.Al Go.Proofs.Ytlegcimlhgkibaa.Rd Go.Proofs.Ytlegcimlhgkibaa.Se

theorem row_put {w : World} {B g n : Nat} {cap : Nat} {O : List Int} (R : w.ownsRow B 2 1 (.slice (some ⟨g, 0, none⟩) n cap) n (ints O)) (x : Nat) (z : Int) : (w.setCell ⟨g, x, none⟩ (.int .i64 z)).ownsRow B 2 1 (.slice (some ⟨g, 0, none⟩) n cap) n (ints (O.set x z)) := by
  rw [← Lists.ints_set]
  exact (R.stored x _).1

set_option maxHeartbeats 1000000 in
theorem draw_any (r : Nat) (w : World) (h : Rd r w) : Calls Try.prog 11 #[.pointer (some ⟨r, 0, none⟩)] w fun e w' => ∃ v L, e = .returned v ∧ LR r w' v L ∧ L.length ≤ 501 ∧ Rd r w' ∧ Turn r w w' := by
  have hr := h.lt
  have S : Hid (Calls Try.prog 20 #[.pointer (some ⟨r, 0, none⟩), .int .i64 50] w fun e w' => ∃ v L, e = .returned v ∧ w'.ownsRow w.heap.size 2 1 v L.length (ints L) ∧ (1 ≤ L.length ∧ L.length ≤ 50) ∧ Rd r w' ∧ Turn r w w') := series_any r w h
  obtain ⟨i0, hi, hz0, hz1, hz2⟩ := info_parts Lists.Try.info2
  clear h
  go_enter Try.func11, Try.ntmps11
  go_wp2_with fail
  refine S.out.mono ?_
  rintro e w1 ⟨v, L, rfl, r1, ⟨l1, l2⟩, k1, t1⟩
  rcases row_cases r1 with ⟨e0, _⟩ | ⟨g, cap, ev, gb, gs, gc, gm⟩
  · rw [e0] at l1; simp at l1
  subst ev
  have K1 : Hid (Rd r w1) := k1
  have T1 : Hid (Turn r w w1) := t1
  have R1 : Hid (w1.ownsRow w.heap.size 2 1 (.slice (some ⟨g, 0, none⟩) L.length cap) L.length (ints L)) := r1
  clear k1 t1 r1
  unfold maxLen at gm
  go_wp2_with fail
  refine (below_all r _ K1.out 20 (by omega) (by omega)).mono ?_
  rintro e w2 ⟨⟨u, ⟨hu1, hu2⟩, rfl⟩, k2, t2⟩
  have K2 : Hid (Rd r w2) := k2
  have T2 : Hid (Turn r w w2) := T1.out.trans t2
  have R2 : Hid (w2.ownsRow w.heap.size 2 1 (.slice (some ⟨g, 0, none⟩) L.length cap) L.length (ints L)) := row_turn R1.out t2 hr
  have z2 := T2.out.size
  have gs2 : g < w2.heap.size := (R2.out.lt g rfl).2
  clear k2 t2 K1 T1 R1 S
  by_cases u0 : u = 0
  · subst u0
    have K3 : Hid (Rd r (w2.alloc (Obj.cells #[.int .i64 100000, .int .i64 100001, .int .i64 (-100000), .int .i64 (-100001)] 2))) := K2.out.kept ((Below.refl (r + 1) w2).alloc (by omega) _) (by omega)
    go_wp2_with fail
    refine (below_all r _ K3.out 4 (by omega) (by omega)).mono ?_
    rintro e w3 ⟨⟨z, ⟨hz1', hz2'⟩, rfl⟩, k3, t3⟩
    obtain ⟨q, hq⟩ := pick4 z hz1' hz2'
    have c0 : w3.cell? ⟨w2.heap.size, z.toNat, none⟩ = some (.int .i64 q) := (t3.cell z.toNat (by simp) (by omega)).trans (hq w2)
    have R3 : w3.ownsRow w.heap.size 2 1 (.slice (some ⟨g, 0, none⟩) L.length cap) L.length (ints L) := row_turn (R2.out.alloc _) t3 hr
    have c1 : w3.cell? ⟨g, 0, none⟩ = some (.int .i64 (L.getD 0 0)) := row_cell R3 0 (by omega)
    have f1 : w3.frozen? ⟨g, 0, none⟩ = false := R3.frozenAt 0
    have RN : Hid ((w3.setCell ⟨g, 0, none⟩ (.int .i64 q)).ownsRow w.heap.size 2 1 (.slice (some ⟨g, 0, none⟩) L.length cap) L.length (ints (L.set 0 q))) := row_put R3 0 q
    have T3 : Turn r w w3 := T2.out.trans ((Turn.of ((Below.refl w2.heap.size w2).alloc (Nat.le_refl _) _) (Nat.le_refl _) (by omega)).trans t3)
    have KN : Hid (Rd r (w3.setCell ⟨g, 0, none⟩ (.int .i64 q))) := k3.kept ((Below.refl w.heap.size w3).setCell (p := ⟨g, 0, none⟩) gb _) hr
    have TN : Hid (Turn r w (w3.setCell ⟨g, 0, none⟩ (.int .i64 q))) := T3.setCell (p := ⟨g, 0, none⟩) gb hr _
    clear k3 t3 R3 T3 hq
    have l3 : (0 : Int) < (L.length : Int) := by omega
    generalize L.getD 0 0 = y at *
    go_wp2_with fail
    go_ret
    refine ⟨_, L.set 0 q, rfl, row_lr (B := w.heap.size) (by rw [List.length_set]; exact RN.out) hr, by rw [List.length_set]; omega, KN.out, TN.out⟩
  · by_cases u1 : u = 1
    · subst u1
      go_wp2_with fail
      go_ret
      exact ⟨_, [], rfl, Or.inl ⟨rfl, _, _, rfl⟩, by simp, K2.out, T2.out⟩
    · by_cases u2 : u = 2
      · subst u2
        go_wp2_with fail
        refine (below_all r _ K2.out 2 (by omega) (by omega)).mono ?_
        rintro e w3 ⟨⟨z, ⟨hz1', hz2'⟩, rfl⟩, k3, t3⟩
        obtain ⟨m, hm⟩ : ∃ m : Nat, 500 + z = (m : Int) := ⟨(500 + z).toNat, by omega⟩
        have mb : 500 ≤ m ∧ m ≤ 501 := by omega
        have K3 : Hid (Rd r w3) := k3
        have T3 : Hid (Turn r w w3) := T2.out.trans t3
        have LB : Hid (w.heap.size ≤ w3.heap.size) := T3.out.size
        have FZ : Hid ((madeCells (Value.int .i64 0).cells (m * 1)).toList = ints (List.replicate m 0)) := zeros_made m
        clear k3 t3
        go_wp2_with (at_make; refine wpList_make_full _ rfl _ _ 24 rfl w.heap.size 2 i0 (.int .i64 0) 1 Try.underlying24 hi hz0 hz1 .i64 .i64 (m : Int) (m : Int) m rfl rfl rfl rfl (by rw [hz2]; omega) (by unfold maxLen; omega) LB.out ?_; intro w4 hown hgrow)
        rw [FZ.out] at hown
        have BG : Below w3.heap.size w3 w4 := (Below.refl _ _).grown hgrow (Nat.le_refl _) (fun k hk => by cases hk)
        have RN : Hid (LR r w4 (.slice (some ⟨w3.heap.size, 0, none⟩) m m) (List.replicate m 0)) := row_lr (B := w.heap.size) (by rw [List.length_replicate]; exact hown) hr
        have KN : Hid (Rd r w4) := K3.out.kept BG (by have := LB.out; omega)
        have TN : Hid (Turn r w w4) := turn_below T3.out (BG.mono LB.out) hr
        clear hown hgrow BG
        go_wp2_with fail
        go_ret
        exact ⟨_, List.replicate m 0, rfl, RN.out, by rw [List.length_replicate]; omega, KN.out, TN.out⟩
      · by_cases u3 : u = 3
        · subst u3
          have c1 : w2.cell? ⟨g, 0, none⟩ = some (.int .i64 (L.getD 0 0)) := row_cell R2.out 0 (by omega)
          have LN : Hid (LR r w2 (.slice (some ⟨g, 0, none⟩) 1 cap) [L.getD 0 0]) := Or.inr ⟨g, 0, cap, rfl, by simp; omega, by unfold maxLen; omega, gs2, by omega, fun i hi => by
            have : i = 0 := by simp at hi; omega
            subst this
            exact c1⟩
          have c2 : (1 : Int) ≤ (cap : Int) := by omega
          have c3 : 1 ≤ cap := by omega
          clear c1
          go_wp2_with fail
          go_ret
          exact ⟨_, [L.getD 0 0], rfl, LN.out, by simp, K2.out, T2.out⟩
        · have e0 : (u == 0) = false := by simpa using u0
          have e1 : (u == 1) = false := by simpa using u1
          have e2 : (u == 2) = false := by simpa using u2
          have e3 : (u == 3) = false := by simpa using u3
          go_wp2_with fail
          go_ret
          exact ⟨_, L, rfl, row_lr R2.out hr, by omega, K2.out, T2.out⟩

end Go.Proofs.Ytlegcimlhgkibaa.Dc
