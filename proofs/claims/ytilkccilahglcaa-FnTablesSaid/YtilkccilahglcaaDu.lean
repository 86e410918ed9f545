/- A list of probabilities and a number drawn of a code. -/
import Derived.Test.YtilkccilahglcaaDt
namespace Go.Proofs.Ytilkccilahglcaa.Dt
open Go.ChangeShapes Go.WideShapes Go.ChangeAt Go.RowKit
open Go.Proofs.Ytilkccilahglcaa.Rd

theorem pick4 (z : Int) (h0 : 0 ≤ z) (h1 : z < 4) : ∃ q, ∀ W : World, (W.alloc (Obj.cells #[.int .i64 (-1), .int .i64 101, .int .i64 100, .int .i64 0] 2)).cell? ⟨W.heap.size, z.toNat, none⟩ = some (.int .i64 q) := by
  have : z = 0 ∨ z = 1 ∨ z = 2 ∨ z = 3 := by omega
  rcases this with rfl | rfl | rfl | rfl
  · exact ⟨-1, fun W => by simp [go_sem]⟩
  · exact ⟨101, fun W => by simp [go_sem]⟩
  · exact ⟨100, fun W => by simp [go_sem]⟩
  · exact ⟨0, fun W => by simp [go_sem]⟩
theorem good_first {xs : List Value} {L : Pb.Ls} (G : Pb.Good xs L L.length) (hl : xs.length = L.length * 2) (h1 : 1 ≤ L.length) (q : Int) : Pb.Good (xs.set 0 (.int .i64 q)) (L.set 0 (q, Pb.c1 L 0)) L.length := by
  intro i hi
  obtain ⟨g0, g1⟩ := G i hi
  by_cases e : i = 0
  · subst e
    have e0 : Pb.c0 (L.set 0 (q, Pb.c1 L 0)) 0 = q := by unfold Pb.c0; simp [List.getD_eq_getElem?_getD, hi]
    have e1 : Pb.c1 (L.set 0 (q, Pb.c1 L 0)) 0 = Pb.c1 L 0 := by unfold Pb.c1; simp [List.getD_eq_getElem?_getD, hi]
    rw [e0, e1]
    exact ⟨by rw [List.getElem?_set_self (by omega)], by rw [List.getElem?_set_ne (by omega)]; exact g1⟩
  · have e2 : (L.set 0 (q, Pb.c1 L 0)).getD i (0, false) = L.getD i (0, false) := by rw [List.getD_eq_getElem?_getD, List.getElem?_set_ne (by omega), ← List.getD_eq_getElem?_getD]
    have e0 : Pb.c0 (L.set 0 (q, Pb.c1 L 0)) i = Pb.c0 L i := by unfold Pb.c0; rw [e2]
    have e1 : Pb.c1 (L.set 0 (q, Pb.c1 L 0)) i = Pb.c1 L i := by
      show ((L.set 0 (q, Pb.c1 L 0)).getD i (0, false)).2 = (L.getD i (0, false)).2
      rw [e2]
    rw [e0, e1]
    exact ⟨by rw [List.getElem?_set_ne (by omega)]; exact g0, by rw [List.getElem?_set_ne (by omega)]; exact g1⟩
theorem good_made (m : Nat) : Pb.Good ((madeCells (Value.agg #[.int .i64 0, .bool false]).cells (m * 2)).toList) (List.replicate m (0, false)) m := by
  intro i hi
  have e : (List.replicate m ((0 : Int), false)).getD i (0, false) = (0, false) := by simp [List.getD_eq_getElem?_getD, hi]
  have e0 : Pb.c0 (List.replicate m (0, false)) i = 0 := by unfold Pb.c0; rw [e]
  have e1 : Pb.c1 (List.replicate m (0, false)) i = false := by unfold Pb.c1; rw [e]
  rw [e0, e1]
  have l1 : i * 2 < m * 2 := by omega
  have l2 : i * 2 + 1 < m * 2 := by omega
  have m1 : i * 2 % 2 = 0 := by omega
  have m2 : (i * 2 + 1) % 2 = 1 := by omega
  exact ⟨by simp [madeCells, Value.cells, l1, m1], by simp [madeCells, Value.cells, l2, m2]⟩

set_option maxHeartbeats 1000000 in
theorem draw_any (r : Nat) (w : World) (h : Rd r w) : Calls Try.prog 11 #[.pointer (some ⟨r, 0, none⟩)] w fun e w' => ∃ v L, e = .returned v ∧ LR r w' v L ∧ Rd r w' ∧ Turn r w w' := by
  have hr := h.lt
  have S : Hid (Calls Try.prog 18 #[.pointer (some ⟨r, 0, none⟩), .int .i64 30] w fun e w' => ∃ v L, e = .returned v ∧ Pb.Row w' w.heap.size v L ∧ (1 ≤ L.length ∧ L.length ≤ 30) ∧ Rd r w' ∧ Turn r w w') := told_any r w h
  obtain ⟨i0, hi, hz0, hz1, hz2⟩ := info_parts Try.infoE
  clear h
  go_enter Try.func11, Try.ntmps11
  go_wp2_with fail
  refine S.out.mono ?_
  rintro e w1 ⟨v, L, rfl, r1, ⟨l1, l2⟩, k1, t1⟩
  obtain ⟨xs, o1, g1⟩ := r1
  rcases Pb.row_cases o1 with ⟨e0, _⟩ | ⟨g, cap, ev, gb, gs, gc, gm⟩
  · omega
  subst ev
  have K1 : Hid (Rd r w1) := k1
  have T1 : Hid (Turn r w w1) := t1
  have O1 : Hid (w1.ownsRow w.heap.size 34 2 (.slice (some ⟨g, 0, none⟩) L.length cap) L.length xs) := o1
  have G1 : Hid (Pb.Good xs L L.length) := g1
  clear k1 t1 o1 g1
  unfold maxLen at gm
  go_wp2_with fail
  refine (below_all r _ K1.out 20 (by omega) (by omega)).mono ?_
  rintro e w2 ⟨⟨u, ⟨hu1, hu2⟩, rfl⟩, k2, t2⟩
  have K2 : Hid (Rd r w2) := k2
  have T2 : Hid (Turn r w w2) := T1.out.trans t2
  have O2 : Hid (w2.ownsRow w.heap.size 34 2 (.slice (some ⟨g, 0, none⟩) L.length cap) L.length xs) := row_turn O1.out t2 hr
  have z2 := T2.out.size
  clear k2 t2 K1 T1 O1 S
  by_cases u0 : u = 0
  · subst u0
    have K3 : Hid (Rd r (w2.alloc (Obj.cells #[.int .i64 (-1), .int .i64 101, .int .i64 100, .int .i64 0] 2))) := K2.out.kept ((Below.refl (r + 1) w2).alloc (by omega) _) (by omega)
    go_wp2_with fail
    refine (below_all r _ K3.out 4 (by omega) (by omega)).mono ?_
    rintro e w3 ⟨⟨z, ⟨hz1', hz2'⟩, rfl⟩, k3, t3⟩
    obtain ⟨q, hq⟩ := pick4 z hz1' hz2'
    have c0 : w3.cell? ⟨w2.heap.size, z.toNat, none⟩ = some (.int .i64 q) := (t3.cell z.toNat (by simp) (by omega)).trans (hq w2)
    have o3 : w3.ownsRow w.heap.size 34 2 (.slice (some ⟨g, 0, none⟩) L.length cap) L.length xs := row_turn (O2.out.alloc _) t3 hr
    have lx : xs.length = L.length * 2 := o3.1
    obtain ⟨y, c1⟩ : ∃ y, w3.cell? ⟨g, 0, none⟩ = some y := ⟨xs[0]'(by omega), by rw [o3.cellAt 0 (by omega)]; exact List.getElem?_eq_getElem _⟩
    have f1 : w3.frozen? ⟨g, 0, none⟩ = false := o3.frozenAt 0
    have RN : Hid (Pb.Row (w3.setCell ⟨g, 0, none⟩ (.int .i64 q)) w.heap.size (.slice (some ⟨g, 0, none⟩) L.length cap) (L.set 0 (q, Pb.c1 L 0))) := (by
      show Pb.Row _ _ _ _
      unfold Pb.Row
      rw [List.length_set]
      exact ⟨_, (o3.stored 0 _).1, good_first G1.out lx l1 q⟩)
    have T3 : Turn r w w3 := T2.out.trans ((Turn.of ((Below.refl w2.heap.size w2).alloc (Nat.le_refl _) _) (Nat.le_refl _) (by omega)).trans t3)
    have KN : Hid (Rd r (w3.setCell ⟨g, 0, none⟩ (.int .i64 q))) := k3.kept ((Below.refl w.heap.size w3).setCell (p := ⟨g, 0, none⟩) gb _) hr
    have TN : Hid (Turn r w (w3.setCell ⟨g, 0, none⟩ (.int .i64 q))) := T3.setCell (p := ⟨g, 0, none⟩) gb hr _
    clear k3 t3 o3 T3 hq lx
    have l3 : (0 : Int) < (L.length : Int) := by omega
    go_wp2_with fail
    go_ret
    exact ⟨_, L.set 0 (q, Pb.c1 L 0), rfl, row_lr RN.out hr, KN.out, TN.out⟩
  · by_cases u1 : u = 1
    · subst u1
      go_wp2_with fail
      go_ret
      exact ⟨_, [], rfl, Or.inl ⟨rfl, _, _, rfl⟩, K2.out, T2.out⟩
    · by_cases u2 : u = 2
      · subst u2
        go_wp2_with fail
        refine (below_all r _ K2.out 2 (by omega) (by omega)).mono ?_
        rintro e w3 ⟨⟨z, ⟨hz1', hz2'⟩, rfl⟩, k3, t3⟩
        obtain ⟨m, hm⟩ : ∃ m : Nat, 1000 + z = (m : Int) := ⟨(1000 + z).toNat, by omega⟩
        have mb : 1000 ≤ m ∧ m ≤ 1001 := by omega
        have K3 : Hid (Rd r w3) := k3
        have T3 : Hid (Turn r w w3) := T2.out.trans t3
        have LB : Hid (w.heap.size ≤ w3.heap.size) := T3.out.size
        have GM : Hid (Pb.Good ((madeCells (Value.agg #[.int .i64 0, .bool false]).cells (m * 2)).toList) (List.replicate m (0, false)) m) := good_made m
        clear k3 t3
        go_wp2_with (at_make; refine wpList_make_full _ rfl _ _ 24 rfl w.heap.size 34 i0 (.agg #[.int .i64 0, .bool false]) 2 Try.underlying24 hi hz0 hz1 .i64 .i64 (m : Int) (m : Int) m rfl rfl rfl rfl (by rw [hz2]; omega) (by unfold maxLen; omega) LB.out ?_; intro w4 hown hgrow)
        have BG : Below w3.heap.size w3 w4 := (Below.refl _ _).grown hgrow (Nat.le_refl _) (fun k hk => by cases hk)
        have RN : Hid (Pb.Row w4 w.heap.size (.slice (some ⟨w3.heap.size, 0, none⟩) m m) (List.replicate m (0, false))) := (by
          show Pb.Row _ _ _ _
          unfold Pb.Row
          rw [List.length_replicate]
          exact ⟨_, hown, GM.out⟩)
        have KN : Hid (Rd r w4) := K3.out.kept BG (by have := LB.out; omega)
        have TN : Hid (Turn r w w4) := turn_below T3.out (BG.mono LB.out) hr
        clear hown hgrow BG
        go_wp2_with fail
        go_ret
        exact ⟨_, List.replicate m (0, false), rfl, row_lr RN.out hr, KN.out, TN.out⟩
      · have e0 : (u == 0) = false := by simpa using u0
        have e1 : (u == 1) = false := by simpa using u1
        have e2 : (u == 2) = false := by simpa using u2
        go_wp2_with fail
        go_ret
        exact ⟨_, L, rfl, row_lr ⟨xs, O2.out, G1.out⟩ hr, K2.out, T2.out⟩

set_option maxHeartbeats 1000000 in
theorem table_any (a : Option Addr) (n cap : Nat) (w : World) (hc : Go.Proofs.Ytilkccilahglcaa.Rd.Code w a n cap) (hn : n ≤ 1048576) : Calls Try.prog 5 #[.slice a n cap] w fun e w' => ∃ v L p, e = .returned (.tuple #[v, .int .i64 p]) ∧ Pb.Reads w' v L ∧ (-1 ≤ p ∧ p ≤ 101) ∧ Below w.heap.size w w' := by
  have O : Hid (Calls Try.prog 10 #[.slice a n cap] w fun e w' => e = .returned (.pointer (some ⟨w.heap.size, 0, none⟩)) ∧ w' = w.alloc (.cells #[.slice a n cap, .int .i64 0] 46)) := open_any _ a n cap rfl w
  have K0 : Hid (Rd w.heap.size (w.alloc (.cells #[.slice a n cap, .int .i64 0] 46))) := Rd.new hc hn (Below.refl _ _)
  have B0 : Hid (Below w.heap.size w (w.alloc (.cells #[.slice a n cap, .int .i64 0] 46))) := (Below.refl _ _).alloc (Nat.le_refl _) _
  clear hc
  go_enter Try.func5, Try.ntmps5
  go_wp2_with fail
  refine O.out.mono ?_
  rintro e w1 ⟨rfl, hw⟩
  rw [← hw] at K0 B0
  clear hw O
  go_wp2_with fail
  refine (draw_any _ _ K0.out).mono ?_
  rintro e w2 ⟨v, L, rfl, lr, k2, t2⟩
  have K2 : Hid (Rd w.heap.size w2) := k2
  have L2 : Hid (LR w.heap.size w2 v L) := lr
  have B2 : Hid (Below w.heap.size w w2) := Turn.below B0.out (Nat.le_refl _) t2
  obtain ⟨sa, sc, ev⟩ := lr.reads.form
  subst ev
  clear k2 lr t2 K0 B0
  go_wp2_with fail
  refine (below_all _ _ K2.out 103 (by omega) (by omega)).mono ?_
  rintro e w4 ⟨⟨x, ⟨hx1, hx2⟩, rfl⟩, k4, t4⟩
  have L4 : Hid (LR w.heap.size w4 (.slice sa L.length sc) L) := L2.out.turn t4
  have B4 : Hid (Below w.heap.size w w4) := Turn.below B2.out (Nat.le_refl _) t4
  clear k4 t4
  go_wp2_with fail
  exact bodyPost_ret (v := .tuple #[.slice sa L.length sc, .int .i64 (x - 1)]) (by simp [results, Try.results5, go_sem]) rfl ⟨_, L, _, rfl, L4.out.reads, ⟨by omega, by omega⟩, B4.out⟩
end Go.Proofs.Ytilkccilahglcaa.Dt
