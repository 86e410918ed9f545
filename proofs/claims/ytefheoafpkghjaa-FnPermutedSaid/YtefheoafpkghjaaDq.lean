/- Two samples drawn of a code. -/
import Derived.Test.YtefheoafpkghjaaDp
namespace Go.Proofs.Ytefheoafpkghjaa.Dp
open Go.ChangeShapes Go.WideShapes Go.ChangeAt Go.RowKit
open Go.Proofs.Ytefheoafpkghjaa.Lists Go.Proofs.Ytefheoafpkghjaa.Al Go.Proofs.Ytefheoafpkghjaa.Rd

theorem pick2 (z : Int) (h0 : 0 ≤ z) (h1 : z < 2) : ∃ q, ∀ W : World, (W.alloc (Obj.cells #[.int .i64 1000000, .int .i64 1000001] 2)).cell? ⟨W.heap.size, z.toNat, none⟩ = some (.int .i64 q) := by
  have : z = 0 ∨ z = 1 := by omega
  rcases this with rfl | rfl
  · exact ⟨1000000, fun W => by simp [go_sem]⟩
  · exact ⟨1000001, fun W => by simp [go_sem]⟩

set_option maxHeartbeats 2000000 in
theorem draw_any (a : Option Addr) (n0 cap : Nat) (w : World) (hc : Go.Proofs.Ytefheoafpkghjaa.Rd.Code w a n0 cap) (hn0 : n0 ≤ 1048576) : Calls Try.prog 5 #[.slice a n0 cap] w fun e w' => ∃ v s V S, e = .returned (.tuple #[v, s]) ∧ Lists.Reads w' v V ∧ Lists.Reads w' s S ∧ V.length ≤ 9 ∧ S.length ≤ 9 ∧ Below w.heap.size w w' := by
  have O : Hid (Calls Try.prog 8 #[.slice a n0 cap] w fun e w' => e = .returned (.pointer (some ⟨w.heap.size, 0, none⟩)) ∧ w' = w.alloc (.cells #[.slice a n0 cap, .int .i64 0] 40)) := open_any _ a n0 cap rfl w
  have K0 : Hid (Rd w.heap.size (w.alloc (.cells #[.slice a n0 cap, .int .i64 0] 40))) := Rd.new hc hn0 (Below.refl _ _)
  have B0 : Hid (Below w.heap.size w (w.alloc (.cells #[.slice a n0 cap, .int .i64 0] 40))) := (Below.refl _ _).alloc (Nat.le_refl _) _
  have zz : (w.alloc (.cells #[.slice a n0 cap, .int .i64 0] 40)).heap.size = w.heap.size + 1 := by simp
  obtain ⟨i0, hi, hz0, hz1, hz2⟩ := info_parts Lists.Try.info2
  clear hc
  go_enter Try.func5, Try.ntmps5
  go_wp2_with fail
  refine O.out.mono ?_
  rintro e w1 ⟨rfl, hw⟩
  rw [← hw] at K0 B0 zz
  clear hw O
  obtain ⟨r, hr⟩ : ∃ r, r = w.heap.size := ⟨_, rfl⟩
  have HR : Hid (r = w.heap.size) := hr
  rw [← hr] at K0 B0 ⊢
  have WB : Hid (∀ wx, Turn r w1 wx → Below w.heap.size w wx) := fun wx t => (by have e := HR.out; have := B0.out; rw [e] at this t; exact Turn.below this (Nat.le_refl _) t)
  obtain ⟨B, hB⟩ : ∃ B, B = w1.heap.size := ⟨_, rfl⟩
  have rB : r < B := by omega
  have hBB : B ≤ w1.heap.size ∧ w1.heap.size ≤ B := by omega
  have M0 : Hid (Calls Try.prog 9 #[.pointer (some ⟨r, 0, none⟩), .int .i64 5] w1 fun e w' => ∃ v L, e = .returned v ∧ w'.ownsRow B 2 1 v L.length (ints L) ∧ (1 ≤ L.length ∧ L.length ≤ 5) ∧ Rd r w' ∧ Turn r w1 w') := (by rw [hB]; exact members_any r w1 K0.out)
  clear hr zz hB
  go_wp2_with fail
  refine M0.out.mono ?_
  rintro e w2 ⟨v, V, rfl, o2, ⟨lv1, lv2⟩, k2, t2⟩
  have z2 := t2.size
  have M2 : Hid (Calls Try.prog 9 #[.pointer (some ⟨r, 0, none⟩), .int .i64 5] w2 fun e w' => ∃ v L, e = .returned v ∧ w'.ownsRow w2.heap.size 2 1 v L.length (ints L) ∧ (1 ≤ L.length ∧ L.length ≤ 5) ∧ Rd r w' ∧ Turn r w2 w') := members_any r w2 k2
  have OV2 : Hid (w2.ownsRow B 2 1 v V.length (ints V)) := o2
  have T2 : Hid (Turn r w1 w2) := t2
  rcases row_cases o2 with ⟨e0, _⟩ | ⟨g, cg, eg, gb, gs, _, gm⟩
  · rw [e0] at lv1; simp at lv1
  subst eg
  clear o2 t2 k2 M0 K0
  go_wp2_with fail
  refine M2.out.mono ?_
  rintro e w3 ⟨s, S, rfl, o3, ⟨ls1, ls2⟩, k3, t3⟩
  have OV3 : Hid (w3.ownsRow B 2 1 (.slice (some ⟨g, 0, none⟩) V.length cg) V.length (ints V)) := row_turn OV2.out t3 rB
  have T3 : Hid (Turn r w1 w3) := T2.out.trans t3
  rcases row_cases o3 with ⟨e0, _⟩ | ⟨h, ch, eh, hb, hs, _, hm⟩
  · rw [e0] at ls1; simp at ls1
  subst eh
  have OS3 : Hid (w3.ownsRow w2.heap.size 2 1 (.slice (some ⟨h, 0, none⟩) S.length ch) S.length (ints S)) := o3
  have K3 : Hid (Rd r w3) := k3
  have gh : g ≠ h := by omega
  have rh : r < w2.heap.size := by omega
  have bh : B ≤ h := by omega
  unfold maxLen at gm hm
  clear o3 t3 k3 M2 OV2 T2 hb
  have l3 : (0 : Int) < (V.length : Int) := by omega
  go_wp2_with fail
  refine (below_all r _ K3.out 14 (by omega) (by omega)).mono ?_
  rintro e w4 ⟨⟨x, ⟨hx1, hx2⟩, rfl⟩, k4, t4⟩
  have OV4 : Hid (w4.ownsRow B 2 1 (.slice (some ⟨g, 0, none⟩) V.length cg) V.length (ints V)) := row_turn OV3.out t4 rB
  have OS4 : Hid (w4.ownsRow w2.heap.size 2 1 (.slice (some ⟨h, 0, none⟩) S.length ch) S.length (ints S)) := row_turn OS3.out t4 rh
  have T4 : Hid (Turn r w1 w4) := T3.out.trans t4
  have K4 : Hid (Rd r w4) := k4
  have z4 : B ≤ w4.heap.size := (by have := T4.out.size; omega)
  have gs4 : g < w4.heap.size := (OV4.out.lt g rfl).2
  have hs4 : h < w4.heap.size := (OS4.out.lt h rfl).2
  clear t4 k4 OV3 OS3 K3 T3 gs hs
  by_cases u0 : x = 0
  · subst u0
    have K5 : Hid (Rd r (w4.alloc (Obj.cells #[.int .i64 1000000, .int .i64 1000001] 2))) := K4.out.kept ((Below.refl (r + 1) w4).alloc (by omega) _) (by omega)
    go_wp2_with fail
    refine (below_all r _ K5.out 2 (by omega) (by omega)).mono ?_
    rintro e w5 ⟨⟨z, ⟨hz1', hz2'⟩, rfl⟩, k5, t5⟩
    obtain ⟨q, hq⟩ := pick2 z hz1' hz2'
    have c0 : w5.cell? ⟨w4.heap.size, z.toNat, none⟩ = some (.int .i64 q) := (t5.cell z.toNat (by simp) (by omega)).trans (hq w4)
    have o5 : w5.ownsRow B 2 1 (.slice (some ⟨g, 0, none⟩) V.length cg) V.length (ints V) := row_turn (OV4.out.alloc _) t5 rB
    have p5 : w5.ownsRow w2.heap.size 2 1 (.slice (some ⟨h, 0, none⟩) S.length ch) S.length (ints S) := row_turn (OS4.out.alloc _) t5 rh
    have c1 : w5.cell? ⟨g, 0, none⟩ = some (.int .i64 (V.getD 0 0)) := row_cell o5 0 (by omega)
    have f1 : w5.frozen? ⟨g, 0, none⟩ = false := o5.frozenAt 0
    have RV : Hid (Lists.Reads (w5.setCell ⟨g, 0, none⟩ (.int .i64 q)) (.slice (some ⟨g, 0, none⟩) V.length cg) (V.set 0 q)) := reads_of (row_put o5 0 q) (by rw [List.length_set])
    have RS : Hid (Lists.Reads (w5.setCell ⟨g, 0, none⟩ (.int .i64 q)) (.slice (some ⟨h, 0, none⟩) S.length ch) S) := reads_of (row_set p5 0 _ (by simp [Value.ownBlock]; omega)) rfl
    have T5 : Turn r w1 w5 := T4.out.trans ((Turn.of ((Below.refl w4.heap.size w4).alloc (Nat.le_refl _) _) (Nat.le_refl _) (by omega)).trans t5)
    have E5 : Hid (Below w.heap.size w (w5.setCell ⟨g, 0, none⟩ (.int .i64 q))) := WB.out _ (turn_below T5 ((Below.refl B w5).setCell (p := ⟨g, 0, none⟩) gb _) (by omega) rB)
    clear k5 t5 o5 p5 T5 hq
    generalize V.getD 0 0 = y at *
    go_wp2_with fail
    exact bodyPost_ret (v := .tuple #[.slice (some ⟨g, 0, none⟩) V.length cg, .slice (some ⟨h, 0, none⟩) S.length ch]) (by simp [results, Try.results5, go_sem]) rfl ⟨_, _, V.set 0 q, S, rfl, RV.out, RS.out, by rw [List.length_set]; omega, by omega, E5.out⟩
  have E4 : Hid (Below w.heap.size w w4) := WB.out _ T4.out
  have RV4 : Hid (Lists.Reads w4 (.slice (some ⟨g, 0, none⟩) V.length cg) V) := reads_of OV4.out rfl
  have RS4 : Hid (Lists.Reads w4 (.slice (some ⟨h, 0, none⟩) S.length ch) S) := reads_of OS4.out rfl
  by_cases u1 : x = 1
  · subst u1
    go_wp2_with fail
    exact bodyPost_ret (v := .tuple #[.slice (some ⟨g, 0, none⟩) 0 cg, .slice (some ⟨h, 0, none⟩) S.length ch]) (by simp [results, Try.results5, go_sem]) rfl ⟨_, _, [], S, rfl, Or.inl ⟨rfl, _, _, rfl⟩, RS4.out, by simp, by omega, E4.out⟩
  by_cases u2 : x = 2
  · subst u2
    go_wp2_with fail
    refine (below_all r _ K4.out 2 (by omega) (by omega)).mono ?_
    rintro e w5 ⟨⟨z, ⟨hz1', hz2'⟩, rfl⟩, k5, t5⟩
    obtain ⟨m, hm'⟩ : ∃ m : Nat, 8 + z = (m : Int) := ⟨(8 + z).toNat, by omega⟩
    have mb : 8 ≤ m ∧ m ≤ 9 := by omega
    have RV5 : Hid (Lists.Reads w5 (.slice (some ⟨g, 0, none⟩) V.length cg) V) := reads_of (row_turn OV4.out t5 rB) rfl
    have T5 : Hid (Turn r w1 w5) := T4.out.trans t5
    have LB : Hid (B ≤ w5.heap.size) := (by have := T5.out.size; show B ≤ _; omega)
    have FZ : Hid ((madeCells (Value.int .i64 0).cells (m * 1)).toList = ints (List.replicate m 0)) := zeros_made m
    clear k5 t5
    go_wp2_with (at_make; refine wpList_make_full _ rfl _ _ 24 rfl B 2 i0 (.int .i64 0) 1 Try.underlying24 hi hz0 hz1 .i64 .i64 (m : Int) (m : Int) m rfl rfl rfl rfl (by rw [hz2]; omega) (by unfold maxLen; omega) LB.out ?_; intro w6 hown hgrow)
    rw [FZ.out] at hown
    have BG : Below w5.heap.size w5 w6 := (Below.refl _ _).grown hgrow (Nat.le_refl _) (fun k hk => by cases hk)
    have RS6 : Hid (Lists.Reads w6 (.slice (some ⟨w5.heap.size, 0, none⟩) m m) (List.replicate m 0)) := reads_of hown (by simp)
    have RV6 : Hid (Lists.Reads w6 (.slice (some ⟨g, 0, none⟩) V.length cg) V) := RV5.out.on BG
    have E6 : Hid (Below w.heap.size w w6) := WB.out _ (turn_below T5.out (BG.mono LB.out) (by omega) rB)
    clear hown hgrow BG
    go_wp2_with fail
    exact bodyPost_ret (v := .tuple #[.slice (some ⟨g, 0, none⟩) V.length cg, .slice (some ⟨w5.heap.size, 0, none⟩) m m]) (by simp [results, Try.results5, go_sem]) rfl ⟨_, _, V, List.replicate m 0, rfl, RV6.out, RS6.out, by omega, by rw [List.length_replicate]; omega, E6.out⟩
  by_cases u3 : x = 3
  · subst u3
    go_wp2_with fail
    refine (below_all r _ K4.out 2 (by omega) (by omega)).mono ?_
    rintro e w5 ⟨⟨z, ⟨hz1', hz2'⟩, rfl⟩, k5, t5⟩
    obtain ⟨m, hm'⟩ : ∃ m : Nat, 8 + z = (m : Int) := ⟨(8 + z).toNat, by omega⟩
    have mb : 8 ≤ m ∧ m ≤ 9 := by omega
    have RS5 : Hid (Lists.Reads w5 (.slice (some ⟨h, 0, none⟩) S.length ch) S) := reads_of (row_turn OS4.out t5 rh) rfl
    have T5 : Hid (Turn r w1 w5) := T4.out.trans t5
    have LB : Hid (B ≤ w5.heap.size) := (by have := T5.out.size; show B ≤ _; omega)
    have FZ : Hid ((madeCells (Value.int .i64 0).cells (m * 1)).toList = ints (List.replicate m 0)) := zeros_made m
    clear k5 t5
    go_wp2_with (at_make; refine wpList_make_full _ rfl _ _ 24 rfl B 2 i0 (.int .i64 0) 1 Try.underlying24 hi hz0 hz1 .i64 .i64 (m : Int) (m : Int) m rfl rfl rfl rfl (by rw [hz2]; omega) (by unfold maxLen; omega) LB.out ?_; intro w6 hown hgrow)
    rw [FZ.out] at hown
    have BG : Below w5.heap.size w5 w6 := (Below.refl _ _).grown hgrow (Nat.le_refl _) (fun k hk => by cases hk)
    have RV6 : Hid (Lists.Reads w6 (.slice (some ⟨w5.heap.size, 0, none⟩) m m) (List.replicate m 0)) := reads_of hown (by simp)
    have RS6 : Hid (Lists.Reads w6 (.slice (some ⟨h, 0, none⟩) S.length ch) S) := RS5.out.on BG
    have E6 : Hid (Below w.heap.size w w6) := WB.out _ (turn_below T5.out (BG.mono LB.out) (by omega) rB)
    clear hown hgrow BG
    go_wp2_with fail
    exact bodyPost_ret (v := .tuple #[.slice (some ⟨w5.heap.size, 0, none⟩) m m, .slice (some ⟨h, 0, none⟩) S.length ch]) (by simp [results, Try.results5, go_sem]) rfl ⟨_, _, List.replicate m 0, S, rfl, RV6.out, RS6.out, by rw [List.length_replicate]; omega, by omega, E6.out⟩
  have e0 : (x == 0) = false := by simpa using u0
  have e1 : (x == 1) = false := by simpa using u1
  have e2 : (x == 2) = false := by simpa using u2
  have e3 : (x == 3) = false := by simpa using u3
  go_wp2_with fail
  exact bodyPost_ret (v := .tuple #[.slice (some ⟨g, 0, none⟩) V.length cg, .slice (some ⟨h, 0, none⟩) S.length ch]) (by simp [results, Try.results5, go_sem]) rfl ⟨_, _, V, S, rfl, RV4.out, RS4.out, by omega, by omega, E4.out⟩
end Go.Proofs.Ytefheoafpkghjaa.Dp
