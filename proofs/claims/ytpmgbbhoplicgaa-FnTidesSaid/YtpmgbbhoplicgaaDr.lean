/- A tide and an hour drawn of a code. -/
import Derived.Test.YtpmgbbhoplicgaaRi
import Derived.Test.YtpmgbbhoplicgaaRdG
import Derived.Laws.OwnMore
import Derived.Maps.AppendAt
import Derived.Deep.DeepCutAuto
import Derived.Deep.RegionWith
namespace Go.Proofs.Ytpmgbbhoplicgaa.Dr
open Go.ChangeShapes Go.WideShapes Go.ChangeAt Go.RowKit
open Go.Proofs.Ytpmgbbhoplicgaa.Rd Flt Wa
attribute [local go_sem] Flt.run_store_float

/-- speeds that are not great -/
def Bd (L : Co.Ls) : Prop := ∀ e ∈ L, -200 ≤ e.1 ∧ e.1 ≤ 200
theorem Bd.at {L : Co.Ls} (h : Bd L) {i : Nat} (hi : i < L.length) : -200 ≤ Co.c0 L i ∧ Co.c0 L i ≤ 200 := by
  have e : Co.c0 L i = (L[i]).1 := by simp [Co.c0, List.getD_eq_getElem?_getD, List.getElem?_eq_getElem hi]
  rw [e]
  exact h _ (List.getElem_mem hi)
/-- A list that lies elsewhere than the reader. -/
def LR (r : Nat) (w : World) (v : Value) (L : Co.Ls) : Prop :=
  (L = [] ∧ ∃ a cap, v = .slice a 0 cap) ∨ ∃ b o cap, v = .slice (some ⟨b, o, none⟩) L.length cap ∧ L.length ≤ cap ∧ cap ≤ maxLen ∧ b < w.heap.size ∧ b ≠ r ∧ ∀ i, i < L.length → Co.Cs w b o L i
theorem LR.reads {r : Nat} {w : World} {v : Value} {L : Co.Ls} (h : LR r w v L) : Co.Reads w v L := by
  rcases h with h | ⟨b, o, cap, h1, h2, h3, h4, _, h5⟩
  · exact Or.inl h
  · exact Or.inr ⟨b, o, cap, h1, h2, h3, h4, h5⟩
theorem LR.turn {r : Nat} {w w' : World} {v : Value} {L : Co.Ls} (h : LR r w v L) (t : Turn r w w') : LR r w' v L := by
  rcases h with h | ⟨b, o, cap, h1, h2, h3, h4, h6, h5⟩
  · exact Or.inl h
  · refine Or.inr ⟨b, o, cap, h1, h2, h3, Nat.lt_of_lt_of_le h4 t.size, h6, fun i hi => ?_⟩
    obtain ⟨c0, c1, c2⟩ := h5 i hi
    exact ⟨(t.cell _ h4 h6).trans c0, (t.cell _ h4 h6).trans c1, (t.cell _ h4 h6).trans c2⟩
theorem row_turn {r B n : Nat} {w w' : World} {v : Value} {xs : List Value} (h : w.ownsRow B 33 3 v n xs) (t : Turn r w w') (hr : r < B) : w'.ownsRow B 33 3 v n xs := by
  refine h.kept (row := some r) ⟨t.bel.os, t.bel.tape, t.bel.output, t.bel.size, fun k hk hne => ?_⟩ ?_
  · by_cases e : k < r
    · exact t.bel.block k e
    · have : k ≠ r := fun x => hne (by rw [x])
      exact t.abv k (by omega) hk
  · cases e : v.ownBlock with
    | none => exact Or.inl rfl
    | some k =>
      refine Or.inr fun x => ?_
      have := (h.lt k e).1
      simp at x
      omega
theorem Row.turn {r B : Nat} {w w' : World} {v : Value} {L : Co.Ls} (h : Co.Row w B v L) (t : Turn r w w') (hr : r < B) : Co.Row w' B v L := by
  obtain ⟨xs, O, G⟩ := h
  exact ⟨xs, row_turn O t hr, G⟩
theorem row_lr {r B : Nat} {w : World} {v : Value} {L : Co.Ls} (h : Co.Row w B v L) (hr : r < B) : LR r w v L := by
  obtain ⟨xs, O, G⟩ := h
  rcases Co.row_cases O with ⟨e, e2⟩ | ⟨g, cap, e, hb, hs, hc, hm⟩
  · exact Or.inl ⟨List.eq_nil_of_length_eq_zero e, _, _, e2⟩
  · subst e
    refine Or.inr ⟨g, 0, cap, rfl, hc, hm, hs, by omega, fun i hi => ?_⟩
    obtain ⟨g0, g1, g2⟩ := G i hi
    exact ⟨by rw [Nat.zero_add, O.cellAt (i * 3) (by omega)]; exact g0, by rw [Nat.zero_add, O.cellAt (i * 3 + 1) (by omega)]; exact g1, by rw [Nat.zero_add, O.cellAt (i * 3 + 2) (by omega)]; exact g2⟩
theorem turn_below {r : Nat} {w w2 w3 : World} (t : Turn r w w2) (hb : Below w.heap.size w2 w3) (hr : r < w.heap.size) : Turn r w w3 :=
  ⟨t.bel.trans (hb.mono (by omega)), fun i h1 h2 => (hb.block i h2).trans (t.abv i h1 h2)⟩
theorem one_three (x : Int) (y z : Nat) : ∀ u ∈ [Value.int .i64 x, Value.float .f64 y, Value.float .f64 z], u.oneCell' = true := by intro u hu; simp at hu; rcases hu with rfl | rfl | rfl <;> rfl
theorem good_sp {xs : List Value} {y : Int × Nat × Nat} {t : Co.Ls} (z : Int) (h : Co.Good xs (y :: t) (y :: t).length) (hl : 0 < xs.length) : Co.Good (xs.set 0 (.int .i64 z)) ((z, y.2) :: t) ((z, y.2) :: t).length := by
  intro i hi
  cases i with
  | zero =>
    obtain ⟨_, b, c⟩ := h 0 (by simp)
    refine ⟨by simp [Co.c0, hl], ?_, ?_⟩
    · rw [List.getElem?_set_ne (by omega)]; exact b
    · rw [List.getElem?_set_ne (by omega)]; exact c
  | succ i =>
    obtain ⟨a, b, c⟩ := h (i + 1) (by simpa using hi)
    refine ⟨?_, ?_, ?_⟩
    · rw [List.getElem?_set_ne (by omega)]; exact a
    · rw [List.getElem?_set_ne (by omega)]; exact b
    · rw [List.getElem?_set_ne (by omega)]; exact c
theorem good_am {xs : List Value} {y : Int × Nat × Nat} {t : Co.Ls} (p q : Nat) (h : Co.Good xs (y :: t) (y :: t).length) (hl : 2 < xs.length) : Co.Good ((xs.set 1 (.float .f64 p)).set 2 (.float .f64 q)) ((y.1, p, q) :: t) ((y.1, p, q) :: t).length := by
  intro i hi
  cases i with
  | zero =>
    obtain ⟨a, _, _⟩ := h 0 (by simp)
    refine ⟨?_, ?_, ?_⟩
    · rw [List.getElem?_set_ne (by omega), List.getElem?_set_ne (by omega)]; exact a
    · have l1 : 1 < xs.length := by omega
      rw [List.getElem?_set_ne (by omega)]; simp [Co.c1, l1]
    · simp [Co.c2, hl]
  | succ i =>
    obtain ⟨a, b, c⟩ := h (i + 1) (by simpa using hi)
    refine ⟨?_, ?_, ?_⟩
    · rw [List.getElem?_set_ne (by omega), List.getElem?_set_ne (by omega)]; exact a
    · rw [List.getElem?_set_ne (by omega), List.getElem?_set_ne (by omega)]; exact b
    · rw [List.getElem?_set_ne (by omega), List.getElem?_set_ne (by omega)]; exact c

set_option maxHeartbeats 1000000 in
theorem tenth_any (r : Nat) (w : World) (h : Rd r w) (lo hi : Int) (m : Nat) (hm : hi - lo + 1 = m) (m1 : 1 < m) (m2 : m ≤ 60000) (l1 : -60000 ≤ lo) (l2 : lo ≤ 60000) : Calls Try.prog 37 #[.pointer (some ⟨r, 0, none⟩), .int .i64 lo, .int .i64 hi] w fun e w' => (∃ x, e = .returned (.float .f64 x)) ∧ Rd r w' ∧ Turn r w w' := by
  have hQ : ∀ x y w, (binOp .quo 27 (.float .f64 x) (.float .f64 y)).run Try.prog w = .ok (.float .f64 (opB .quo x y w)) (w.drewN (opD .quo x y)) := fun x y w => run_op Try.prog .quo arQuo 24 x y w
  have e1 : IntKind.i64.wrap (hi - lo) = hi - lo := IntWalk.i64_in _ (by omega)
  have e2 : IntKind.i64.wrap (hi - lo + 1) = (m : Int) := by rw [IntWalk.i64_in _ (by omega)]; exact hm
  have C : Hid (Calls Try.prog 27 #[.pointer (some ⟨r, 0, none⟩), .int .i64 m] w (Drawn r w fun u => 0 ≤ u ∧ u < m)) := below_any r w h m m1 m2
  clear h
  go_enter Try.func37, Try.ntmps37
  go_wp2_with fail
  refine C.out.mono ?_
  rintro e w1 ⟨⟨u, ⟨hu1, hu2⟩, rfl⟩, k1, k2⟩
  have e3 : IntKind.i64.wrap (lo + u) = lo + u := IntWalk.i64_in _ (by omega)
  go_wp2_with fail
  go_ret
  exact ⟨⟨_, rfl⟩, k1.drewN _, k2.drewN _⟩

set_option maxHeartbeats 2000000 in
theorem parts_any (r : Nat) (w : World) (h : Rd r w) : Calls Try.prog 26 #[.pointer (some ⟨r, 0, none⟩)] w fun e w' => ∃ v L, e = .returned v ∧ Co.Row w' w.heap.size v L ∧ (1 ≤ L.length ∧ L.length ≤ 4) ∧ Bd L ∧ Rd r w' ∧ Turn r w w' := by
  have hr := h.lt
  obtain ⟨i0, hi, hz0, hz1, hz2⟩ := info_parts Co.Try.infoE
  have S : Hid (Calls Try.prog 27 #[.pointer (some ⟨r, 0, none⟩), .int .i64 4] w (Drawn r w fun u => 0 ≤ u ∧ u < 4)) := below_any r w h 4 (by omega) (by omega)
  clear h
  go_enter Try.func26, Try.ntmps26
  go_wp2_with fail
  refine S.out.mono ?_
  rintro e w1 ⟨⟨u, ⟨hu1, hu2⟩, rfl⟩, k1, k2⟩
  obtain ⟨n, hn⟩ : ∃ n : Nat, 1 + u = (n : Int) := ⟨(1 + u).toNat, by omega⟩
  have n1 : 1 ≤ n := by omega
  have n4 : n ≤ 4 := by omega
  have e1 : IntKind.i64.wrap (1 + u) = (n : Int) := by rw [IntWalk.i64_in _ (by omega)]; exact hn
  clear hn hu1 hu2
  have z1 := k2.size
  have R0 : Hid (Co.Row (w1.alloc (Obj.cells #[] 33)) w.heap.size (.slice (some ⟨w1.heap.size, 0, none⟩) 0 0) []) := ⟨[], World.ownsRow_lit w1 #[] 0 z1 (Nat.zero_le _) rfl, fun i hi => absurd hi (by simp)⟩
  have K0 : Hid (Rd r (w1.alloc (Obj.cells #[] 33))) := k1.kept ((Below.refl (r + 1) w1).alloc (by omega) _) (by omega)
  have T0 : Hid (Turn r w (w1.alloc (Obj.cells #[] 33))) := k2.alloc hr _
  clear k1 k2
  go_wp2_with fail
  go_loopw [4, 5] (fun v i wr => ∃ (k : Nat) (L : Co.Ls), k ≤ n ∧ i = .int .i64 k ∧ L.length = k ∧ Hid (Bd L) ∧ Hid (Co.Row wr w.heap.size v L) ∧ Hid (Rd r wr) ∧ Hid (Turn r w wr)) (fun _ i _ => n - (intOf i).toNat)
  case atStart => exact ⟨0, [], Nat.zero_le _, rfl, rfl, fun e he => by simp at he, R0, K0, T0⟩
  case round =>
    obtain ⟨k, L, hk, rfl, hL, BL, R, K, TT⟩ := hrel
    by_cases hlt : k < n
    · have i2 : (k : Int) < (n : Int) := by omega
      obtain ⟨sa, sc, hv⟩ := R.out.form
      rw [hL] at hv
      subst hv
      obtain ⟨xs, O, G⟩ := R.out
      rw [hL] at O
      have O1 : Hid (wr.ownsRow w.heap.size 33 3 (.slice sa k sc) k xs) := O
      have G1 : Hid (Co.Good xs L L.length) := G
      have HL : Hid (L.length = k) := hL
      clear O G R hL
      go_wp2_with fail
      refine (below_any r _ K.out 17 (by omega) (by omega)).mono ?_
      rintro e w2 ⟨⟨x, ⟨hx1, hx2⟩, rfl⟩, k3, k4⟩
      go_wp2_with fail
      refine (tenth_any r _ k3 (-30) 60 91 (by omega) (by omega) (by omega) (by omega) (by omega)).mono ?_
      rintro e w3 ⟨⟨y, rfl⟩, k5, k6⟩
      go_wp2_with fail
      refine (tenth_any r _ k5 (-40) 40 81 (by omega) (by omega) (by omega) (by omega) (by omega)).mono ?_
      rintro e w4 ⟨⟨z, rfl⟩, k7, k8⟩
      have T4 : Hid (Turn r w w4) := ((TT.out.trans k4).trans k6).trans k8
      have K4 : Hid (Rd r w4) := k7
      have O4 : Hid (w4.ownsRow w.heap.size 33 3 (.slice sa k sc) k xs) := row_turn O1.out ((k4.trans k6).trans k8) hr
      have z4 := T4.out.size
      clear k3 k4 k5 k6 k7 k8 K TT O1
      go_wp2_with (at_builtin; refine wpList_append_own _ rfl _ _ 24 rfl w.heap.size 33 i0 (.agg #[.int .i64 0, .float .f64 0, .float .f64 0]) 3 24 Try.underlying24 hi hz0 hz1 hz2 rfl (by decide) _ _ _ rfl (O4.out.alloc _) ⟨w4.heap.size, 0, none⟩ 1 1 [.int .i64 x, .float .f64 y, .float .f64 z] rfl rfl (Co.cell_news w4 _ _ _ 33) (one_three _ _ _) (by unfold maxLen; omega) (by omega) (by simp; omega) ?_)
      intro v' w5 hown hgrow _
      have R5 : Hid (Co.Row w5 w.heap.size v' (L ++ [(x, y, z)])) := ⟨_, by simpa [HL.out] using hown, Co.good_snoc G1.out (by rw [HL.out]; exact O4.out.1)⟩
      have BG : Below w.heap.size w4 w5 := ((Below.refl w.heap.size w4).alloc z4 _).grown hgrow (by simp; omega) (fun b hb => (O4.out.lt b hb).1)
      have K5 : Hid (Rd r w5) := K4.out.kept BG hr
      have T5 : Hid (Turn r w w5) := turn_below T4.out BG hr
      clear hown hgrow BG O4 K4 T4
      have B5 : Hid (Bd (L ++ [(x, y, z)])) := fun e he => (by
        rw [List.mem_append] at he
        rcases he with he | he
        · exact BL.out e he
        · simp at he; subst he; exact ⟨by show -200 ≤ x; omega, by show x ≤ 200; omega⟩)
      go_wp2_with fail
      go_roundw
      case rel => exact ⟨k + 1, L ++ [(x, y, z)], by omega, by go_num, by simp [HL.out], B5, R5, K5, T5⟩
      case measure => simp [intOf]; omega
    · have e : k = n := by omega
      subst e
      go_wp2_with fail
      go_ret
      exact ⟨_, L, rfl, R.out, by omega, BL.out, K.out, TT.out⟩

set_option maxHeartbeats 1000000 in
theorem hour_any (r : Nat) (w : World) (h : Rd r w) : Calls Try.prog 13 #[.pointer (some ⟨r, 0, none⟩)] w fun e w' => (∃ x : Int, e = .returned (.int .i64 x)) ∧ Rd r w' ∧ Turn r w w' := by
  have hr := h.lt
  go_enter Try.func13, Try.ntmps13
  go_wp2_with fail
  refine (once_any r _ h 12 (by omega) (by omega)).mono ?_
  rintro e w1 ⟨⟨b, rfl⟩, k1, k2⟩
  cases b
  · go_wp2_with fail
    refine (below_any r _ k1 200 (by omega) (by omega)).mono ?_
    rintro e w2 ⟨⟨u, ⟨hu1, hu2⟩, rfl⟩, k3, k4⟩
    have T : Hid (Rd r w2 ∧ Turn r w w2) := ⟨k3, k2.trans k4⟩
    clear k1 k2 k3 k4
    go_wp2_with fail
    go_ret
    exact ⟨⟨_, rfl⟩, T.out.1, T.out.2⟩
  · have kA : Hid (Rd r (w1.alloc (Obj.cells #[.int .i64 1000000, .int .i64 1000001, .int .i64 (-1000000), .int .i64 (-1000001), .int .i64 9223372036854775807, .int .i64 (-9223372036854775808)] 2))) := k1.kept ((Below.refl w1.heap.size w1).alloc (Nat.le_refl _) _) k1.lt
    have s1 := k2.size
    have hne : w1.heap.size ≠ r := by omega
    go_wp2_with fail
    refine (below_any r _ kA.out 6 (by omega) (by omega)).mono ?_
    rintro e w2 ⟨⟨v, ⟨hv1, hv2⟩, rfl⟩, k3, k4⟩
    have T : Hid (Rd r w2 ∧ Turn r w w2) := ⟨k3, (k2.alloc hr _).trans k4⟩
    have c0 : w2.cell? ⟨w1.heap.size, 0, none⟩ = some (.int .i64 1000000) := (k4.cell 0 (by simp) hne).trans (by simp [go_sem])
    have c1 : w2.cell? ⟨w1.heap.size, 1, none⟩ = some (.int .i64 1000001) := (k4.cell 1 (by simp) hne).trans (by simp [go_sem])
    have c2 : w2.cell? ⟨w1.heap.size, 2, none⟩ = some (.int .i64 (-1000000)) := (k4.cell 2 (by simp) hne).trans (by simp [go_sem])
    have c3 : w2.cell? ⟨w1.heap.size, 3, none⟩ = some (.int .i64 (-1000001)) := (k4.cell 3 (by simp) hne).trans (by simp [go_sem])
    have c4 : w2.cell? ⟨w1.heap.size, 4, none⟩ = some (.int .i64 9223372036854775807) := (k4.cell 4 (by simp) hne).trans (by simp [go_sem])
    have c5 : w2.cell? ⟨w1.heap.size, 5, none⟩ = some (.int .i64 (-9223372036854775808)) := (k4.cell 5 (by simp) hne).trans (by simp [go_sem])
    clear k1 k2 k3 k4 kA
    rcases (by omega : v = 0 ∨ v = 1 ∨ v = 2 ∨ v = 3 ∨ v = 4 ∨ v = 5) with rfl | rfl | rfl | rfl | rfl | rfl
    all_goals
      go_wp2_with fail
      go_ret
      exact ⟨⟨_, rfl⟩, T.out.1, T.out.2⟩
end Go.Proofs.Ytpmgbbhoplicgaa.Dr
