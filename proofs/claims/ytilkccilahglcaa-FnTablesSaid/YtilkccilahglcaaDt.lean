/- Probabilities drawn of a code. -/
import Derived.Test.YtilkccilahglcaaRi
import Derived.Test.YtilkccilahglcaaTi
import Derived.Test.YtilkccilahglcaaBs
import Derived.Test.YtilkccilahglcaaRdJ
import Derived.Deep.DeepCutAuto
import Derived.Deep.RegionWith
namespace Go.Proofs.Ytilkccilahglcaa.Dt
open Go.ChangeShapes Go.WideShapes Go.ChangeAt Go.RowKit
open Go.Proofs.Ytilkccilahglcaa.Rd

/-- A list that lies elsewhere than the reader. -/
def LR (r : Nat) (w : World) (v : Value) (L : Pb.Ls) : Prop :=
  (L = [] ∧ ∃ a cap, v = .slice a 0 cap) ∨ ∃ b o cap, v = .slice (some ⟨b, o, none⟩) L.length cap ∧ L.length ≤ cap ∧ cap ≤ maxLen ∧ b < w.heap.size ∧ b ≠ r ∧ ∀ i, i < L.length → Pb.Cs w b o L i
theorem LR.reads {r : Nat} {w : World} {v : Value} {L : Pb.Ls} (h : LR r w v L) : Pb.Reads w v L := by
  rcases h with h | ⟨b, o, cap, h1, h2, h3, h4, _, h5⟩
  · exact Or.inl h
  · exact Or.inr ⟨b, o, cap, h1, h2, h3, h4, h5⟩
theorem LR.turn {r : Nat} {w w' : World} {v : Value} {L : Pb.Ls} (h : LR r w v L) (t : Turn r w w') : LR r w' v L := by
  rcases h with h | ⟨b, o, cap, h1, h2, h3, h4, h6, h5⟩
  · exact Or.inl h
  · refine Or.inr ⟨b, o, cap, h1, h2, h3, Nat.lt_of_lt_of_le h4 t.size, h6, fun i hi => ?_⟩
    obtain ⟨c0, c1⟩ := h5 i hi
    exact ⟨(t.cell _ h4 h6).trans c0, (t.cell _ h4 h6).trans c1⟩
theorem row_turn {r B n : Nat} {w w' : World} {v : Value} {xs : List Value} (h : w.ownsRow B 34 2 v n xs) (t : Turn r w w') (hr : r < B) : w'.ownsRow B 34 2 v n xs := by
  refine h.kept (row := some r) ⟨t.bel.os, t.bel.tape, t.bel.output, t.bel.size, fun k hk hne => ?_⟩ ?_
  · by_cases e : k < r
    · exact t.bel.block k e
    · have : k ≠ r := fun x => hne (by rw [x])
      exact t.abv k (by omega) hk
  · cases e : v.ownBlock with
    | none => exact Or.inl rfl
    | some k =>
      refine Or.inr fun x => ?_
      have := (h.lt k e).1
      simp at x
      omega
theorem row_lr {r B : Nat} {w : World} {v : Value} {L : Pb.Ls} (h : Pb.Row w B v L) (hr : r < B) : LR r w v L := by
  obtain ⟨xs, O, G⟩ := h
  rcases Pb.row_cases O with ⟨e, e2⟩ | ⟨g, cap, e, hb, hs, hc, hm⟩
  · exact Or.inl ⟨List.eq_nil_of_length_eq_zero e, _, _, e2⟩
  · subst e
    refine Or.inr ⟨g, 0, cap, rfl, hc, hm, hs, by omega, fun i hi => ?_⟩
    obtain ⟨g0, g1⟩ := G i hi
    exact ⟨by rw [Nat.zero_add, O.cellAt (i * 2) (by omega)]; exact g0, by rw [Nat.zero_add, O.cellAt (i * 2 + 1) (by omega)]; exact g1⟩
theorem turn_below {r : Nat} {w w2 w3 : World} (t : Turn r w w2) (hb : Below w.heap.size w2 w3) (hr : r < w.heap.size) : Turn r w w3 :=
  ⟨t.bel.trans (hb.mono (by omega)), fun i h1 h2 => (hb.block i h2).trans (t.abv i h1 h2)⟩
theorem Try.infoE : (Try.prog.info? 34).map (fun i => (i.zero, i.size, i.bytes)) = some (some (.agg #[.int .i64 0, .bool false]), 2, 16) := by kernel_rfl
theorem one_two (x : Int) (y : Bool) : ∀ u ∈ [Value.int .i64 x, Value.bool y], u.oneCell' = true := by intro u hu; simp at hu; rcases hu with rfl | rfl <;> rfl

set_option maxHeartbeats 1000000 in
theorem size_any (r : Nat) (w : World) (h : Rd r w) : Calls Try.prog 23 #[.pointer (some ⟨r, 0, none⟩), .int .i64 3, .int .i64 30] w (Drawn r w fun u => 1 ≤ u ∧ u ≤ 30) := by
  have hh := h
  obtain ⟨a, n, cap, p, h1, h2, h3, h4, h5, h6, h7⟩ := hh
  have H : Hid (Rd r w) := h
  clear h h7
  obtain ⟨q, hq⟩ : ∃ q : Nat, q = n / 3 := ⟨_, rfl⟩
  have e1 : (n : Int).tdiv 3 = (q : Int) := by rw [Int.tdiv_eq_ediv_of_nonneg (by omega)]; omega
  have bq : q ≤ 400000 := by omega
  clear hq
  by_cases g : (30 : Int) < 1 + (q : Int)
  · go_enter Try.func23, Try.ntmps23
    go_wp2_with fail
    refine (below_all r _ H.out 30 (by omega) (by omega)).mono ?_
    rintro e w1 ⟨⟨u, ⟨hu1, hu2⟩, rfl⟩, k1, k2⟩
    have K : Hid (Rd r w1 ∧ Turn r w w1) := ⟨k1, k2⟩
    clear k1 k2
    go_wp2_with fail
    go_ret
    exact ⟨⟨1 + u, by omega, rfl⟩, K.out.1, K.out.2⟩
  · have C : Hid (Calls Try.prog 12 #[.pointer (some ⟨r, 0, none⟩), .int .i64 (1 + (q : Int))] w (Drawn r w fun u => 0 ≤ u ∧ u < 1 + (q : Int))) := (by
      have := below_all r w H.out (1 + q) (by omega) (by omega)
      rw [Int.natCast_add] at this
      exact this)
    go_enter Try.func23, Try.ntmps23
    go_wp2_with fail
    refine C.out.mono ?_
    rintro e w1 ⟨⟨u, ⟨hu1, hu2⟩, rfl⟩, k1, k2⟩
    have K : Hid (Rd r w1 ∧ Turn r w w1) := ⟨k1, k2⟩
    clear k1 k2
    go_wp2_with fail
    go_ret
    exact ⟨⟨1 + u, by omega, rfl⟩, K.out.1, K.out.2⟩

/-- One that is being drawn, and those that were. -/
structure DS (r : Nat) (w wx : World) (B : Nat) (x : Int) (v : Value) (k : Nat) (xs : List Value) : Prop where
  c : ∃ h : Bool, wx.cell? ⟨B, 0, none⟩ = some (.int .i64 x) ∧ wx.cell? ⟨B, 1, none⟩ = some (.bool h)
  rd : Rd r wx
  tn : Turn r w wx
  ow : wx.ownsRow w.heap.size 34 2 v k xs

set_option maxHeartbeats 2000000 in
theorem told_any (r : Nat) (w : World) (h : Rd r w) : Calls Try.prog 18 #[.pointer (some ⟨r, 0, none⟩), .int .i64 30] w fun e w' => ∃ v L, e = .returned v ∧ Pb.Row w' w.heap.size v L ∧ (1 ≤ L.length ∧ L.length ≤ 30) ∧ Rd r w' ∧ Turn r w w' := by
  have hr := h.lt
  have S : Hid (Calls Try.prog 23 #[.pointer (some ⟨r, 0, none⟩), .int .i64 3, .int .i64 30] w (Drawn r w fun u => 1 ≤ u ∧ u ≤ 30)) := size_any r w h
  obtain ⟨i0, hi, hz0, hz1, hz2⟩ := info_parts Try.infoE
  clear h
  go_enter Try.func18, Try.ntmps18
  go_wp2_with fail
  refine S.out.mono ?_
  rintro e w1 ⟨⟨u, ⟨hu1, hu2⟩, rfl⟩, k1, k2⟩
  obtain ⟨n, hn⟩ : ∃ n : Nat, u = (n : Int) := ⟨u.toNat, by omega⟩
  subst hn
  have z1 := k2.size
  have R0 : Hid (Pb.Row (w1.alloc (Obj.cells #[] 34)) w.heap.size (.slice (some ⟨w1.heap.size, 0, none⟩) 0 0) []) := ⟨[], World.ownsRow_lit w1 #[] 0 z1 (Nat.zero_le _) rfl, fun i hi => absurd hi (by simp)⟩
  have K0 : Hid (Rd r (w1.alloc (Obj.cells #[] 34))) := k1.kept ((Below.refl (r + 1) w1).alloc (by omega) _) (by omega)
  have T0 : Hid (Turn r w (w1.alloc (Obj.cells #[] 34))) := k2.alloc hr _
  clear k1 k2
  go_wp2_with fail
  go_loopw [6, 7] (fun v i wr => ∃ (k : Nat) (L : Pb.Ls), k ≤ n ∧ i = .int .i64 k ∧ L.length = k ∧ Hid (Pb.Row wr w.heap.size v L) ∧ Hid (Rd r wr) ∧ Hid (Turn r w wr)) (fun _ i _ => n - (intOf i).toNat)
  case atStart => exact ⟨0, [], Nat.zero_le _, rfl, rfl, R0, K0, T0⟩
  case round =>
    obtain ⟨k, L, hk, rfl, hL, R, K, TT⟩ := hrel
    obtain ⟨v, hv⟩ : ∃ v, v = u6 := ⟨_, rfl⟩
    subst hv
    by_cases hlt : k < n
    · have i2 : (k : Int) < (n : Int) := by omega
      obtain ⟨sa, sc, hv⟩ := R.out.form
      rw [hL] at hv
      subst hv
      obtain ⟨xs, O, G⟩ := R.out
      rw [hL] at O
      have O1 : Hid (wr.ownsRow w.heap.size 34 2 (.slice sa k sc) k xs) := O
      have G1 : Hid (Pb.Good xs L L.length) := G
      have HL : Hid (L.length = k) := hL
      clear O G R
      go_wp2_with fail
      refine (below_all r _ K.out 101 (by omega) (by omega)).mono ?_
      rintro e w2 ⟨⟨x, ⟨hx1, hx2⟩, rfl⟩, k3, k4⟩
      have z2 : w.heap.size ≤ w2.heap.size := (TT.out.trans k4).size
      have kd : Rd r ((w2.alloc (Obj.cells #[.int .i64 x, .bool false] 34)).drew) := (k3.kept ((Below.refl (r + 1) w2).alloc (by omega) _) (by omega)).drewN 1
      have td : Turn r w ((w2.alloc (Obj.cells #[.int .i64 x, .bool false] 34)).drew) := ((TT.out.trans k4).alloc hr _).drewN 1
      have od : ((w2.alloc (Obj.cells #[.int .i64 x, .bool false] 34)).drew).ownsRow w.heap.size 34 2 (.slice sa k sc) k xs := (row_turn O1.out k4 hr).alloc _
      have KD : Hid (Rd r ((w2.alloc (Obj.cells #[.int .i64 x, .bool false] 34)).drew)) := kd
      have TD : Hid (Turn r w ((w2.alloc (Obj.cells #[.int .i64 x, .bool false] 34)).drew)) := td
      have OD : Hid (((w2.alloc (Obj.cells #[.int .i64 x, .bool false] 34)).drew).ownsRow w.heap.size 34 2 (.slice sa k sc) k xs) := od
      have GL : Hid (∀ g, (Value.slice sa k sc).ownBlock = some g → g < w2.heap.size) := fun g hg => Nat.lt_of_lt_of_le (O1.out.lt g hg).2 k4.size
      clear k3 k4 K TT kd td od O1
      obtain ⟨W, hW⟩ : ∃ W, W = w2.alloc (Obj.cells #[.int .i64 x, .bool false] 34) := ⟨_, rfl⟩
      have HW : Hid (W = w2.alloc (Obj.cells #[.int .i64 x, .bool false] 34)) := hW
      rw [← hW] at KD TD OD
      have p0 : W.cell? ⟨w2.heap.size, 0, none⟩ = some (.int .i64 x) := by rw [hW]; simp [go_sem]
      have p1 : W.cell? ⟨w2.heap.size, 1, none⟩ = some (.bool false) := by rw [hW]; simp [go_sem]
      have p2 : W.frozen? ⟨w2.heap.size, 1, none⟩ = false := by rw [hW]; simp [go_sem]
      have zW : w2.heap.size < W.heap.size := by rw [hW]; simp
      have rne : w2.heap.size ≠ r := by omega
      clear hW
      go_upto_region 7 with fail
      rw [← HW.out]
      go_cut [] (fun wx => Hid (DS r w wx w2.heap.size x (.slice sa k sc) k xs))
      case first =>
        go_region_with (go_at_call 12; refine (below_all r _ KD.out 100 (by omega) (by omega)).mono ?_; rintro e w3 ⟨⟨y, hy, rfl⟩, k5, t5⟩; have c0 : w3.cell? ⟨w2.heap.size, 0, none⟩ = some (.int .i64 x) := (t5.cell 0 (by simpa using zW) rne).trans p0; have c1 : w3.cell? ⟨w2.heap.size, 1, none⟩ = some (.bool false) := (t5.cell 1 (by simpa using zW) rne).trans p1; have c2 : w3.frozen? ⟨w2.heap.size, 1, none⟩ = false := (t5.frozen 1 (by simpa using zW) rne).trans p2)
        all_goals
          go_wp2_with fail
          go_meet
          refine ⟨⟨decide (y < x), by simp [go_sem, c0], by simp [go_sem, c1]⟩, k5.kept ((Below.refl w.heap.size w3).setCell (p := ⟨w2.heap.size, 1, none⟩) z2 _) hr, (TD.out.trans t5).setCell (p := ⟨w2.heap.size, 1, none⟩) z2 hr _, ?_⟩
          exact Pb.row_grown (row_turn OD.out t5 hr) (Pb.grown_setCell (World.grownBy.refl w3 (some w2.heap.size)) 1 _) (fun g hg e => by have := GL.out g hg; simp at e; omega)
      case rest =>
        obtain ⟨hb, d0, d1⟩ := hcut.out.c
        have K9 : Hid (Rd r wc) := hcut.out.rd
        have T9 : Hid (Turn r w wc) := hcut.out.tn
        have O9 : Hid (wc.ownsRow w.heap.size 34 2 (.slice sa k sc) k xs) := hcut.out.ow
        have z9 := T9.out.size
        clear hcut KD TD OD HW p0 p1 p2 zW
        go_wp2_with (at_builtin; refine wpList_append_own _ rfl _ _ 24 rfl w.heap.size 34 i0 (.agg #[.int .i64 0, .bool false]) 2 16 Try.underlying24 hi hz0 hz1 hz2 rfl (by decide) _ _ _ rfl (O9.out.alloc _) ⟨wc.heap.size, 0, none⟩ 1 1 [.int .i64 x, .bool hb] rfl rfl (Pb.cell_news wc _ _ 34) (one_two _ _) (by unfold maxLen; omega) (by omega) (by simp; omega) ?_)
        · intro v' w5 hown hgrow _
          have R5 : Hid (Pb.Row w5 w.heap.size v' (L ++ [(x, hb)])) := ⟨_, by simpa [HL.out] using hown, Pb.good_snoc G1.out (by rw [HL.out]; exact O9.out.1)⟩
          have BG : Below w.heap.size wc w5 := ((Below.refl w.heap.size wc).alloc z9 _).grown hgrow (by simp; omega) (fun b hb => (O9.out.lt b hb).1)
          have K5 : Hid (Rd r w5) := K9.out.kept BG hr
          have T5 : Hid (Turn r w w5) := turn_below T9.out BG hr
          clear hown hgrow BG O9 K9 T9
          go_wp2_with fail
          go_roundw
          case rel => exact ⟨k + 1, L ++ [(x, hb)], by omega, by go_num, by simp [HL.out], R5, K5, T5⟩
          case measure => simp [intOf]; omega
    · have hkn : k = n := by omega
      subst hkn
      go_wp2_with fail
      go_ret
      exact ⟨_, L, rfl, R.out, ⟨by omega, by omega⟩, K.out, TT.out⟩
end Go.Proofs.Ytilkccilahglcaa.Dt
