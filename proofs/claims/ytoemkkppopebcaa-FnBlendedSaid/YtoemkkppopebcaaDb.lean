/- Measurements drawn of a code. -/
import Derived.Test.YtoemkkppopebcaaBq
import Derived.Test.YtoemkkppopebcaaRdJ
import Derived.Maps.AppendAt
namespace Go.Proofs.Ytoemkkppopebcaa.Db
open Go.ChangeShapes Go.WideShapes Go.ChangeAt Go.RowKit
open Go.Proofs.Ytoemkkppopebcaa.Lists Go.Proofs.Ytoemkkppopebcaa.Al Go.Proofs.Ytoemkkppopebcaa.Rd

/-- Two rows that do not lie in one block. -/
def AP (v s : Value) : Prop := ∀ g, v.ownBlock = some g → s.ownBlock ≠ some g
theorem AP.symm {v s : Value} (h : AP v s) : AP s v := fun g h1 h2 => h g h2 h1
theorem AP.next {w : World} {B n N : Nat} {v v' s : Value} {xs : List Value} (h : AP v s) (hs : w.ownsRow B 2 1 s n xs) (hN : w.heap.size ≤ N) (hat : v'.ownBlock = v.ownBlock ∨ v'.ownBlock = some N) : AP v' s := by
  intro g hg e
  have := (hs.lt g e).2
  rcases hat with x | x
  · exact h g (by rw [← x]; exact hg) e
  · rw [x] at hg
    simp at hg
    omega
theorem row_turn {r B n : Nat} {w w' : World} {v : Value} {xs : List Value} (h : w.ownsRow B 2 1 v n xs) (t : Turn r w w') (hr : r < B) : w'.ownsRow B 2 1 v n xs := by
  refine h.kept (row := some r) ⟨t.bel.os, t.bel.tape, t.bel.output, t.bel.size, fun k hk hne => ?_⟩ ?_
  · by_cases e : k < r
    · exact t.bel.block k e
    · have : k ≠ r := fun x => hne (by rw [x])
      exact t.abv k (by omega) hk
  · cases e : v.ownBlock with
    | none => exact Or.inl rfl
    | some k =>
      refine Or.inr fun x => ?_
      have := (h.lt k e).1
      simp at x
      omega
theorem row_off {w w' : World} {B n : Nat} {v s : Value} {xs : List Value} (h : w.ownsRow B 2 1 s n xs) (hg : w.grownBy w' v.ownBlock) (hne : AP v s) : w'.ownsRow B 2 1 s n xs := by
  refine h.kept hg ?_
  cases e : s.ownBlock with
  | none => exact Or.inl rfl
  | some k => exact Or.inr fun x => hne k x.symm e
theorem row_set {w : World} {B n g : Nat} {s : Value} {xs : List Value} (h : w.ownsRow B 2 1 s n xs) (o : Nat) (u : Value) (hne : s.ownBlock ≠ some g) : (w.setCell ⟨g, o, none⟩ u).ownsRow B 2 1 s n xs := by
  refine h.kept (row := some g) (Lists.grown_setCell (World.grownBy.refl w (some g)) o u) ?_
  cases e : s.ownBlock with
  | none => exact Or.inl rfl
  | some k => exact Or.inr fun x => hne (by rw [e]; exact x)
theorem ints_snoc (L : List Int) (x : Int) : ints (L ++ [x]) = ints L ++ [.int .i64 x] := by simp [ints]
theorem cell_one (w : World) (v0 : Value) (t : TypeId) : ∀ j u, [v0][j]? = some u → (w.alloc (Obj.cells #[v0] t)).cell? ((⟨w.heap.size, 0, none⟩ : Addr).add j) = some u := by
  intro j u hj
  match j, hj with
  | 0, hj => simp at hj; subst hj; simp [Addr.add]
theorem one_one (x : Int) : ∀ u ∈ [Value.int .i64 x], u.oneCell' = true := by intro u hu; simp at hu; subst hu; rfl
theorem turn_below {r B : Nat} {w w2 w3 : World} (t : Turn r w w2) (hb : Below B w2 w3) (hB : w.heap.size ≤ B) (hr : r < B) : Turn r w w3 :=
  ⟨t.bel.trans (hb.mono (by omega)), fun i h1 h2 => (hb.block i (by omega)).trans (t.abv i h1 h2)⟩
theorem row_put {w : World} {B g n : Nat} {cap : Nat} {O : List Int} (R : w.ownsRow B 2 1 (.slice (some ⟨g, 0, none⟩) n cap) n (ints O)) (x : Nat) (z : Int) : (w.setCell ⟨g, x, none⟩ (.int .i64 z)).ownsRow B 2 1 (.slice (some ⟨g, 0, none⟩) n cap) n (ints (O.set x z)) := by
  rw [← Lists.ints_set]
  exact (R.stored x _).1
theorem form_of {w : World} {B k : Nat} {v : Value} {L : List Int} (h : w.ownsRow B 2 1 v k (ints L)) (hL : L.length = k) : ∃ a c, v = .slice a k c := by
  have := Lists.reads_row (L := L) (by rw [hL]; exact h)
  obtain ⟨a, c, e⟩ := this.form
  rw [hL] at e
  exact ⟨a, c, e⟩
theorem reads_of {w : World} {B k : Nat} {v : Value} {L : List Int} (h : w.ownsRow B 2 1 v k (ints L)) (hL : L.length = k) : Lists.Reads w v L := Lists.reads_row (by rw [hL]; exact h)

/-- What the draw keeps from round to round. -/
structure DS (r B : Nat) (w1 wx : World) (v s : Value) (k : Nat) (V S : List Int) : Prop where
  lv : V.length = k
  ls : S.length = k
  ov : wx.ownsRow B 2 1 v k (ints V)
  os : wx.ownsRow B 2 1 s k (ints S)
  ap : AP v s
  rd : Rd r wx
  tn : Turn r w1 wx

theorem pick4 (z : Int) (h0 : 0 ≤ z) (h1 : z < 4) : ∃ q, ∀ W : World, (W.alloc (Obj.cells #[.int .i64 100000, .int .i64 100001, .int .i64 (-100000), .int .i64 (-100001)] 2)).cell? ⟨W.heap.size, z.toNat, none⟩ = some (.int .i64 q) := by
  have : z = 0 ∨ z = 1 ∨ z = 2 ∨ z = 3 := by omega
  rcases this with rfl | rfl | rfl | rfl
  · exact ⟨100000, fun W => by simp [go_sem]⟩
  · exact ⟨100001, fun W => by simp [go_sem]⟩
  · exact ⟨-100000, fun W => by simp [go_sem]⟩
  · exact ⟨-100001, fun W => by simp [go_sem]⟩
theorem pick3 (z : Int) (h0 : 0 ≤ z) (h1 : z < 3) : ∃ q, ∀ W : World, (W.alloc (Obj.cells #[.int .i64 0, .int .i64 100, .int .i64 101] 2)).cell? ⟨W.heap.size, z.toNat, none⟩ = some (.int .i64 q) := by
  have : z = 0 ∨ z = 1 ∨ z = 2 := by omega
  rcases this with rfl | rfl | rfl
  · exact ⟨0, fun W => by simp [go_sem]⟩
  · exact ⟨100, fun W => by simp [go_sem]⟩
  · exact ⟨101, fun W => by simp [go_sem]⟩

set_option maxHeartbeats 2000000 in
theorem draw_any (a : Option Addr) (n0 cap : Nat) (w : World) (hc : Go.Proofs.Ytoemkkppopebcaa.Rd.Code w a n0 cap) (hn0 : n0 ≤ 1048576) : Calls Try.prog 5 #[.slice a n0 cap] w fun e w' => ∃ v s V S, e = .returned (.tuple #[v, s]) ∧ Lists.Reads w' v V ∧ Lists.Reads w' s S ∧ V.length ≤ 5 ∧ S.length ≤ 6 ∧ Below w.heap.size w w' := by
  have O : Hid (Calls Try.prog 9 #[.slice a n0 cap] w fun e w' => e = .returned (.pointer (some ⟨w.heap.size, 0, none⟩)) ∧ w' = w.alloc (.cells #[.slice a n0 cap, .int .i64 0] 40)) := open_any _ a n0 cap rfl w
  have K0 : Hid (Rd w.heap.size (w.alloc (.cells #[.slice a n0 cap, .int .i64 0] 40))) := Rd.new hc hn0 (Below.refl _ _)
  have B0 : Hid (Below w.heap.size w (w.alloc (.cells #[.slice a n0 cap, .int .i64 0] 40))) := (Below.refl _ _).alloc (Nat.le_refl _) _
  have zz : (w.alloc (.cells #[.slice a n0 cap, .int .i64 0] 40)).heap.size = w.heap.size + 1 := by simp
  obtain ⟨i0, hi, hz0, hz1, hz2⟩ := info_parts Lists.Try.info2
  clear hc
  go_enter Try.func5, Try.ntmps5
  go_wp2_with fail
  refine O.out.mono ?_
  rintro e w1 ⟨rfl, hw⟩
  rw [← hw] at K0 B0 zz
  clear hw O
  obtain ⟨r, hr⟩ : ∃ r, r = w.heap.size := ⟨_, rfl⟩
  have HR : Hid (r = w.heap.size) := hr
  rw [← hr] at K0 B0 ⊢
  obtain ⟨B, hB⟩ : ∃ B, B = w1.heap.size := ⟨_, rfl⟩
  have rB : r < B := by omega
  have hBB : B ≤ w1.heap.size ∧ w1.heap.size ≤ B := by omega
  clear hr zz hB
  go_wp2_with fail
  refine (below_all _ _ K0.out 5 (by omega) (by omega)).mono ?_
  rintro e w2 ⟨⟨u, ⟨hu1, hu2⟩, rfl⟩, k2, t2⟩
  obtain ⟨n, hn⟩ : ∃ n : Nat, 1 + u = (n : Int) := ⟨(1 + u).toNat, by omega⟩
  have n15 : 1 ≤ n ∧ n ≤ 5 := by omega
  have z2 := t2.size
  have S0 : Hid (DS r B w1 ((w2.alloc (Obj.cells #[] 2)).alloc (Obj.cells #[] 2)) (.slice (some ⟨w2.heap.size, 0, none⟩) 0 0) (.slice (some ⟨w2.heap.size + 1, 0, none⟩) 0 0) 0 [] []) := (by
    have o1 : (w2.alloc (Obj.cells #[] 2)).ownsRow B 2 1 (.slice (some ⟨w2.heap.size, 0, none⟩) 0 0) 0 (ints []) := World.ownsRow_lit w2 #[] 0 (by omega) (Nat.zero_le _) rfl
    have o2 : ((w2.alloc (Obj.cells #[] 2)).alloc (Obj.cells #[] 2)).ownsRow B 2 1 (.slice (some ⟨(w2.alloc (Obj.cells #[] 2)).heap.size, 0, none⟩) 0 0) 0 (ints []) := World.ownsRow_lit (w2.alloc (Obj.cells #[] 2)) #[] 0 (by simp; omega) (Nat.zero_le _) rfl
    refine ⟨rfl, rfl, o1.alloc _, by simpa using o2, fun g h1 h2 => ?_, ?_, ?_⟩
    · simp [Value.ownBlock] at h1 h2
      omega
    · exact k2.kept (((Below.refl (r + 1) w2).alloc (by omega) _).alloc (by simp; omega) _) (by omega)
    · exact (t2.alloc (by omega) _).alloc (by omega) _)
  clear k2 t2 K0
  go_wp2_with fail
  go_loopw [6, 7, 8] (fun v s i wr => ∃ (k : Nat) (V S : List Int), k ≤ n ∧ i = .int .i64 k ∧ Hid (DS r B w1 wr v s k V S)) (fun _ _ i _ => n - (intOf i).toNat)
  case atStart => exact ⟨0, [], [], Nat.zero_le _, rfl, S0⟩
  case round =>
    obtain ⟨k, V, S, hk, rfl, D⟩ := hrel
    obtain ⟨v, hv⟩ : ∃ v, v = u6 := ⟨_, rfl⟩
    obtain ⟨s, hs⟩ : ∃ s, s = u7 := ⟨_, rfl⟩
    subst hv hs
    obtain ⟨va, vc, ev⟩ := form_of D.out.ov D.out.lv
    obtain ⟨sa, sc, es⟩ := form_of D.out.os D.out.ls
    subst ev es
    by_cases hlt : k < n
    · have i2 : (k : Int) < (n : Int) := by omega
      go_wp2_with fail
      refine (below_all r _ D.out.rd 600 (by omega) (by omega)).mono ?_
      rintro e w3 ⟨⟨x, ⟨hx1, hx2⟩, rfl⟩, k3, t3⟩
      have ov3 : Hid (w3.ownsRow B 2 1 (.slice va k vc) k (ints V)) := row_turn D.out.ov t3 rB
      have os3 : Hid (w3.ownsRow B 2 1 (.slice sa k sc) k (ints S)) := row_turn D.out.os t3 rB
      have T3 : Hid (Turn r w1 w3) := D.out.tn.trans t3
      have K3 : Hid (Rd r w3) := k3
      have z3 : B ≤ w3.heap.size := (by have := T3.out.size; omega)
      clear k3 t3
      go_wp2_with (at_builtin; refine wpList_append_own_at _ rfl _ _ 24 rfl B 2 i0 (.int .i64 0) 1 8 Try.underlying24 hi hz0 hz1 hz2 rfl (by decide) _ _ _ rfl (ov3.out.alloc _) ⟨w3.heap.size, 0, none⟩ 1 1 [.int .i64 (x - 300)] rfl rfl (cell_one w3 _ 2) (one_one _) (by unfold maxLen; omega) (by omega) (by simp; omega) ?_)
      · intro v' w4 hown hgrow _ hat
        have os4 : Hid (w4.ownsRow B 2 1 (.slice sa k sc) k (ints S)) := row_off (os3.out.alloc _) hgrow D.out.ap
        have ap4 : Hid (AP v' (.slice sa k sc)) := D.out.ap.next os3.out (Nat.le_succ _) (by simpa using hat)
        have ov4 : Hid (w4.ownsRow B 2 1 v' (k + 1) (ints (V ++ [x - 300]))) := (by show World.ownsRow _ _ _ _ _ _ _; rw [ints_snoc]; exact hown)
        have BG : Below B w3 w4 := ((Below.refl B w3).alloc z3 _).grown hgrow (by simp; omega) (fun b hb => (ov3.out.lt b hb).1)
        have K4 : Hid (Rd r w4) := K3.out.kept BG rB
        have T4 : Hid (Turn r w1 w4) := turn_below T3.out BG (by omega) rB
        clear hown hgrow hat BG ov3 os3 K3 T3
        go_wp2_with fail
        refine (below_all r _ K4.out 12 (by omega) (by omega)).mono ?_
        rintro e w5 ⟨⟨y, ⟨hy1, hy2⟩, rfl⟩, k5, t5⟩
        have ov5 : Hid (w5.ownsRow B 2 1 v' (k + 1) (ints (V ++ [x - 300]))) := row_turn ov4.out t5 rB
        have os5 : Hid (w5.ownsRow B 2 1 (.slice sa k sc) k (ints S)) := row_turn os4.out t5 rB
        have T5 : Hid (Turn r w1 w5) := T4.out.trans t5
        have K5 : Hid (Rd r w5) := k5
        have z5 : B ≤ w5.heap.size := (by have := T5.out.size; omega)
        clear k5 t5 ov4 os4 K4 T4
        go_wp2_with (at_builtin; refine wpList_append_own_at _ rfl _ _ 24 rfl B 2 i0 (.int .i64 0) 1 8 Try.underlying24 hi hz0 hz1 hz2 rfl (by decide) _ _ _ rfl (os5.out.alloc _) ⟨w5.heap.size, 0, none⟩ 1 1 [.int .i64 (1 + y)] rfl rfl (cell_one w5 _ 2) (one_one _) (by unfold maxLen; omega) (by omega) (by simp; omega) ?_)
        · intro s' w6 hown hgrow _ hat
          have BG : Below B w5 w6 := ((Below.refl B w5).alloc z5 _).grown hgrow (by simp; omega) (fun b hb => (os5.out.lt b hb).1)
          have D6 : Hid (DS r B w1 w6 v' s' (k + 1) (V ++ [x - 300]) (S ++ [1 + y])) := ⟨by simp [D.out.lv], by simp [D.out.ls], row_off (ov5.out.alloc _) hgrow ap4.out.symm, by rw [ints_snoc]; exact hown, (ap4.out.symm.next ov5.out (Nat.le_succ _) (by simpa using hat)).symm, K5.out.kept BG rB, turn_below T5.out BG (by omega) rB⟩
          clear hown hgrow hat BG ov5 os5 K5 T5
          go_wp2_with fail
          go_roundw
          case rel => exact ⟨k + 1, V ++ [x - 300], S ++ [1 + y], by omega, by go_num, D6⟩
          case measure => simp [intOf]; omega
    · have hkn : k = n := by omega
      subst hkn
      go_wp2_with fail
      refine (below_all r _ D.out.rd 20 (by omega) (by omega)).mono ?_
      rintro e w3 ⟨⟨x, ⟨hx1, hx2⟩, rfl⟩, k3, t3⟩
      have ov3 : Hid (w3.ownsRow B 2 1 (.slice va k vc) k (ints V)) := row_turn D.out.ov t3 rB
      have os3 : Hid (w3.ownsRow B 2 1 (.slice sa k sc) k (ints S)) := row_turn D.out.os t3 rB
      have T3 : Hid (Turn r w1 w3) := D.out.tn.trans t3
      have K3 : Hid (Rd r w3) := k3
      have LV := D.out.lv
      have LS := D.out.ls
      have AA : Hid (AP (.slice va k vc) (.slice sa k sc)) := D.out.ap
      have z3 : B ≤ w3.heap.size := (by have := T3.out.size; omega)
      have WB : Hid (∀ wx, Turn r w1 wx → Below w.heap.size w wx) := fun wx t => (by have e := HR.out; have := B0.out; rw [e] at this t; exact Turn.below this (Nat.le_refl _) t)
      rcases row_cases (L := V) (by rw [LV]; exact ov3.out) with ⟨e0, _⟩ | ⟨g, cg, eg, gb, gs, _, gm⟩
      · rw [e0] at LV; simp at LV; omega
      rcases row_cases (L := S) (by rw [LS]; exact os3.out) with ⟨e0, _⟩ | ⟨h, ch, eh, hb, hs, _, hm⟩
      · rw [e0] at LS; simp at LS; omega
      rw [LV] at eg
      rw [LS] at eh
      simp at eg eh
      obtain ⟨eg1, eg2⟩ := eg
      obtain ⟨eh1, eh2⟩ := eh
      subst eg1 eg2 eh1 eh2
      have gh : g ≠ h := fun e => AA.out g rfl (by rw [e]; rfl)
      unfold maxLen at gm hm
      have l3 : (0 : Int) < (k : Int) := by omega
      clear k3 t3 D
      by_cases u0 : x = 0
      · subst u0
        have K4 : Hid (Rd r (w3.alloc (Obj.cells #[.int .i64 100000, .int .i64 100001, .int .i64 (-100000), .int .i64 (-100001)] 2))) := K3.out.kept ((Below.refl (r + 1) w3).alloc (by omega) _) (by omega)
        go_wp2_with fail
        refine (below_all r _ K4.out 4 (by omega) (by omega)).mono ?_
        rintro e w5 ⟨⟨z, ⟨hz1', hz2'⟩, rfl⟩, k5, t5⟩
        obtain ⟨q, hq⟩ := pick4 z hz1' hz2'
        have c0 : w5.cell? ⟨w3.heap.size, z.toNat, none⟩ = some (.int .i64 q) := (t5.cell z.toNat (by simp) (by omega)).trans (hq w3)
        have o5 : w5.ownsRow B 2 1 (.slice (some ⟨g, 0, none⟩) k vc) k (ints V) := row_turn (ov3.out.alloc _) t5 rB
        have p5 : w5.ownsRow B 2 1 (.slice (some ⟨h, 0, none⟩) k sc) k (ints S) := row_turn (os3.out.alloc _) t5 rB
        have c1 : w5.cell? ⟨g, 0, none⟩ = some (.int .i64 (V.getD 0 0)) := row_cell (L := V) (by rw [LV]; exact o5) 0 (by omega)
        have f1 : w5.frozen? ⟨g, 0, none⟩ = false := o5.frozenAt 0
        have RV : Hid (Lists.Reads (w5.setCell ⟨g, 0, none⟩ (.int .i64 q)) (.slice (some ⟨g, 0, none⟩) k vc) (V.set 0 q)) := reads_of (row_put o5 0 q) (by rw [List.length_set]; exact LV)
        have RS : Hid (Lists.Reads (w5.setCell ⟨g, 0, none⟩ (.int .i64 q)) (.slice (some ⟨h, 0, none⟩) k sc) S) := reads_of (row_set p5 0 _ (by simp [Value.ownBlock]; omega)) LS
        have T5 : Turn r w1 w5 := T3.out.trans ((Turn.of ((Below.refl w3.heap.size w3).alloc (Nat.le_refl _) _) (Nat.le_refl _) (by omega)).trans t5)
        have E5 : Hid (Below w.heap.size w (w5.setCell ⟨g, 0, none⟩ (.int .i64 q))) := WB.out _ (turn_below T5 ((Below.refl B w5).setCell (p := ⟨g, 0, none⟩) gb _) (by omega) rB)
        clear k5 t5 o5 p5 T5 hq
        generalize V.getD 0 0 = y at *
        go_wp2_with fail
        exact bodyPost_ret (v := .tuple #[.slice (some ⟨g, 0, none⟩) k vc, .slice (some ⟨h, 0, none⟩) k sc]) (by simp [results, Try.results5, go_sem]) rfl ⟨_, _, V.set 0 q, S, rfl, RV.out, RS.out, by rw [List.length_set]; omega, by omega, E5.out⟩
      · by_cases u1 : x = 1
        · subst u1
          have K4 : Hid (Rd r (w3.alloc (Obj.cells #[.int .i64 0, .int .i64 100, .int .i64 101] 2))) := K3.out.kept ((Below.refl (r + 1) w3).alloc (by omega) _) (by omega)
          go_wp2_with fail
          refine (below_all r _ K4.out 3 (by omega) (by omega)).mono ?_
          rintro e w5 ⟨⟨z, ⟨hz1', hz2'⟩, rfl⟩, k5, t5⟩
          obtain ⟨q, hq⟩ := pick3 z hz1' hz2'
          have c0 : w5.cell? ⟨w3.heap.size, z.toNat, none⟩ = some (.int .i64 q) := (t5.cell z.toNat (by simp) (by omega)).trans (hq w3)
          have o5 : w5.ownsRow B 2 1 (.slice (some ⟨g, 0, none⟩) k vc) k (ints V) := row_turn (ov3.out.alloc _) t5 rB
          have p5 : w5.ownsRow B 2 1 (.slice (some ⟨h, 0, none⟩) k sc) k (ints S) := row_turn (os3.out.alloc _) t5 rB
          have c1 : w5.cell? ⟨h, 0, none⟩ = some (.int .i64 (S.getD 0 0)) := row_cell (L := S) (by rw [LS]; exact p5) 0 (by omega)
          have f1 : w5.frozen? ⟨h, 0, none⟩ = false := p5.frozenAt 0
          have RS : Hid (Lists.Reads (w5.setCell ⟨h, 0, none⟩ (.int .i64 q)) (.slice (some ⟨h, 0, none⟩) k sc) (S.set 0 q)) := reads_of (row_put p5 0 q) (by rw [List.length_set]; exact LS)
          have RV : Hid (Lists.Reads (w5.setCell ⟨h, 0, none⟩ (.int .i64 q)) (.slice (some ⟨g, 0, none⟩) k vc) V) := reads_of (row_set o5 0 _ (by simp [Value.ownBlock]; omega)) LV
          have T5 : Turn r w1 w5 := T3.out.trans ((Turn.of ((Below.refl w3.heap.size w3).alloc (Nat.le_refl _) _) (Nat.le_refl _) (by omega)).trans t5)
          have E5 : Hid (Below w.heap.size w (w5.setCell ⟨h, 0, none⟩ (.int .i64 q))) := WB.out _ (turn_below T5 ((Below.refl B w5).setCell (p := ⟨h, 0, none⟩) hb _) (by omega) rB)
          clear k5 t5 o5 p5 T5 hq
          generalize S.getD 0 0 = y at *
          go_wp2_with fail
          exact bodyPost_ret (v := .tuple #[.slice (some ⟨g, 0, none⟩) k vc, .slice (some ⟨h, 0, none⟩) k sc]) (by simp [results, Try.results5, go_sem]) rfl ⟨_, _, V, S.set 0 q, rfl, RV.out, RS.out, by omega, by rw [List.length_set]; omega, E5.out⟩
        · by_cases u2 : x = 2
          · subst u2
            go_wp2_with (at_builtin; refine wpList_append_own_at _ rfl _ _ 24 rfl B 2 i0 (.int .i64 0) 1 8 Try.underlying24 hi hz0 hz1 hz2 rfl (by decide) _ _ _ rfl (os3.out.alloc _) ⟨w3.heap.size, 0, none⟩ 1 1 [.int .i64 1] rfl rfl (cell_one w3 _ 2) (one_one _) (by unfold maxLen; omega) (by omega) (by simp; omega) ?_)
            · intro s' w6 hown hgrow _ hat
              have BG : Below B w3 w6 := ((Below.refl B w3).alloc z3 _).grown hgrow (by simp; omega) (fun b hb => (os3.out.lt b hb).1)
              have RV : Hid (Lists.Reads w6 (.slice (some ⟨g, 0, none⟩) k vc) V) := reads_of (row_off (ov3.out.alloc _) hgrow AA.out.symm) LV
              have RS : Hid (Lists.Reads w6 s' (S ++ [1])) := reads_of (k := k + 1) (by rw [ints_snoc]; exact hown) (by simp [LS])
              have E6 : Hid (Below w.heap.size w w6) := WB.out _ (turn_below T3.out BG (by omega) rB)
              clear hown hgrow hat BG
              go_wp2_with fail
              exact bodyPost_ret (v := .tuple #[.slice (some ⟨g, 0, none⟩) k vc, s']) (by simp [results, Try.results5, go_sem]) rfl ⟨_, _, V, S ++ [1], rfl, RV.out, RS.out, by omega, by simp; omega, E6.out⟩
          · have E3 : Hid (Below w.heap.size w w3) := WB.out _ T3.out
            by_cases u3 : x = 3
            · subst u3
              go_wp2_with fail
              exact bodyPost_ret (v := .tuple #[.slice (some ⟨g, 0, none⟩) 0 vc, .slice (some ⟨h, 0, none⟩) 0 sc]) (by simp [results, Try.results5, go_sem]) rfl ⟨_, _, [], [], rfl, Or.inl ⟨rfl, _, _, rfl⟩, Or.inl ⟨rfl, _, _, rfl⟩, by simp, by simp, E3.out⟩
            · have e0 : (x == 0) = false := by simpa using u0
              have e1 : (x == 1) = false := by simpa using u1
              have e2 : (x == 2) = false := by simpa using u2
              have e3 : (x == 3) = false := by simpa using u3
              have RV : Hid (Lists.Reads w3 (.slice (some ⟨g, 0, none⟩) k vc) V) := reads_of ov3.out LV
              have RS : Hid (Lists.Reads w3 (.slice (some ⟨h, 0, none⟩) k sc) S) := reads_of os3.out LS
              go_wp2_with fail
              exact bodyPost_ret (v := .tuple #[.slice (some ⟨g, 0, none⟩) k vc, .slice (some ⟨h, 0, none⟩) k sc]) (by simp [results, Try.results5, go_sem]) rfl ⟨_, _, V, S, rfl, RV.out, RS.out, by omega, by omega, E3.out⟩
end Go.Proofs.Ytoemkkppopebcaa.Db
