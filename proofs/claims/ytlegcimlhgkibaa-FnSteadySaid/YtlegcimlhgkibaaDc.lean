/- Series drawn of a code. -/
import Derived.Test.YtlegcimlhgkibaaLi
import Derived.Test.YtlegcimlhgkibaaRdJ
namespace Go.Proofs.Ytlegcimlhgkibaa.Dc
open Go.ChangeShapes Go.WideShapes Go.ChangeAt Go.RowKit
open Go.Proofs.Ytlegcimlhgkibaa.Lists Go.Proofs.Ytlegcimlhgkibaa.Al Go.Proofs.Ytlegcimlhgkibaa.Rd Go.Proofs.Ytlegcimlhgkibaa.Se

/-- A list that lies elsewhere than the reader. -/
def LR (r : Nat) (w : World) (v : Value) (L : List Int) : Prop :=
  (L = [] ∧ ∃ a cap, v = .slice a 0 cap) ∨ ∃ b o cap, v = .slice (some ⟨b, o, none⟩) L.length cap ∧ L.length ≤ cap ∧ cap ≤ maxLen ∧ b < w.heap.size ∧ b ≠ r ∧ ∀ i, i < L.length → w.cell? ⟨b, o + i, none⟩ = some (.int .i64 (L.getD i 0))
theorem LR.reads {r : Nat} {w : World} {v : Value} {L : List Int} (h : LR r w v L) : Lists.Reads w v L := by
  rcases h with h | ⟨b, o, cap, h1, h2, h3, h4, _, h5⟩
  · exact Or.inl h
  · exact Or.inr ⟨b, o, cap, h1, h2, h3, h4, h5⟩
theorem LR.turn {r : Nat} {w w' : World} {v : Value} {L : List Int} (h : LR r w v L) (t : Turn r w w') : LR r w' v L := by
  rcases h with h | ⟨b, o, cap, h1, h2, h3, h4, h6, h5⟩
  · exact Or.inl h
  · exact Or.inr ⟨b, o, cap, h1, h2, h3, Nat.lt_of_lt_of_le h4 t.size, h6, fun i hi => (t.cell (o + i) h4 h6).trans (h5 i hi)⟩
theorem row_turn {r B n : Nat} {w w' : World} {v : Value} {xs : List Value} (h : w.ownsRow B 2 1 v n xs) (t : Turn r w w') (hr : r < B) : w'.ownsRow B 2 1 v n xs := by
  refine h.kept (row := some r) ⟨t.bel.os, t.bel.tape, t.bel.output, t.bel.size, fun k hk hne => ?_⟩ ?_
  · by_cases e : k < r
    · exact t.bel.block k e
    · have : k ≠ r := fun x => hne (by rw [x])
      exact t.abv k (by omega) hk
  · cases e : v.ownBlock with
    | none => exact Or.inl rfl
    | some k =>
      refine Or.inr fun x => ?_
      have := (h.lt k e).1
      simp at x
      omega
theorem row_lr {r B : Nat} {w : World} {v : Value} {L : List Int} (h : w.ownsRow B 2 1 v L.length (ints L)) (hr : r < B) : LR r w v L := by
  rcases row_cases h with ⟨e, e2⟩ | ⟨g, cap, e, hb, hs, hc, hm⟩
  · exact Or.inl ⟨e, _, _, e2⟩
  · subst e
    exact Or.inr ⟨g, 0, cap, rfl, hc, hm, hs, by omega, fun i hi => by rw [Nat.zero_add]; exact row_cell h i hi⟩
theorem turn_below {r : Nat} {w w2 w3 : World} (t : Turn r w w2) (hb : Below w.heap.size w2 w3) (hr : r < w.heap.size) : Turn r w w3 :=
  ⟨t.bel.trans (hb.mono (by omega)), fun i h1 h2 => (hb.block i h2).trans (t.abv i h1 h2)⟩
theorem ints_snoc (L : List Int) (x : Int) : ints (L ++ [x]) = ints L ++ [.int .i64 x] := by simp [ints]
theorem cell_one (w : World) (v0 : Value) (t : TypeId) : ∀ j u, [v0][j]? = some u → (w.alloc (Obj.cells #[v0] t)).cell? ((⟨w.heap.size, 0, none⟩ : Addr).add j) = some u := by
  intro j u hj
  match j, hj with
  | 0, hj => simp at hj; subst hj; simp [Addr.add]
theorem one_one (x : Int) : ∀ u ∈ [Value.int .i64 x], u.oneCell' = true := by intro u hu; simp at hu; subst hu; rfl

set_option maxHeartbeats 1000000 in
theorem size_any (r : Nat) (w : World) (h : Rd r w) : Calls Try.prog 9 #[.pointer (some ⟨r, 0, none⟩), .int .i64 3, .int .i64 50] w (Drawn r w fun u => 1 ≤ u ∧ u ≤ 50) := by
  have hh := h
  obtain ⟨a, n, cap, p, h1, h2, h3, h4, h5, h6, h7⟩ := hh
  have H : Hid (Rd r w) := h
  clear h h7
  obtain ⟨q, hq⟩ : ∃ q : Nat, q = n / 3 := ⟨_, rfl⟩
  have e1 : (n : Int).tdiv 3 = (q : Int) := by rw [Int.tdiv_eq_ediv_of_nonneg (by omega)]; omega
  have bq : q ≤ 400000 := by omega
  clear hq
  by_cases g : (50 : Int) < 1 + (q : Int)
  · go_enter Try.func9, Try.ntmps9
    go_wp2_with fail
    refine (below_all r _ H.out 50 (by omega) (by omega)).mono ?_
    rintro e w1 ⟨⟨u, ⟨hu1, hu2⟩, rfl⟩, k1, k2⟩
    have K : Hid (Rd r w1 ∧ Turn r w w1) := ⟨k1, k2⟩
    clear k1 k2
    go_wp2_with fail
    go_ret
    exact ⟨⟨1 + u, by omega, rfl⟩, K.out.1, K.out.2⟩
  · have C : Hid (Calls Try.prog 10 #[.pointer (some ⟨r, 0, none⟩), .int .i64 (1 + (q : Int))] w (Drawn r w fun u => 0 ≤ u ∧ u < 1 + (q : Int))) := (by
      have := below_all r w H.out (1 + q) (by omega) (by omega)
      rw [Int.natCast_add] at this
      exact this)
    go_enter Try.func9, Try.ntmps9
    go_wp2_with fail
    refine C.out.mono ?_
    rintro e w1 ⟨⟨u, ⟨hu1, hu2⟩, rfl⟩, k1, k2⟩
    have K : Hid (Rd r w1 ∧ Turn r w w1) := ⟨k1, k2⟩
    clear k1 k2
    go_wp2_with fail
    go_ret
    exact ⟨⟨1 + u, by omega, rfl⟩, K.out.1, K.out.2⟩

set_option maxHeartbeats 2000000 in
theorem series_any (r : Nat) (w : World) (h : Rd r w) : Calls Try.prog 20 #[.pointer (some ⟨r, 0, none⟩), .int .i64 50] w fun e w' => ∃ v L, e = .returned v ∧ w'.ownsRow w.heap.size 2 1 v L.length (ints L) ∧ (1 ≤ L.length ∧ L.length ≤ 50) ∧ Rd r w' ∧ Turn r w w' := by
  have hr := h.lt
  have S : Hid (Calls Try.prog 9 #[.pointer (some ⟨r, 0, none⟩), .int .i64 3, .int .i64 50] w (Drawn r w fun u => 1 ≤ u ∧ u ≤ 50)) := size_any r w h
  obtain ⟨i0, hi, hz0, hz1, hz2⟩ := info_parts Lists.Try.info2
  clear h
  go_enter Try.func20, Try.ntmps20
  go_wp2_with fail
  refine S.out.mono ?_
  rintro e w1 ⟨⟨u, ⟨hu1, hu2⟩, rfl⟩, k1, k2⟩
  obtain ⟨n, hn⟩ : ∃ n : Nat, u = (n : Int) := ⟨u.toNat, by omega⟩
  subst hn
  have z1 := k2.size
  have R0 : Hid ((w1.alloc (Obj.cells #[] 2)).ownsRow w.heap.size 2 1 (.slice (some ⟨w1.heap.size, 0, none⟩) 0 0) 0 (ints [])) := World.ownsRow_lit w1 #[] 0 z1 (Nat.zero_le _) rfl
  have K0 : Hid (Rd r (w1.alloc (Obj.cells #[] 2))) := k1.kept ((Below.refl (r + 1) w1).alloc (by omega) _) (by omega)
  have T0 : Hid (Turn r w (w1.alloc (Obj.cells #[] 2))) := k2.alloc hr _
  clear k1 k2
  go_wp2_with fail
  refine (below_all r _ K0.out 100 (by omega) (by omega)).mono ?_
  rintro e w0 ⟨⟨x0, ⟨hx1, hx2⟩, rfl⟩, k3, k4⟩
  have R1 : Hid (w0.ownsRow w.heap.size 2 1 (.slice (some ⟨w1.heap.size, 0, none⟩) 0 0) 0 (ints [])) := row_turn R0.out k4 hr
  have K1 : Hid (Rd r w0) := k3
  have T1 : Hid (Turn r w w0) := T0.out.trans k4
  clear k3 k4 R0 K0 T0
  go_wp2_with fail
  go_loopw [6, 7, 8] (fun v q i wr => ∃ (k : Nat) (L : List Int) (x : Int), k ≤ n ∧ i = .int .i64 k ∧ q = .int .i64 x ∧ (-(30 * (k : Int)) ≤ x ∧ x ≤ 100 + 30 * (k : Int)) ∧ L.length = k ∧ Hid (wr.ownsRow w.heap.size 2 1 v k (ints L)) ∧ Hid (Rd r wr) ∧ Hid (Turn r w wr)) (fun _ _ i _ => n - (intOf i).toNat)
  case atStart => exact ⟨0, [], x0, Nat.zero_le _, rfl, rfl, ⟨by omega, by omega⟩, rfl, R1, K1, T1⟩
  case round =>
    obtain ⟨k, L, x, hk, rfl, rfl, ⟨bx1, bx2⟩, hL, R, K, TT⟩ := hrel
    obtain ⟨v, hv⟩ : ∃ v, v = u6 := ⟨_, rfl⟩
    subst hv
    by_cases hlt : k < n
    · have i2 : (k : Int) < (n : Int) := by omega
      obtain ⟨sa, sc, hv⟩ : ∃ a c, v = .slice a k c := by
        have := Lists.reads_row (L := L) (by rw [hL]; exact R.out)
        obtain ⟨a, c, e⟩ := this.form
        rw [hL] at e
        exact ⟨a, c, e⟩
      subst hv
      go_wp2_with fail
      refine (once_any r _ K.out 14 (by omega) (by omega)).mono ?_
      rintro e w2 ⟨⟨u, rfl⟩, k3, k4⟩
      have R2 : Hid (w2.ownsRow w.heap.size 2 1 (.slice sa k sc) k (ints L)) := row_turn R.out k4 hr
      have K2 : Hid (Rd r w2) := k3
      have T2 : Hid (Turn r w w2) := TT.out.trans k4
      clear k3 k4 R K TT
      cases u
      · go_wp2_with fail
        refine (below_all r _ K2.out 12 (by omega) (by omega)).mono ?_
        rintro e w3 ⟨⟨y, ⟨hy1, hy2⟩, rfl⟩, k3, k4⟩
        have R3 : Hid (w3.ownsRow w.heap.size 2 1 (.slice sa k sc) k (ints L)) := row_turn R2.out k4 hr
        have K3 : Hid (Rd r w3) := k3
        have T3 : Hid (Turn r w w3) := T2.out.trans k4
        have z3 := T3.out.size
        clear k3 k4 R2 K2 T2
        go_wp2_with (at_builtin; refine wpList_append_own _ rfl _ _ 24 rfl w.heap.size 2 i0 (.int .i64 0) 1 8 Try.underlying24 hi hz0 hz1 hz2 rfl (by decide) _ _ _ rfl (R3.out.alloc _) ⟨w3.heap.size, 0, none⟩ 1 1 [.int .i64 (x + y)] rfl rfl (cell_one w3 _ 2) (one_one _) (by unfold maxLen; omega) (by omega) (by simp; omega) ?_)
        · intro v' w4 hown hgrow _
          have R4 : Hid (w4.ownsRow w.heap.size 2 1 v' (k + 1) (ints (L ++ [x + y]))) := (by show World.ownsRow _ _ _ _ _ _ _; rw [ints_snoc]; exact hown)
          have BG : Below w.heap.size w3 w4 := ((Below.refl w.heap.size w3).alloc z3 _).grown hgrow (by simp; omega) (fun b hb => (R3.out.lt b hb).1)
          have K4 : Hid (Rd r w4) := K3.out.kept BG hr
          have T4 : Hid (Turn r w w4) := turn_below T3.out BG hr
          clear hown hgrow BG R3 K3 T3
          go_wp2_with fail
          go_roundw
          case rel => exact ⟨k + 1, L ++ [x + y], x, by omega, by go_num, rfl, ⟨by omega, by omega⟩, by simp [hL], R4, K4, T4⟩
          case measure => simp [intOf]; omega
      · go_wp2_with fail
        refine (below_all r _ K2.out 60 (by omega) (by omega)).mono ?_
        rintro e w5 ⟨⟨t, ⟨ht1, ht2⟩, rfl⟩, k3, k4⟩
        have R5 : Hid (w5.ownsRow w.heap.size 2 1 (.slice sa k sc) k (ints L)) := row_turn R2.out k4 hr
        have K5 : Hid (Rd r w5) := k3
        have T5 : Hid (Turn r w w5) := T2.out.trans k4
        clear k3 k4 R2 K2 T2
        go_wp2_with fail
        refine (below_all r _ K5.out 12 (by omega) (by omega)).mono ?_
        rintro e w3 ⟨⟨y, ⟨hy1, hy2⟩, rfl⟩, k3, k4⟩
        have R3 : Hid (w3.ownsRow w.heap.size 2 1 (.slice sa k sc) k (ints L)) := row_turn R5.out k4 hr
        have K3 : Hid (Rd r w3) := k3
        have T3 : Hid (Turn r w w3) := T5.out.trans k4
        have z3 := T3.out.size
        clear k3 k4 R5 K5 T5
        go_wp2_with (at_builtin; refine wpList_append_own _ rfl _ _ 24 rfl w.heap.size 2 i0 (.int .i64 0) 1 8 Try.underlying24 hi hz0 hz1 hz2 rfl (by decide) _ _ _ rfl (R3.out.alloc _) ⟨w3.heap.size, 0, none⟩ 1 1 [.int .i64 (x + t - 30 + y)] rfl rfl (cell_one w3 _ 2) (one_one _) (by unfold maxLen; omega) (by omega) (by simp; omega) ?_)
        · intro v' w4 hown hgrow _
          have R4 : Hid (w4.ownsRow w.heap.size 2 1 v' (k + 1) (ints (L ++ [x + t - 30 + y]))) := (by show World.ownsRow _ _ _ _ _ _ _; rw [ints_snoc]; exact hown)
          have BG : Below w.heap.size w3 w4 := ((Below.refl w.heap.size w3).alloc z3 _).grown hgrow (by simp; omega) (fun b hb => (R3.out.lt b hb).1)
          have K4 : Hid (Rd r w4) := K3.out.kept BG hr
          have T4 : Hid (Turn r w w4) := turn_below T3.out BG hr
          clear hown hgrow BG R3 K3 T3
          go_wp2_with fail
          go_roundw
          case rel => exact ⟨k + 1, L ++ [x + t - 30 + y], x + t - 30, by omega, by go_num, rfl, ⟨by omega, by omega⟩, by simp [hL], R4, K4, T4⟩
          case measure => simp [intOf]; omega
    · have hkn : k = n := by omega
      subst hkn
      have RE : Hid (wr.ownsRow w.heap.size 2 1 v L.length (ints L)) := (by show World.ownsRow _ _ _ _ _ _ _; rw [hL]; exact R.out)
      clear R
      go_wp2_with fail
      go_ret
      exact ⟨_, L, rfl, RE.out, ⟨by omega, by omega⟩, K.out, TT.out⟩

theorem pick4 (z : Int) (h0 : 0 ≤ z) (h1 : z < 4) : ∃ q, ∀ W : World, (W.alloc (Obj.cells #[.int .i64 100000, .int .i64 100001, .int .i64 (-100000), .int .i64 (-100001)] 2)).cell? ⟨W.heap.size, z.toNat, none⟩ = some (.int .i64 q) := by
  have : z = 0 ∨ z = 1 ∨ z = 2 ∨ z = 3 := by omega
  rcases this with rfl | rfl | rfl | rfl
  · exact ⟨100000, fun W => by simp [go_sem]⟩
  · exact ⟨100001, fun W => by simp [go_sem]⟩
  · exact ⟨-100000, fun W => by simp [go_sem]⟩
  · exact ⟨-100001, fun W => by simp [go_sem]⟩
theorem zeros_made (n : Nat) : (madeCells (Value.int .i64 0).cells (n * 1)).toList = ints (List.replicate n 0) := by
  apply List.ext_getElem
  · simp [madeCells, ints]
  · intro i h1 h2
    simp [madeCells, ints, Value.cells, Nat.mod_one]
end Go.Proofs.Ytlegcimlhgkibaa.Dc
