/- Levels drawn: a row of them that is the call's own. -/
import Derived.Test.YtjnjpbbpphklhaaRdG
import Derived.Test.YtjnjpbbpphklhaaIvA
namespace Go.Proofs.Ytjnjpbbpphklhaa.Rd
open Go.ChangeShapes Go.WideShapes Go.ChangeAt Go.RowKit
open Flt

def flat (L : Lv) : List Value := L.flatMap fun z => [.int .i64 z.1, .float .f64 z.2]
theorem flat_len (L : Lv) : (flat L).length = L.length * 2 := by
  induction L with
  | nil => rfl
  | cons z L ih => unfold flat at ih ⊢; rw [List.flatMap_cons, List.length_append, ih]; simp; omega
theorem flat_app (L M : Lv) : flat (L ++ M) = flat L ++ flat M := by unfold flat; rw [List.flatMap_append]
theorem flat_at (L : Lv) (i : Nat) (h : i < L.length) : (flat L)[i * 2]? = some (.int .i64 (pOf L i)) ∧ (flat L)[i * 2 + 1]? = some (.float .f64 (tOf L i)) := by
  induction L generalizing i with
  | nil => simp at h
  | cons z L ih =>
    have e : flat (z :: L) = .int .i64 z.1 :: .float .f64 z.2 :: flat L := rfl
    rw [e]
    cases i with
    | zero => exact ⟨rfl, rfl⟩
    | succ i =>
      have := ih i (by simpa using h)
      rw [show (i + 1) * 2 = i * 2 + 1 + 1 by omega]
      exact this
theorem Turn.grown {r : Nat} {a w w' : World} {row : Option Nat} (h : Turn r a w) (hr : r < a.heap.size) (hg : w.grownBy w' row) (hb : ∀ g, row = some g → a.heap.size ≤ g) : Turn r a w' := by
  refine ⟨h.bel.grown hg (Nat.le_trans (Nat.le_of_lt hr) h.size) (fun g e => Nat.le_trans (Nat.le_of_lt hr) (hb g e)), fun k h1 h2 => ?_⟩
  rw [hg.block k (Nat.lt_of_lt_of_le h2 h.size) (fun e => by have := hb k e.symm; omega)]
  exact h.abv k h1 h2
theorem Rd.grown {r : Nat} {w w' : World} {row : Option Nat} (h : Rd r w) (hg : w.grownBy w' row) (hb : ∀ g, row = some g → r < g) : Rd r w' :=
  h.kept ((Below.refl (r + 1) w).grown hg (h.lt) (fun g e => hb g e)) (Nat.lt_succ_self r)
theorem row_turn {r : Nat} {w w' : World} {base : Nat} {e : TypeId} {k : Nat} {v : Value} {n : Nat} {xs : List Value} (h : w.ownsRow base e k v n xs) (hr : r < base) (ht : Turn r w w') : w'.ownsRow base e k v n xs := by
  refine ⟨h.1, ?_⟩
  rcases h.2 with h2 | ⟨g, cap, cur, h1, h2, h3, h4⟩
  · exact .inl h2
  · have hlt : g < w.heap.size := by
      rcases Nat.lt_or_ge g w.heap.size with x | x
      · exact x
      · rw [Array.getElem?_eq_none x] at h3; cases h3
    exact .inr ⟨g, cap, cur, h1, h2, (ht.abv g (by omega) hlt).trans h3, h4⟩
theorem info32 : (Try.prog.info? 32).map (fun i => (i.zero, i.size, i.bytes)) = some (some (.agg #[.int .i64 0, .float .f64 0]), 2, 16) := by kernel_rfl
theorem row_nil (w : World) (B : Nat) (hB : B ≤ w.heap.size) : (w.alloc (Obj.cells #[] 32)).ownsRow B 32 2 (.slice (some ⟨w.heap.size, 0, none⟩) 0 0) 0 [] := World.ownsRow_lit w #[] 0 hB (Nat.zero_le _) rfl
theorem cut_ok : ∀ n : Fin 42, 2 ≤ n.val → 1 < 12000 / n.val / 2 ∧ 12000 / n.val / 2 ≤ 6000 := by decide
theorem cut_nat (n : Nat) (h1 : 2 ≤ n) (h2 : n ≤ 41) : 1 < 12000 / n / 2 ∧ 12000 / n / 2 ≤ 6000 := cut_ok ⟨n, by omega⟩ h1

theorem two_cells (w : World) (x : Int) (y : Nat) (ty : TypeId) : ∀ j u, [Value.int .i64 x, Value.float .f64 y][j]? = some u → (w.alloc (Obj.cells #[.int .i64 x, .float .f64 y] ty)).cell? ((⟨w.heap.size, 0, none⟩ : Addr).add j) = some u := by
  intro j u hj
  match j, hj with
  | 0, hj => simp at hj; subst hj; simp [Addr.add]
  | 1, hj => simp at hj; subst hj; simp [Addr.add]
theorem two_one (x : Int) (y : Nat) : ∀ u ∈ [Value.int .i64 x, Value.float .f64 y], u.oneCell' = true := by
  intro u hu; simp at hu; rcases hu with rfl | rfl <;> rfl
def lenOf (v : Value) : Nat := match v with
  | .slice _ n _ => n
  | _ => 0
theorem row_form {w : World} {base n k : Nat} {e : TypeId} {v : Value} {xs : List Value} (h : w.ownsRow base e k v n xs) : ∃ a c, v = .slice a n c := by
  rcases row_cases h with ⟨rfl, rfl⟩ | ⟨g, cap, rfl, _⟩
  · exact ⟨_, _, rfl⟩
  · exact ⟨_, _, rfl⟩
set_option maxHeartbeats 2000000 in
theorem ascent_any (r : Nat) (w : World) (h : Rd r w) :
    Calls Try.prog 26 #[.pointer (some ⟨r, 0, none⟩), .int .i64 40] w fun e w' => ∃ v : Value, e = .returned v ∧ ∃ L : Lv, 2 ≤ L.length ∧ L.length ≤ 41 ∧ w'.ownsRow w.heap.size 32 2 v L.length (flat L) ∧ Rd r w' ∧ Turn r w w' := by
  have hr := h.lt
  have hQ : ∀ x y w, (binOp .quo 25 (.float .f64 x) (.float .f64 y)).run Try.prog w = .ok (.float .f64 (opB .quo x y w)) (w.drewN (opD .quo x y)) := fun x y w => run_op Try.prog .quo arQuo 25 x y w
  have hA : ∀ x y w, (binOp .add 25 (.float .f64 x) (.float .f64 y)).run Try.prog w = .ok (.float .f64 (opB .add x y w)) (w.drewN (opD .add x y)) := fun x y w => run_op Try.prog .add arAdd 25 x y w
  obtain ⟨i0, hi, hz0, hz1, hz2⟩ := info_parts info32
  go_enter Try.func26, Try.ntmps26
  go_wp2_with fail
  refine (size_any r _ h 40 (by omega) (by omega)).mono ?_
  rintro e w1 ⟨⟨u, ⟨hu1, hu2⟩, rfl⟩, k1, k2⟩
  obtain ⟨n, hn⟩ : ∃ n : Nat, 1 + u = (n : Int) := ⟨(1 + u).toNat, by omega⟩
  have n1 : 2 ≤ n := by omega
  have n2 : n ≤ 41 := by omega
  have K1 : Hid (Rd r (w1.alloc (.cells #[] 32))) := k1.kept ((Below.refl w1.heap.size w1).alloc (Nat.le_refl _) _) k1.lt
  have T1 : Hid (Turn r w (w1.alloc (.cells #[] 32))) := k2.alloc hr _
  have O1 : Hid ((w1.alloc (.cells #[] 32)).ownsRow w.heap.size 32 2 (.slice (some ⟨w1.heap.size, 0, none⟩) 0 0) 0 (flat [])) := row_nil w1 _ k2.size
  clear k1 k2
  go_wp2_with fail
  refine (below_any r _ K1.out 300 (by omega) (by omega)).mono ?_
  rintro e w2 ⟨⟨p0, ⟨hp1, hp2⟩, rfl⟩, k3, k4⟩
  have T2 : Hid (Turn r w w2) := T1.out.trans k4
  have O2 : Hid (w2.ownsRow w.heap.size 32 2 (.slice (some ⟨w1.heap.size, 0, none⟩) 0 0) 0 (flat [])) := row_turn O1.out hr k4
  have K2 : Hid (Rd r w2) := k3
  clear k3 k4 O1 T1 K1
  go_wp2_with fail
  refine (tenth_any r _ K2.out (-100) 300 401 (by omega) (by omega) (by omega) (by omega) (by omega)).mono ?_
  rintro e w3 ⟨⟨t0, ht0, rfl⟩, k5, k6⟩
  have T3 : Hid (Turn r w w3) := T2.out.trans k6
  have O3 : Hid (w3.ownsRow w.heap.size 32 2 (.slice (some ⟨w1.heap.size, 0, none⟩) 0 0) 0 (flat [])) := row_turn O2.out hr k6
  have K3 : Hid (Rd r w3) := k5
  clear k5 k6 O2 T2 K2
  go_wp2_with fail
  go_loopw [6, 7, 8, 9] (fun o p t i wr => ∃ (k : Nat) (L : Lv) (pp : Int) (tt : Nat), k ≤ n ∧ L.length = k ∧ -10000 ≤ pp ∧ pp ≤ 20000 ∧ (k = 0 → 0 < pp) ∧ i = .int .i64 k ∧ p = .int .i64 pp ∧ t = .float .f64 tt ∧ Hid (wr.ownsRow w.heap.size 32 2 o L.length (flat L)) ∧ Hid (Rd r wr) ∧ Hid (Turn r w wr)) (fun _ _ _ i _ => n - (intOf i).toNat)
  case atStart => exact ⟨0, [], 10000 + p0, t0, by omega, rfl, by omega, by omega, fun _ => by omega, rfl, by go_num, rfl, O3, K3, T3⟩
  case round =>
    obtain ⟨k, L, pp, tt, hk, hL, hp3, hp4, hp5, rfl, rfl, rfl, O, K, T⟩ := hrel
    by_cases hc : k < n ∧ 0 < pp
    · have a1 : (k : Int) < (n : Int) := by omega
      have a2 : pp > 0 := hc.2
      have a3 : IntKind.i64.wrap (pp - 1) = pp - 1 := IntWalk.i64_in _ (by omega)
      have a4 : IntKind.i64.wrap ((k : Int) + 1) = (k : Int) + 1 := IntWalk.i64_in _ (by omega)
      obtain ⟨d, hd⟩ : ∃ d, 12000 / n / 2 = d := ⟨_, rfl⟩
      obtain ⟨d1, d2⟩ := cut_nat n n1 n2
      rw [hd] at d1 d2
      have hd' : (12000 : Int) / (n : Int) / 2 = (d : Int) := (by rw [← hd]; rfl)
      have HD : Hid (1 < d ∧ d ≤ 6000) := ⟨d1, d2⟩
      go_wp2_with (at_builtin; refine wpList_append_own _ rfl _ _ 24 rfl w.heap.size 32 i0 (.agg #[.int .i64 0, .float .f64 0]) 2 16 Try.underlying24 hi hz0 hz1 hz2 rfl (by decide) _ _ _ rfl (O.out.alloc _) ⟨wr.heap.size, 0, none⟩ 1 1 [.int .i64 pp, .float .f64 tt] rfl rfl ?c1 ?c2 ?c3 ?c4 ?c5 ?_)
      case c1 =>
        intro j u hj
        match j, hj with
        | 0, hj => simp at hj; subst hj; simp [Addr.add]
        | 1, hj => simp at hj; subst hj; simp [Addr.add]
      case c2 => intro u hu; simp at hu; rcases hu with rfl | rfl <;> rfl
      case c3 => unfold maxLen; omega
      case c4 => omega
      case c5 => have := T.out.size; simp; omega
      intro v4 w4 hown hgrow _
      have HL : Hid ((L ++ [(pp, tt)]).length = k + 1) := (by show _ = _; rw [List.length_append, hL]; rfl)
      have O4 : Hid (w4.ownsRow w.heap.size 32 2 v4 (L ++ [(pp, tt)]).length (flat (L ++ [(pp, tt)]))) := (by show w4.ownsRow _ _ _ _ _ _; rw [flat_app, List.length_append]; first | exact hown | (rw [hL]; exact hown))
      have T4 : Hid (Turn r w w4) := (T.out.alloc hr _).grown hr hgrow (fun g e => (O.out.lt g e).1)
      have K4 : Hid (Rd r w4) := (K.out.kept ((Below.refl wr.heap.size wr).alloc (Nat.le_refl _) _) K.out.lt).grown hgrow (fun g e => Nat.lt_of_lt_of_le hr (O.out.lt g e).1)
      clear hown hgrow O K T
      go_wp2_with fail
      refine (below_any r _ K4.out d HD.out.1 (Nat.le_trans HD.out.2 (by omega))).mono ?_
      rintro e w5 ⟨⟨q, ⟨hq1, hq2⟩, rfl⟩, k5, k6⟩
      have O5 : Hid (w5.ownsRow w.heap.size 32 2 v4 (L ++ [(pp, tt)]).length (flat (L ++ [(pp, tt)]))) := row_turn O4.out hr k6
      have T5 : Hid (Turn r w w5) := T4.out.trans k6
      have K5 : Hid (Rd r w5) := k5
      clear k5 k6 O4 T4 K4
      have hq3 : q < 6000 := by omega
      have a5 : IntKind.i64.wrap (pp - 1 - q) = pp - 1 - q := IntWalk.i64_in _ (by omega)
      go_wp2_with fail
      refine (below_any r _ K5.out 60 (by omega) (by omega)).mono ?_
      rintro e w6 ⟨⟨z, ⟨hz3, hz4⟩, rfl⟩, k5, k6⟩
      have O6 : Hid (w6.ownsRow w.heap.size 32 2 v4 (L ++ [(pp, tt)]).length (flat (L ++ [(pp, tt)]))) := row_turn O5.out hr k6
      have T6 : Hid (Turn r w w6) := T5.out.trans k6
      have K6 : Hid (Rd r w6) := k5
      clear k5 k6 O5 T5 K5
      have a6 : IntKind.i64.wrap (z - 38) = z - 38 := IntWalk.i64_in _ (by omega)
      go_wp2_with fail
      obtain ⟨m, hm⟩ : ∃ m, opD BinOp.quo (floatOfInt FloatKind.f64 (z - 38)) 4621819117588971520 + opD BinOp.add tt (opB BinOp.quo (floatOfInt FloatKind.f64 (z - 38)) 4621819117588971520 w6) = m := ⟨_, rfl⟩
      rw [hm]
      have O7 : Hid ((w6.drewN m).ownsRow w.heap.size 32 2 v4 (L ++ [(pp, tt)]).length (flat (L ++ [(pp, tt)]))) := O6.out
      have T7 : Hid (Turn r w (w6.drewN m)) := T6.out.drewN m
      have K7 : Hid (Rd r (w6.drewN m)) := K6.out.drewN m
      clear hm
      refine (once_any r _ K7.out 6 (by omega) (by omega)).mono ?_
      rintro e w8 ⟨⟨b, rfl⟩, k5, k6⟩
      have O8 : Hid (w8.ownsRow w.heap.size 32 2 v4 (L ++ [(pp, tt)]).length (flat (L ++ [(pp, tt)]))) := row_turn O7.out hr k6
      have T8 : Hid (Turn r w w8) := T7.out.trans k6
      have K8 : Hid (Rd r w8) := k5
      clear k5 k6 O6 T6 K6 O7 T7 K7
      cases b
      · go_wp2_with fail
        go_roundw
        case rel => exact ⟨k + 1, L ++ [(pp, tt)], pp - 1 - q, _, by omega, HL.out, by omega, by omega, fun x => by omega, by go_num, rfl, rfl, O8, K8, T8⟩
        case measure => simp [intOf]; omega
      · go_wp2_with fail
        refine (tenth_any r _ K8.out (-600) 200 801 (by omega) (by omega) (by omega) (by omega) (by omega)).mono ?_
        rintro e w9 ⟨⟨t9, ht9, rfl⟩, k5, k6⟩
        have O9 : Hid (w9.ownsRow w.heap.size 32 2 v4 (L ++ [(pp, tt)]).length (flat (L ++ [(pp, tt)]))) := row_turn O8.out hr k6
        have T9 : Hid (Turn r w w9) := T8.out.trans k6
        have K9 : Hid (Rd r w9) := k5
        clear k5 k6 O8 T8 K8
        go_wp2_with fail
        go_roundw
        case rel => exact ⟨k + 1, L ++ [(pp, tt)], pp - 1 - q, t9, by omega, HL.out, by omega, by omega, fun x => by omega, by go_num, rfl, rfl, O9, K9, T9⟩
        case measure => simp [intOf]; omega
    · have a0 : 1 ≤ L.length := by omega
      have a9 : L.length ≤ 41 := by omega
      obtain ⟨sa, sc, rfl⟩ := row_form O.out
      rcases (show (n : Int) ≤ (k : Int) ∨ ((k : Int) < (n : Int) ∧ pp ≤ 0) by omega) with a1 | ⟨a1, a2⟩
      all_goals
        clear hL hc
        go_wp2_with fail
        go_loopw [6] (fun o wr => ∃ (L : Lv), 1 ≤ L.length ∧ L.length ≤ 41 ∧ (∃ a c, o = .slice a L.length c) ∧ Hid (wr.ownsRow w.heap.size 32 2 o L.length (flat L)) ∧ Hid (Rd r wr) ∧ Hid (Turn r w wr)) (fun o _ => 2 - lenOf o)
        case atStart => exact ⟨L, a0, a9, ⟨_, _, rfl⟩, O, K, T⟩
        case round =>
          clear a0 a9 O K T
          obtain ⟨L2, b1, b2, ⟨sa2, sc2, rfl⟩, O, K, T⟩ := hrel
          by_cases hc : L2.length < 2
          · have e1 : L2.length = 1 := by omega
            obtain ⟨z, rfl⟩ : ∃ z, L2 = [z] := (by
              match L2, e1 with
              | [z], _ => exact ⟨z, rfl⟩)
            obtain ⟨zp, zt⟩ := z
            rcases row_cases O.out with ⟨q1, _⟩ | ⟨g, cap, q1, q2, q3, _, _⟩
            · simp at q1
            · cases q1
              have c1 : wr.cell? ⟨g, 0, none⟩ = some (.int .i64 zp) := O.out.cells (g := g) rfl 0 _ rfl
              clear hc e1 b1 b2
              have O1 : Hid (wr.ownsRow w.heap.size 32 2 (.slice (some ⟨g, 0, none⟩) 1 sc2) 1 (flat [(zp, zt)])) := O.out
              clear O
              go_wp2_with (at_builtin; refine wpList_append_own _ rfl _ _ 24 rfl w.heap.size 32 i0 (.agg #[.int .i64 0, .float .f64 0]) 2 16 Try.underlying24 hi hz0 hz1 hz2 rfl (by decide) _ _ _ rfl (O1.out.alloc _) ⟨wr.heap.size, 0, none⟩ 1 1 [.int .i64 (wrap64 (zp - 1)), .float .f64 tt] rfl rfl (two_cells _ _ _ _) (two_one _ _) (by decide) (by decide) (by have := T.out.size; simp; omega) ?_)
              intro v4 w4 hown hgrow _
              have O4 : Hid (w4.ownsRow w.heap.size 32 2 v4 [(zp, zt), (wrap64 (zp - 1), tt)].length (flat [(zp, zt), (wrap64 (zp - 1), tt)])) := hown
              have T4 : Hid (Turn r w w4) := (T.out.alloc hr _).grown hr hgrow (fun g e => (O1.out.lt g e).1)
              have K4 : Hid (Rd r w4) := (K.out.kept ((Below.refl wr.heap.size wr).alloc (Nat.le_refl _) _) K.out.lt).grown hgrow (fun g e => Nat.lt_of_lt_of_le hr (O1.out.lt g e).1)
              obtain ⟨a4, c4, rfl⟩ := row_form O4.out
              clear hown hgrow O1 K T
              go_wp2_with fail
              go_roundw
              case rel => exact ⟨[(zp, zt), (wrap64 (zp - 1), tt)], by simp, by simp, ⟨_, _, rfl⟩, O4, K4, T4⟩
              case measure => simp [lenOf]
          · obtain ⟨n2, hn2⟩ : ∃ n2, L2.length = n2 := ⟨_, rfl⟩
            have HL : Hid (L2.length = n2) := hn2
            rw [hn2] at hc b1 b2 O ⊢
            have c1 : ¬ ((n2 : Int) < 2) := by omega
            clear hn2
            go_wp2_with fail
            go_ret
            exact ⟨_, rfl, L2, by rw [HL.out]; omega, by rw [HL.out]; omega, by rw [HL.out]; exact O.out, K.out, T.out⟩
end Go.Proofs.Ytjnjpbbpphklhaa.Rd
