/- Grads: the program. -/
import Derived.Test.YtplichonohoacaaVaA
import Derived.Test.YtplichonohoacaaGoA
import Derived.Test.YtplichonohoacaaNdA
import Derived.Test.YtplichonohoacaaPrE
import Derived.RangeFuncNested
import Derived.RangeFuncBound
import Derived.RangeFuncCalls
import Derived.RangeFuncLeaves
import Derived.Shelf.Abstract
import Derived.Shelf.RegionOpen
import Derived.WalkKit
import Derived.OwnWalkIn
import Derived.TacticsInMore
import Derived.LoopNIn
import Derived.LoopIn
import Derived.Deep.RegionHeldLaw
import Derived.Deep.AppendLies
import Derived.Maps.AppendAt
import Derived.RangeFuncBox
namespace Go.Proofs.Ytplichonohoacaa.Gd
open Go.ChangeShapes Go.WideShapes Go.ChangeAt Go.RowKit
open Go.Proofs.Ytplichonohoacaa.Flt
attribute [local go_sem] Oper.semAt_some

def gradN (r c : Int) (L : List Nat) (k : Nat) : Nat × Nat := gradL ((nb r c ((k : Int) / c) ((k : Int) % c)).map (vAt c L))
theorem Try.info51 : (Try.prog.info? 51).map (fun i => (i.zero, i.size, i.bytes)) = some (some (.agg #[.float .f64 0, .float .f64 0]), 2, 16) := by kernel_rfl
theorem grads_snoc {r c : Int} {L : List Nat} {P : Pr.Ls} {x y : Nat} (h : ∀ k, k < P.length → (cn (Pr.c0 P k), cn (Pr.c1 P k)) = gradN r c L k) (hx : (cn x, cn y) = gradN r c L P.length) (k : Nat) (hk : k < (P ++ [(x, y)]).length) : (cn (Pr.c0 (P ++ [(x, y)]) k), cn (Pr.c1 (P ++ [(x, y)]) k)) = gradN r c L k := by
  simp at hk
  by_cases e : k = P.length
  · subst e
    simpa [Pr.c0, Pr.c1, List.getD_eq_getElem?_getD] using hx
  · have := h k (by omega)
    simpa [Pr.c0, Pr.c1, List.getD_eq_getElem?_getD, List.getElem?_append_left (show k < P.length by omega)] using this

set_option maxHeartbeats 1000000 in
theorem igrads_no (r c s ws st : Int) (a : Option Addr) (n cap : Nat) (w : World) (h : right r c s ws st n = false) :
    Calls Try.prog 13 #[gv r c s ws st, .slice a n cap] w fun e w' => e = .returned (.slice none 0 0) ∧ Below w.heap.size w w' := by
  have B0 : Hid (Below w.heap.size w ((w.alloc (Obj.cells #[.int .i64 r, .int .i64 c, .int .i64 s, .int .i64 ws, .int .i64 st] 26)).alloc (Obj.cells #[.slice a n cap] 24))) := ((Below.refl _ _).alloc (Nat.le_refl _) _).alloc (by simp) _
  have RI : Hid (∀ w, Calls Try.prog 20 #[gv r c s ws st, .slice a n cap] w fun e w' => e = .returned (.bool false) ∧ Below w.heap.size w w') := fun w => by have := ifield_any r c s ws st a n cap w; rwa [h] at this
  clear h
  go_enter Try.func13, Try.ntmps13
  go_wp2_with fail
  refine (RI.out _).mono ?_
  rintro e w1 ⟨rfl, b1⟩
  have B1 : Hid (Below w.heap.size w w1) := B0.out.trans (b1.mono B0.out.size)
  clear b1
  go_wp2_with fail
  go_ret
  exact ⟨rfl, B1.out⟩

set_option maxRecDepth 20000 in
set_option maxHeartbeats 8000000 in
theorem igrads_yes (r c s ws st : Int) (L : List Nat) (v : Value) (w : World) (hL : Fls.Reads w v L) (h : right r c s ws st L.length = true) :
    Calls Try.prog 13 #[gv r c s ws st, v] w fun e w' => ∃ v' P, e = .returned v' ∧ Pr.Row w' w.heap.size v' P ∧ P.length = L.length ∧ (∀ k, k < P.length → (cn (Pr.c0 P k), cn (Pr.c1 P k)) = gradN r c L k) ∧ Below w.heap.size w w' := by
  have hR2 : gok r c s ws st = true ∧ (L.length : Int) = r * c := by unfold right at h; simpa only [Bool.and_eq_true, decide_eq_true_eq] using h
  obtain ⟨hr, hc, _⟩ := gok_parts hR2.1
  have pl := prod_le2 hr hc
  have hn := hR2.2
  obtain ⟨bl, o, hcel, hv⟩ := reads_at hL
  obtain ⟨hbl, cap, rfl⟩ := hv (by omega)
  have RI : Hid (∀ w, Calls Try.prog 20 #[gv r c s ws st, .slice (some ⟨bl, o, none⟩) L.length cap] w fun e w' => e = .returned (.bool true) ∧ Below w.heap.size w w') := fun w => by have := ifield_any r c s ws st (some ⟨bl, o, none⟩) L.length cap w; rwa [h] at this
  have ARD : Hid (∀ (i j : Int) (u : World), 0 ≤ i ∧ i < r → 0 ≤ j ∧ j < c → Below w.heap.size w u → Calls Try.prog 25 #[gv r c s ws st, .slice (some ⟨bl, o, none⟩) L.length cap, nd i j] u fun e w' => ∃ v', e = .returned v' ∧ Fls.Reads w' v' ((nb r c i j).map (vAt c L)) ∧ Below u.heap.size u w') := fun i j u hi hj hu => (around_any r c s ws st i j hr hc hi hj L _ u (hL.on hu) hn).mono (by
    rintro e w' ⟨v', rfl, hrow, hb⟩
    exact ⟨v', rfl, Fls.reads_row (by rw [List.length_map]; exact hrow), hb⟩)
  obtain ⟨n, hn1⟩ : ∃ n, n = L.length := ⟨_, rfl⟩
  rw [← hn1] at RI ARD ⊢
  have HN : Hid (n = L.length) := hn1
  obtain ⟨w2, hw2⟩ : ∃ w2, w2 = ((w.alloc (Obj.cells #[.int .i64 r, .int .i64 c, .int .i64 s, .int .i64 ws, .int .i64 st] 26)).alloc (Obj.cells #[.slice (some ⟨bl, o, none⟩) n cap] 24)) := ⟨_, rfl⟩
  have HW2 : Hid (w2 = ((w.alloc (Obj.cells #[.int .i64 r, .int .i64 c, .int .i64 s, .int .i64 ws, .int .i64 st] 26)).alloc (Obj.cells #[.slice (some ⟨bl, o, none⟩) n cap] 24))) := hw2
  have B2 : Below w.heap.size w w2 := by rw [hw2]; exact ((Below.refl _ _).alloc (Nat.le_refl _) _).alloc (by simp) _
  have s2 : w2.heap.size = w.heap.size + 1 + 1 := by rw [hw2]; simp
  have G2 : Gx w2 w.heap.size r c s ws st := by rw [hw2]; unfold Gx; simp [go_sem]
  have v2 : w2.cell? ⟨w.heap.size + 1, 0, none⟩ = some (.slice (some ⟨bl, o, none⟩) n cap) := by rw [hw2]; simp [go_sem]
  clear hw2 h hn1 hv
  refine (callsIn_wide (n := 5)).1 ?_
  refine callsIn_of_wp_marks Try.func13 rfl trivial ?_ rfl
  simp only [Try.ntmps13, List.size_toArray, List.length_cons, List.length_nil, Nat.reduceAdd, Nat.reduceSub, Array.replicate_succ, Array.replicate_zero, List.push_toArray, List.append_toArray, List.nil_append, List.cons_append]
  gi_wp2_with fail
  rw [← HW2.out]
  refine ⟨trivial, (callsIn_wide.2 (RI.out w2)).mono ?_⟩
  rintro e w3 ⟨rfl, b3⟩
  obtain ⟨w4, hw4⟩ : ∃ w4, w4 = w3.alloc (Obj.cells #[.slice none 0 0] 32) := ⟨_, rfl⟩
  have HW4 : Hid (w4 = w3.alloc (Obj.cells #[.slice none 0 0] 32)) := hw4
  have b4 : Below w3.heap.size w3 w4 := by rw [hw4]; exact (Below.refl _ _).alloc (Nat.le_refl _) _
  have s3 := b3.size
  have s4 : w4.heap.size = w3.heap.size + 1 := by rw [hw4]; simp
  have G4 : Gx w4 w.heap.size r c s ws st := (G2.on b3 (by omega)).on b4 (by omega)
  have v4 := (b4.cell (p := ⟨w.heap.size + 1, 0, none⟩) (by show w.heap.size + 1 < _; omega)).trans ((b3.cell (p := ⟨w.heap.size + 1, 0, none⟩) (by show w.heap.size + 1 < _; omega)).trans v2)
  have l4 : w4.cell? ⟨w3.heap.size, 0, none⟩ = some (.slice none 0 0) ∧ w4.frozen? ⟨w3.heap.size, 0, none⟩ = false := by rw [hw4]; simp [go_sem]
  have B4 : Below w.heap.size w w4 := (B2.trans (b3.mono B2.size)).trans (b4.mono (Nat.le_trans B2.size s3))
  obtain ⟨g0, g1, g2, g3, g4⟩ := G4
  have HG4 : Hid (Gx w4 w.heap.size r c s ws st) := ⟨g0, g1, g2, g3, g4⟩
  have V4 : Hid (w4.cell? ⟨w.heap.size + 1, 0, none⟩ = some (.slice (some ⟨bl, o, none⟩) n cap)) := v4
  rw [hw4] at g0 g1 g2 g3 g4 v4
  clear hw4 HW2 G2 v2 b3 b4
  gi_wp2_with fail
  rw [← HW4.out]
  refine ⟨trivial, (nodes_in r c s ws st (some ⟨bl, o, none⟩) n cap w4).mono ?_⟩
  rintro e w6 ⟨rfl, hw6⟩
  have b6 : Below w4.heap.size w4 w6 := by rw [hw6]; exact ((Below.refl _ _).alloc (Nat.le_refl _) _).alloc (by simp) _
  have s6 : w6.heap.size = w4.heap.size + 1 + 1 := by rw [hw6]; simp
  have G6 : Gx w6 w4.heap.size r c s ws st := by rw [hw6]; unfold Gx; simp [go_sem]
  have P6 : w6.cell? ⟨w4.heap.size + 1, 0, none⟩ = some (.slice (some ⟨bl, o, none⟩) n cap) := by rw [hw6]; simp [go_sem]
  have g6 : Gx w6 w.heap.size r c s ws st := HG4.out.on b6 (by omega)
  have v6 := (b6.cell (p := ⟨w.heap.size + 1, 0, none⟩) (by show w.heap.size + 1 < _; omega)).trans V4.out
  have l6 := (b6.cell (p := ⟨w3.heap.size, 0, none⟩) (by show w3.heap.size < _; omega)).trans l4.1
  have f6 := (World.frozen?_of_block (b6.block w3.heap.size (by omega))).trans l4.2
  have B6 : Below w.heap.size w w6 := B4.trans (b6.mono B4.size)
  clear hw6 b6 HW4 HG4 V4 l4 B4 g0 g1 g2 g3 g4 v4
  gi_wp2_with fail
  refine Rf.rangeG rfl (by omega) (gf := 34) (lb := #[.pointer (some ⟨w3.heap.size + 1 + 1, 0, none⟩), .pointer (some ⟨w3.heap.size + 1, 0, none⟩)]) rfl trivial (enters_of Try.func34 (by kernel_rfl) rfl)
    (Y := fun k => k = w3.heap.size ∨ w6.heap.size + 2 ≤ k) ⟨fun h => by omega, fun h => by omega⟩ (xs := nodes c L L.length)
    (nodes_seq r c s ws st hc L (by omega) bl o cap (w3.heap.size + 1) (w3.heap.size + 1 + 1) w w6 B6 hcel hbl (by rw [← s4]; exact G6) (by rw [← HN.out, ← s4]; exact P6) (by omega) (by omega) _ (fun h => by omega) (fun h => by omega))
    (fun _ => rfl)
    (fun pre W => ∃ lv P, W.cell? ⟨w3.heap.size, 0, none⟩ = some lv ∧ W.frozen? ⟨w3.heap.size, 0, none⟩ = false ∧ Pr.Row W (w6.heap.size + 2) lv P ∧ P.length = pre.length ∧ (∀ k, k < P.length → (cn (Pr.c0 P k), cn (Pr.c1 P k)) = gradN r c L k) ∧ (pre.length = 0 → lv = .slice none 0 0) ∧ Gx W w.heap.size r c s ws st ∧ W.cell? ⟨w.heap.size + 1, 0, none⟩ = some (.slice (some ⟨bl, o, none⟩) n cap) ∧ Below w.heap.size w W)
    ?stable ?start
    (fun l e a' W => ∃ b, l < b ∧ b < W.heap.size ∧ Pt W b e.1.1 e.1.2 ∧ a' = { tmps := #[gv r c s ws st, .slice (some ⟨bl, o, none⟩) n cap, .pointer (some ⟨w.heap.size, 0, none⟩), .pointer (some ⟨w.heap.size + 1, 0, none⟩), .slice none 0 0, .pointer (some ⟨w3.heap.size, 0, none⟩), .pointer (some ⟨b, 0, none⟩), gv r c s ws st, .slice (some ⟨bl, o, none⟩) n cap, .bool true, .bool false, gv r c s ws st, .slice (some ⟨bl, o, none⟩) n cap, .func (.func 34) #[] #[.pointer (some ⟨w3.heap.size + 1 + 1, 0, none⟩), .pointer (some ⟨w3.heap.size + 1, 0, none⟩)], nd e.1.1 e.1.2, .float .f64 e.2, undef, undef, undef, undef, undef, undef, undef, undef, undef], defers := [] })
    ?keeps ?assign ?body ?done
  case stable =>
    rintro pre A C ⟨lv, P, h1, h2, ⟨xs, h3, hgood⟩, hPl, hPv, hz, h4, h5, h6⟩ hg
    have hb : ∀ k, k < w6.heap.size → k < A.heap.size → C.heap[k]? = A.heap[k]? := fun k hk hk2 => hg.block k hk2 (fun q => by cases q; omega)
    have za := h6.size
    have q1 := World.block_lt_of_cell? A _ h1
    have q2 := World.block_lt_of_cell? A _ h5
    have q3 := World.block_lt_of_cell? A _ h4.1
    have z1 := hb w3.heap.size (by omega) q1
    have z2 := hb (w.heap.size + 1) (by omega) q2
    have z3 := hb w.heap.size (by omega) q3
    refine ⟨lv, P, (World.cell?_of_block z1).trans h1, (World.frozen?_of_block z1).trans h2, ⟨xs, ?_, hgood⟩, hPl, hPv, hz, ⟨(World.cell?_of_block z3).trans h4.1, (World.cell?_of_block z3).trans h4.2.1, (World.cell?_of_block z3).trans h4.2.2.1, (World.cell?_of_block z3).trans h4.2.2.2.1, (World.cell?_of_block z3).trans h4.2.2.2.2⟩, (World.cell?_of_block z2).trans h5, h6.grown hg za (fun k e => by cases e; omega)⟩
    refine h3.kept hg ?_
    cases eo : lv.ownBlock with
    | none => exact Or.inl rfl
    | some k => exact Or.inr fun x => by have := (h3.lt k eo).1; cases x; omega
  case start => exact ⟨_, [], l6, f6, ⟨[], World.ownsRow_nil _ _ _ _, fun i hi => absurd hi (by simp)⟩, rfl, fun k hk => absurd hk (by simp), fun _ => rfl, g6, v6, B6⟩
  case keeps =>
    rintro l e a' A C ⟨b, h1, h2, h3, h4⟩ hb
    have n1 : ¬ (b = l) := by omega
    exact ⟨b, h1, Nat.lt_of_lt_of_le h2 hb.size, ⟨(hb.cell (p := ⟨b, 0, none⟩) h2 n1).trans h3.1, (hb.cell (p := ⟨b, 1, none⟩) h2 n1).trans h3.2⟩, h4⟩
  case assign =>
    intro l e W K hl hK
    gi_wp2
    exact hK _ _ ((Below.refl _ _).alloc (Nat.le_refl _) _) ⟨W.heap.size, hl, by simp, by unfold Pt; simp [go_sem], rfl⟩
  case body =>
    rintro l pre e a' W rfl hlW ⟨lv, P, h1, h2, ⟨xs, h3, hgood⟩, hPl, hPv, hz, h4, h5, h6⟩ ⟨b, b1, b2, ⟨p1, p2⟩, rfl⟩ hpre
    obtain ⟨hk, he⟩ := nodes_at hpre
    obtain ⟨⟨x1, x2⟩, xv⟩ := e
    simp only at p1 p2
    unfold nodeAt at he
    simp only [Prod.mk.injEq] at he
    obtain ⟨⟨hx1, hx2⟩, _⟩ := he
    have i2 : (0 : Int) ≤ (pre.length : Int) := by omega
    have c0 : ¬ c = 0 := by omega
    have ri : 0 ≤ x1 ∧ x1 < r := by
      rw [hx1]
      exact ⟨Int.ediv_nonneg i2 (by omega), (Int.ediv_lt_iff_lt_mul (by omega)).2 (by omega)⟩
    have rj : 0 ≤ x2 ∧ x2 < c := by
      rw [hx2]
      exact ⟨Int.emod_nonneg _ c0, Int.emod_lt_of_pos _ (by omega)⟩
    have HGN : Hid (gradN r c L pre.length = gradL ((nb r c x1 x2).map (vAt c L))) := (by show _ = _; rw [hx1, hx2]; rfl)
    have zW := h6.size
    have AR : Hid (∀ u : World, Below W.heap.size W u → Calls Try.prog 25 #[gv r c s ws st, .slice (some ⟨bl, o, none⟩) n cap, nd x1 x2] u fun e w' => ∃ v', e = .returned v' ∧ Fls.Reads w' v' ((nb r c x1 x2).map (vAt c L)) ∧ Below W.heap.size W w') := fun u hu => (ARD.out x1 x2 u ri rj (h6.trans (hu.mono zW))).mono (by
      rintro e w' ⟨v', rfl, hrow, hb⟩
      exact ⟨v', rfl, hrow, hu.trans (hb.mono hu.size)⟩)
    have GRD : Hid (∀ (u : World) (v1 : Value), Fls.Reads u v1 ((nb r c x1 x2).map (vAt c L)) → Below W.heap.size W u → Calls Try.prog 28 #[v1] u fun e w' => ∃ x y, e = .returned (.agg #[.float .f64 x, .float .f64 y]) ∧ (cn x, cn y) = gradN r c L pre.length ∧ Below W.heap.size W w') := fun u v1 h1 hu => (grad_any _ v1 u h1 (by rw [List.length_map]; exact nb_le r c x1 x2)).mono (by
      rintro e w' ⟨x, y, rfl, hxy, hb⟩
      exact ⟨x, y, rfl, by rw [HGN.out]; exact hxy, hu.trans (hb.mono hu.size)⟩)
    have nlb : ∀ g, lv.ownBlock = some g → g ≠ b := fun g hg he => by
      subst he
      rcases Nat.eq_zero_or_pos P.length with h0 | h0
      · rw [hz (by omega)] at hg; cases hg
      · rcases h3.2 with ⟨q1, _⟩ | ⟨g', cap', cur, q1, _⟩
        · rw [q1] at hg; cases hg
        · rw [q1] at hg h3
          cases hg
          have := h3.cellAt 0 (by omega)
          rw [p1, (hgood 0 h0).1] at this
          cases this
    have lge : ∀ g, lv.ownBlock = some g → w6.heap.size + 2 ≤ g := fun g hg => (h3.lt g hg).1
    obtain ⟨g0, g1, g2, g3, g4⟩ := h4
    have HG : Hid (Gx W w.heap.size r c s ws st) := ⟨g0, g1, g2, g3, g4⟩
    have R0 : Hid (W.ownsRow (w6.heap.size + 2) 51 2 lv P.length xs) := h3
    have q13 : w3.heap.size < W.heap.size := World.block_lt_of_cell? W _ h1
    have H6 : Hid (Below w.heap.size w W) := h6
    have LN : P.length ≤ 4096 := by omega
    have S0 : (fun w' : World => w'.cell? ⟨w.heap.size, 0, none⟩ = some (.int .i64 r) ∧ w'.cell? ⟨w.heap.size, 1, none⟩ = some (.int .i64 c) ∧ w'.cell? ⟨w.heap.size, 2, none⟩ = some (.int .i64 s) ∧ w'.cell? ⟨w.heap.size, 3, none⟩ = some (.int .i64 ws) ∧ w'.cell? ⟨w.heap.size, 4, none⟩ = some (.int .i64 st) ∧ w'.cell? ⟨w.heap.size + 1, 0, none⟩ = some (.slice (some ⟨bl, o, none⟩) n cap) ∧ w'.cell? ⟨b, 0, none⟩ = some (.int .i64 x1) ∧ w'.cell? ⟨b, 1, none⟩ = some (.int .i64 x2)) W.drew := ⟨g0, g1, g2, g3, g4, h5, p1, p2⟩
    have SC : ∀ u : World, u.heap[w.heap.size]? = W.heap[w.heap.size]? → u.heap[w.heap.size + 1]? = W.heap[w.heap.size + 1]? → u.heap[b]? = W.heap[b]? → (fun w' : World => w'.cell? ⟨w.heap.size, 0, none⟩ = some (.int .i64 r) ∧ w'.cell? ⟨w.heap.size, 1, none⟩ = some (.int .i64 c) ∧ w'.cell? ⟨w.heap.size, 2, none⟩ = some (.int .i64 s) ∧ w'.cell? ⟨w.heap.size, 3, none⟩ = some (.int .i64 ws) ∧ w'.cell? ⟨w.heap.size, 4, none⟩ = some (.int .i64 st) ∧ w'.cell? ⟨w.heap.size + 1, 0, none⟩ = some (.slice (some ⟨bl, o, none⟩) n cap) ∧ w'.cell? ⟨b, 0, none⟩ = some (.int .i64 x1) ∧ w'.cell? ⟨b, 1, none⟩ = some (.int .i64 x2)) u := fun u e0 e1 eb => ⟨(World.cell?_of_block e0).trans g0, (World.cell?_of_block e0).trans g1, (World.cell?_of_block e0).trans g2, (World.cell?_of_block e0).trans g3, (World.cell?_of_block e0).trans g4, (World.cell?_of_block e1).trans h5, (World.cell?_of_block eb).trans p1, (World.cell?_of_block eb).trans p2⟩
    have SB : ∀ u : World, Below W.heap.size W u → (fun w' : World => w'.cell? ⟨w.heap.size, 0, none⟩ = some (.int .i64 r) ∧ w'.cell? ⟨w.heap.size, 1, none⟩ = some (.int .i64 c) ∧ w'.cell? ⟨w.heap.size, 2, none⟩ = some (.int .i64 s) ∧ w'.cell? ⟨w.heap.size, 3, none⟩ = some (.int .i64 ws) ∧ w'.cell? ⟨w.heap.size, 4, none⟩ = some (.int .i64 st) ∧ w'.cell? ⟨w.heap.size + 1, 0, none⟩ = some (.slice (some ⟨bl, o, none⟩) n cap) ∧ w'.cell? ⟨b, 0, none⟩ = some (.int .i64 x1) ∧ w'.cell? ⟨b, 1, none⟩ = some (.int .i64 x2)) u := fun u hu => SC u (hu.block _ (by omega)) (hu.block _ (by omega)) (hu.block _ b2)
    have FARC : ∀ u : World, Below W.heap.size W u → u.cell? ⟨w3.heap.size, 0, none⟩ = some lv := fun u hu => (hu.cell (p := ⟨w3.heap.size, 0, none⟩) q13).trans h1
    have FARH : Hid (∀ u : World, Below W.heap.size W u → u.cell? ⟨w3.heap.size, 0, none⟩ = some lv) := FARC
    have SCH : Hid (∀ u : World, u.heap[w.heap.size]? = W.heap[w.heap.size]? → u.heap[w.heap.size + 1]? = W.heap[w.heap.size + 1]? → u.heap[b]? = W.heap[b]? → (fun w' : World => w'.cell? ⟨w.heap.size, 0, none⟩ = some (.int .i64 r) ∧ w'.cell? ⟨w.heap.size, 1, none⟩ = some (.int .i64 c) ∧ w'.cell? ⟨w.heap.size, 2, none⟩ = some (.int .i64 s) ∧ w'.cell? ⟨w.heap.size, 3, none⟩ = some (.int .i64 ws) ∧ w'.cell? ⟨w.heap.size, 4, none⟩ = some (.int .i64 st) ∧ w'.cell? ⟨w.heap.size + 1, 0, none⟩ = some (.slice (some ⟨bl, o, none⟩) n cap) ∧ w'.cell? ⟨b, 0, none⟩ = some (.int .i64 x1) ∧ w'.cell? ⟨b, 1, none⟩ = some (.int .i64 x2)) u) := SC
    have SBH : Hid (∀ u : World, Below W.heap.size W u → (fun w' : World => w'.cell? ⟨w.heap.size, 0, none⟩ = some (.int .i64 r) ∧ w'.cell? ⟨w.heap.size, 1, none⟩ = some (.int .i64 c) ∧ w'.cell? ⟨w.heap.size, 2, none⟩ = some (.int .i64 s) ∧ w'.cell? ⟨w.heap.size, 3, none⟩ = some (.int .i64 ws) ∧ w'.cell? ⟨w.heap.size, 4, none⟩ = some (.int .i64 st) ∧ w'.cell? ⟨w.heap.size + 1, 0, none⟩ = some (.slice (some ⟨bl, o, none⟩) n cap) ∧ w'.cell? ⟨b, 0, none⟩ = some (.int .i64 x1) ∧ w'.cell? ⟨b, 1, none⟩ = some (.int .i64 x2)) u) := SB
    have NLH : Hid (∀ g, lv.ownBlock = some g → g ≠ b) := nlb
    have LGH : Hid (∀ g, lv.ownBlock = some g → w6.heap.size + 2 ≤ g) := lge
    have PVH : Hid (∀ k, k < P.length → (cn (Pr.c0 P k), cn (Pr.c1 P k)) = gradN r c L k) := hPv
    have GOH : Hid (Pr.Good xs P P.length) := hgood
    have PLH : Hid (P.length = pre.length) := hPl
    obtain ⟨i0, hi0, hz0, hz1, hz2⟩ := info_parts Try.info51
    clear h3 h6 hz hpre hx1 hx2 FARC SC SB nlb lge hPv hgood hPl
    refine wpIn_block ?_
    refine Rf.region_lift (S := fun w' => w'.cell? ⟨w.heap.size, 0, none⟩ = some (.int .i64 r) ∧ w'.cell? ⟨w.heap.size, 1, none⟩ = some (.int .i64 c) ∧ w'.cell? ⟨w.heap.size, 2, none⟩ = some (.int .i64 s) ∧ w'.cell? ⟨w.heap.size, 3, none⟩ = some (.int .i64 ws) ∧ w'.cell? ⟨w.heap.size, 4, none⟩ = some (.int .i64 st) ∧ w'.cell? ⟨w.heap.size + 1, 0, none⟩ = some (.slice (some ⟨bl, o, none⟩) n cap) ∧ w'.cell? ⟨b, 0, none⟩ = some (.int .i64 x1) ∧ w'.cell? ⟨b, 1, none⟩ = some (.int .i64 x2)) (by kernel_rfl) (by rintro ⟨_, _, h⟩; exact h) (by kernel_rfl) S0 (fun hHeld => ?_)
    refine wpAnyH_take (i := 1) (v := gv r c s ws st) rfl (by kernel_rfl) (by kernel_rfl) (by kernel_rfl) (fun _ _ _ h => h) (Or.inl ⟨by rfl, fun w0 hSw => ?_⟩) (by assumption) ?_
    · dsimp only at hSw
      go_simp
    refine wpAnyH_take (i := 2) (v := .slice (some ⟨bl, o, none⟩) n cap) rfl (by kernel_rfl) (by kernel_rfl) (by kernel_rfl) (fun _ _ _ h => h) (Or.inl ⟨by rfl, fun w0 hSw => ?_⟩) (by assumption) ?_
    · dsimp only at hSw
      go_simp
    refine wpAnyH_take (i := 3) (v := nd x1 x2) rfl (by kernel_rfl) (by kernel_rfl) (by kernel_rfl) (fun _ _ _ h => h) (Or.inl ⟨by rfl, fun w0 hSw => ?_⟩) (by assumption) ?_
    · dsimp only at hSw
      go_simp
    refine wpAnyH_ready (rs := [0, 4]) (by kernel_rfl) (by simp) ?_
    refine AllReadyH.cons rfl (fun K hK => ?_) (AllReadyH.cons rfl (fun K hK => ?_) AllReadyH.nil)
    · go_simp
      refine hK.out _ _ S0 (fun hHeld => ?_)
      clear hK K
      refine wpAnyH_ready (rs := [4]) (by kernel_rfl) (by simp) ?_
      refine AllReadyH.cons rfl (fun K hK => ?_) AllReadyH.nil
      go_simp
      refine (AR.out W.drew ⟨rfl, rfl, rfl, Nat.le_refl _, fun _ _ => rfl⟩).mono ?_
      rintro e u1 ⟨v1, rfl, rd1, bu1⟩
      have RD1 : Hid (Fls.Reads u1 v1 ((nb r c x1 x2).map (vAt c L))) := rd1
      clear rd1
      have l1 := FARH.out u1 bu1
      have GR : Hid (Calls Try.prog 28 #[v1] u1 fun e w' => ∃ x y, e = .returned (.agg #[.float .f64 x, .float .f64 y]) ∧ (cn x, cn y) = gradN r c L pre.length ∧ Below W.heap.size W w') := GRD.out u1 v1 RD1.out bu1
      refine hK.out _ _ (SBH.out u1 bu1) (fun hHeld => ?_)
      clear hK K
      refine wpAnyH_ready (rs := [5]) (by kernel_rfl) (by simp) ?_
      refine AllReadyH.cons rfl (fun K hK => ?_) AllReadyH.nil
      go_simp
      refine GR.out.mono ?_
      rintro e u2 ⟨x, y, rfl, hxy, bu2⟩
      have HXY : Hid ((cn x, cn y) = gradN r c L pre.length) := hxy
      clear hxy
      have l2 := FARH.out u2 bu2
      refine hK.out _ _ (SBH.out u2 bu2) (fun hHeld => ?_)
      clear hK K
      refine wpAnyH_ready (rs := [6]) (by kernel_rfl) (by simp) ?_
      refine AllReadyH.cons rfl (fun K hK => ?_) AllReadyH.nil
      go_simp
      have bu3 : Below W.heap.size W (u2.alloc (Obj.cells #[.float .f64 x, .float .f64 y] 51)) := bu2.alloc bu2.size _
      have l3 := FARH.out _ bu3
      refine hK.out _ _ (SBH.out _ bu3) (fun hHeld => ?_)
      clear hK K
      refine wpAnyH_ready (rs := [7]) (by kernel_rfl) (by simp) ?_
      refine AllReadyH.cons rfl (fun K hK => ?_) AllReadyH.nil
      have zu := bu2.size
      have RA : (u2.alloc (Obj.cells #[.float .f64 x, .float .f64 y] 51)).ownsRow (w6.heap.size + 2) 51 2 lv P.length xs := Pr.row_below (Pr.row_below R0.out (⟨bu2.os, bu2.tape, bu2.output, bu2.size, bu2.block⟩)) ((Below.refl _ _).alloc (Nat.le_refl _) _)
      refine step_append_lies _ (by rfl) _ _ 32 (by rfl) (w6.heap.size + 2) 51 i0 (.agg #[.float .f64 0, .float .f64 0]) 2 16 Try.underlying32 hi0 hz0 hz1 hz2 rfl (by decide) _ _ _ (by rfl) RA ⟨u2.heap.size, 0, none⟩ 1 1 [.float .f64 x, .float .f64 y] (by rfl) rfl (Pr.cell_news u2 (.float .f64 x) (.float .f64 y) 51) (by intro u hu; simp at hu; rcases hu with rfl | rfl <;> rfl) (by decide) (by unfold maxLen; omega) (by omega) (by simp; omega) (u2.heap.size + 1) (by simp) ?_
      intro g2 cap3 w5 hown hgrow hat hlt5
      have far : ∀ kk, kk < W.heap.size → (∀ g, lv.ownBlock = some g → g ≠ kk) → w5.heap[kk]? = W.heap[kk]? := fun kk h1 h2 => (hgrow.block kk (by simp; omega) (fun e => h2 kk e.symm rfl)).trans (bu3.block kk h1)
      have fb := far b b2 NLH.out
      have f1 := far (w.heap.size + 1) (by omega) (fun g hg => by have := LGH.out g hg; omega)
      have f0 := far w.heap.size (by omega) (fun g hg => by have := LGH.out g hg; omega)
      have f3 := far w3.heap.size q13 (fun g hg => by have := LGH.out g hg; omega)
      refine hK.out _ _ (SCH.out w5 f0 f1 fb) (fun hHeld => ?_)
      clear hK K
      have c5 : w5.cell? ⟨w3.heap.size, 0, none⟩ = some lv := (World.cell?_of_block f3).trans h1
      have r5 : w5.frozen? ⟨w3.heap.size, 0, none⟩ = false := (World.frozen?_of_block f3).trans h2
      refine wpAnyH_ready (rs := [8]) (by kernel_rfl) (by simp) ?_
      refine AllReadyH.cons rfl (fun K hK => ?_) AllReadyH.nil
      go_simp
      have far2 : ∀ kk, kk ≠ w3.heap.size → (w5.setCell ⟨w3.heap.size, 0, none⟩ (.slice (some ⟨g2, 0, none⟩) (P.length + 1) cap3)).heap[kk]? = w5.heap[kk]? := fun kk hkk => Below.heap_setCell w5 ⟨w3.heap.size, 0, none⟩ _ kk (by simpa using hkk)
      have e0 := (far2 w.heap.size (by omega)).trans f0
      have e1 := (far2 (w.heap.size + 1) (by omega)).trans f1
      have eb := (far2 b (by omega)).trans fb
      refine hK.out _ _ (SCH.out _ e0 e1 eb) (fun hHeld => ?_)
      clear hK K
      refine wpAnyH_done (by kernel_rfl) ?_ _
      have bW5 : Below w.heap.size W w5 := (bu3.mono (by omega)).grown hgrow (by simp; omega) (fun g hg => by have := LGH.out g hg; omega)
      have sz5 := bW5.size
      have hge := (hown.lt g2 rfl).1
      refine ⟨⟨?_, fun kk hk1 hk2 => ?_⟩, _, P ++ [(x, y)], World.cell?_setCell_same' _ _ _ (by rw [c5]; rfl), by rw [World.frozen?_setCell]; exact r5, ⟨xs ++ [.float .f64 x, .float .f64 y], ?_, Pr.good_snoc GOH.out (by have := R0.out.1; omega)⟩, by simp [PLH.out], ?_, fun h0 => by simp at h0, ⟨(World.cell?_of_block e0).trans HG.out.1, (World.cell?_of_block e0).trans HG.out.2.1, (World.cell?_of_block e0).trans HG.out.2.2.1, (World.cell?_of_block e0).trans HG.out.2.2.2.1, (World.cell?_of_block e0).trans HG.out.2.2.2.2⟩, (World.cell?_of_block e1).trans h5, H6.out.trans (bW5.setCell (p := ⟨w3.heap.size, 0, none⟩) (by show w.heap.size ≤ w3.heap.size; omega) _)⟩
      · simpa using sz5
      · exact (far2 kk (fun e => hk2 (Or.inl e))).trans (far kk hk1 (fun g hg e => hk2 (Or.inr (by have := LGH.out g hg; omega))))
      · rw [List.length_append, List.length_singleton]
        refine hown.kept (row := some w3.heap.size) (Pr.grown_setCell (w := w5) ⟨rfl, rfl, rfl, Nat.le_refl _, fun _ _ _ => rfl⟩ 0 _) ?_
        exact Or.inr fun q => by
          have : g2 = w3.heap.size := by simpa [Value.ownBlock] using q
          omega
      · exact fun kk hkk => grads_snoc PVH.out (by rw [PLH.out]; exact HXY.out) kk hkk
    · go_simp
      refine (AR.out W.drew ⟨rfl, rfl, rfl, Nat.le_refl _, fun _ _ => rfl⟩).mono ?_
      rintro e u1 ⟨v1, rfl, rd1, bu1⟩
      have RD1 : Hid (Fls.Reads u1 v1 ((nb r c x1 x2).map (vAt c L))) := rd1
      clear rd1
      have l1 := FARH.out u1 bu1
      have GR : Hid (Calls Try.prog 28 #[v1] u1 fun e w' => ∃ x y, e = .returned (.agg #[.float .f64 x, .float .f64 y]) ∧ (cn x, cn y) = gradN r c L pre.length ∧ Below W.heap.size W w') := GRD.out u1 v1 RD1.out bu1
      refine hK.out _ _ (SBH.out u1 bu1) (fun hHeld => ?_)
      clear hK K
      refine wpAnyH_ready (rs := [0, 5]) (by kernel_rfl) (by simp) ?_
      refine AllReadyH.cons rfl (fun K hK => ?_) (AllReadyH.cons rfl (fun K hK => ?_) AllReadyH.nil)
      · go_simp
        refine hK.out _ _ (SBH.out u1 bu1) (fun hHeld => ?_)
        clear hK K
        refine wpAnyH_ready (rs := [5]) (by kernel_rfl) (by simp) ?_
        refine AllReadyH.cons rfl (fun K hK => ?_) AllReadyH.nil
        go_simp
        refine GR.out.mono ?_
        rintro e u2 ⟨x, y, rfl, hxy, bu2⟩
        have HXY : Hid ((cn x, cn y) = gradN r c L pre.length) := hxy
        clear hxy
        have l2 := FARH.out u2 bu2
        refine hK.out _ _ (SBH.out u2 bu2) (fun hHeld => ?_)
        clear hK K
        refine wpAnyH_ready (rs := [6]) (by kernel_rfl) (by simp) ?_
        refine AllReadyH.cons rfl (fun K hK => ?_) AllReadyH.nil
        go_simp
        have bu3 : Below W.heap.size W (u2.alloc (Obj.cells #[.float .f64 x, .float .f64 y] 51)) := bu2.alloc bu2.size _
        have l3 := FARH.out _ bu3
        refine hK.out _ _ (SBH.out _ bu3) (fun hHeld => ?_)
        clear hK K
        refine wpAnyH_ready (rs := [7]) (by kernel_rfl) (by simp) ?_
        refine AllReadyH.cons rfl (fun K hK => ?_) AllReadyH.nil
        have zu := bu2.size
        have RA : (u2.alloc (Obj.cells #[.float .f64 x, .float .f64 y] 51)).ownsRow (w6.heap.size + 2) 51 2 lv P.length xs := Pr.row_below (Pr.row_below R0.out (⟨bu2.os, bu2.tape, bu2.output, bu2.size, bu2.block⟩)) ((Below.refl _ _).alloc (Nat.le_refl _) _)
        refine step_append_lies _ (by rfl) _ _ 32 (by rfl) (w6.heap.size + 2) 51 i0 (.agg #[.float .f64 0, .float .f64 0]) 2 16 Try.underlying32 hi0 hz0 hz1 hz2 rfl (by decide) _ _ _ (by rfl) RA ⟨u2.heap.size, 0, none⟩ 1 1 [.float .f64 x, .float .f64 y] (by rfl) rfl (Pr.cell_news u2 (.float .f64 x) (.float .f64 y) 51) (by intro u hu; simp at hu; rcases hu with rfl | rfl <;> rfl) (by decide) (by unfold maxLen; omega) (by omega) (by simp; omega) (u2.heap.size + 1) (by simp) ?_
        intro g2 cap3 w5 hown hgrow hat hlt5
        have far : ∀ kk, kk < W.heap.size → (∀ g, lv.ownBlock = some g → g ≠ kk) → w5.heap[kk]? = W.heap[kk]? := fun kk h1 h2 => (hgrow.block kk (by simp; omega) (fun e => h2 kk e.symm rfl)).trans (bu3.block kk h1)
        have fb := far b b2 NLH.out
        have f1 := far (w.heap.size + 1) (by omega) (fun g hg => by have := LGH.out g hg; omega)
        have f0 := far w.heap.size (by omega) (fun g hg => by have := LGH.out g hg; omega)
        have f3 := far w3.heap.size q13 (fun g hg => by have := LGH.out g hg; omega)
        refine hK.out _ _ (SCH.out w5 f0 f1 fb) (fun hHeld => ?_)
        clear hK K
        have c5 : w5.cell? ⟨w3.heap.size, 0, none⟩ = some lv := (World.cell?_of_block f3).trans h1
        have r5 : w5.frozen? ⟨w3.heap.size, 0, none⟩ = false := (World.frozen?_of_block f3).trans h2
        refine wpAnyH_ready (rs := [8]) (by kernel_rfl) (by simp) ?_
        refine AllReadyH.cons rfl (fun K hK => ?_) AllReadyH.nil
        go_simp
        have far2 : ∀ kk, kk ≠ w3.heap.size → (w5.setCell ⟨w3.heap.size, 0, none⟩ (.slice (some ⟨g2, 0, none⟩) (P.length + 1) cap3)).heap[kk]? = w5.heap[kk]? := fun kk hkk => Below.heap_setCell w5 ⟨w3.heap.size, 0, none⟩ _ kk (by simpa using hkk)
        have e0 := (far2 w.heap.size (by omega)).trans f0
        have e1 := (far2 (w.heap.size + 1) (by omega)).trans f1
        have eb := (far2 b (by omega)).trans fb
        refine hK.out _ _ (SCH.out _ e0 e1 eb) (fun hHeld => ?_)
        clear hK K
        refine wpAnyH_done (by kernel_rfl) ?_ _
        have bW5 : Below w.heap.size W w5 := (bu3.mono (by omega)).grown hgrow (by simp; omega) (fun g hg => by have := LGH.out g hg; omega)
        have sz5 := bW5.size
        have hge := (hown.lt g2 rfl).1
        refine ⟨⟨?_, fun kk hk1 hk2 => ?_⟩, _, P ++ [(x, y)], World.cell?_setCell_same' _ _ _ (by rw [c5]; rfl), by rw [World.frozen?_setCell]; exact r5, ⟨xs ++ [.float .f64 x, .float .f64 y], ?_, Pr.good_snoc GOH.out (by have := R0.out.1; omega)⟩, by simp [PLH.out], ?_, fun h0 => by simp at h0, ⟨(World.cell?_of_block e0).trans HG.out.1, (World.cell?_of_block e0).trans HG.out.2.1, (World.cell?_of_block e0).trans HG.out.2.2.1, (World.cell?_of_block e0).trans HG.out.2.2.2.1, (World.cell?_of_block e0).trans HG.out.2.2.2.2⟩, (World.cell?_of_block e1).trans h5, H6.out.trans (bW5.setCell (p := ⟨w3.heap.size, 0, none⟩) (by show w.heap.size ≤ w3.heap.size; omega) _)⟩
        · simpa using sz5
        · exact (far2 kk (fun e => hk2 (Or.inl e))).trans (far kk hk1 (fun g hg e => hk2 (Or.inr (by have := LGH.out g hg; omega))))
        · rw [List.length_append, List.length_singleton]
          refine hown.kept (row := some w3.heap.size) (Pr.grown_setCell (w := w5) ⟨rfl, rfl, rfl, Nat.le_refl _, fun _ _ _ => rfl⟩ 0 _) ?_
          exact Or.inr fun q => by
            have : g2 = w3.heap.size := by simpa [Value.ownBlock] using q
            omega
        · exact fun kk hkk => grads_snoc PVH.out (by rw [PLH.out]; exact HXY.out) kk hkk
      · go_simp
        refine GR.out.mono ?_
        rintro e u2 ⟨x, y, rfl, hxy, bu2⟩
        have HXY : Hid ((cn x, cn y) = gradN r c L pre.length) := hxy
        clear hxy
        have l2 := FARH.out u2 bu2
        refine hK.out _ _ (SBH.out u2 bu2) (fun hHeld => ?_)
        clear hK K
        refine wpAnyH_ready (rs := [0, 6]) (by kernel_rfl) (by simp) ?_
        refine AllReadyH.cons rfl (fun K hK => ?_) (AllReadyH.cons rfl (fun K hK => ?_) AllReadyH.nil)
        · go_simp
          refine hK.out _ _ (SBH.out u2 bu2) (fun hHeld => ?_)
          clear hK K
          refine wpAnyH_ready (rs := [6]) (by kernel_rfl) (by simp) ?_
          refine AllReadyH.cons rfl (fun K hK => ?_) AllReadyH.nil
          go_simp
          have bu3 : Below W.heap.size W (u2.alloc (Obj.cells #[.float .f64 x, .float .f64 y] 51)) := bu2.alloc bu2.size _
          have l3 := FARH.out _ bu3
          refine hK.out _ _ (SBH.out _ bu3) (fun hHeld => ?_)
          clear hK K
          refine wpAnyH_ready (rs := [7]) (by kernel_rfl) (by simp) ?_
          refine AllReadyH.cons rfl (fun K hK => ?_) AllReadyH.nil
          have zu := bu2.size
          have RA : (u2.alloc (Obj.cells #[.float .f64 x, .float .f64 y] 51)).ownsRow (w6.heap.size + 2) 51 2 lv P.length xs := Pr.row_below (Pr.row_below R0.out (⟨bu2.os, bu2.tape, bu2.output, bu2.size, bu2.block⟩)) ((Below.refl _ _).alloc (Nat.le_refl _) _)
          refine step_append_lies _ (by rfl) _ _ 32 (by rfl) (w6.heap.size + 2) 51 i0 (.agg #[.float .f64 0, .float .f64 0]) 2 16 Try.underlying32 hi0 hz0 hz1 hz2 rfl (by decide) _ _ _ (by rfl) RA ⟨u2.heap.size, 0, none⟩ 1 1 [.float .f64 x, .float .f64 y] (by rfl) rfl (Pr.cell_news u2 (.float .f64 x) (.float .f64 y) 51) (by intro u hu; simp at hu; rcases hu with rfl | rfl <;> rfl) (by decide) (by unfold maxLen; omega) (by omega) (by simp; omega) (u2.heap.size + 1) (by simp) ?_
          intro g2 cap3 w5 hown hgrow hat hlt5
          have far : ∀ kk, kk < W.heap.size → (∀ g, lv.ownBlock = some g → g ≠ kk) → w5.heap[kk]? = W.heap[kk]? := fun kk h1 h2 => (hgrow.block kk (by simp; omega) (fun e => h2 kk e.symm rfl)).trans (bu3.block kk h1)
          have fb := far b b2 NLH.out
          have f1 := far (w.heap.size + 1) (by omega) (fun g hg => by have := LGH.out g hg; omega)
          have f0 := far w.heap.size (by omega) (fun g hg => by have := LGH.out g hg; omega)
          have f3 := far w3.heap.size q13 (fun g hg => by have := LGH.out g hg; omega)
          refine hK.out _ _ (SCH.out w5 f0 f1 fb) (fun hHeld => ?_)
          clear hK K
          have c5 : w5.cell? ⟨w3.heap.size, 0, none⟩ = some lv := (World.cell?_of_block f3).trans h1
          have r5 : w5.frozen? ⟨w3.heap.size, 0, none⟩ = false := (World.frozen?_of_block f3).trans h2
          refine wpAnyH_ready (rs := [8]) (by kernel_rfl) (by simp) ?_
          refine AllReadyH.cons rfl (fun K hK => ?_) AllReadyH.nil
          go_simp
          have far2 : ∀ kk, kk ≠ w3.heap.size → (w5.setCell ⟨w3.heap.size, 0, none⟩ (.slice (some ⟨g2, 0, none⟩) (P.length + 1) cap3)).heap[kk]? = w5.heap[kk]? := fun kk hkk => Below.heap_setCell w5 ⟨w3.heap.size, 0, none⟩ _ kk (by simpa using hkk)
          have e0 := (far2 w.heap.size (by omega)).trans f0
          have e1 := (far2 (w.heap.size + 1) (by omega)).trans f1
          have eb := (far2 b (by omega)).trans fb
          refine hK.out _ _ (SCH.out _ e0 e1 eb) (fun hHeld => ?_)
          clear hK K
          refine wpAnyH_done (by kernel_rfl) ?_ _
          have bW5 : Below w.heap.size W w5 := (bu3.mono (by omega)).grown hgrow (by simp; omega) (fun g hg => by have := LGH.out g hg; omega)
          have sz5 := bW5.size
          have hge := (hown.lt g2 rfl).1
          refine ⟨⟨?_, fun kk hk1 hk2 => ?_⟩, _, P ++ [(x, y)], World.cell?_setCell_same' _ _ _ (by rw [c5]; rfl), by rw [World.frozen?_setCell]; exact r5, ⟨xs ++ [.float .f64 x, .float .f64 y], ?_, Pr.good_snoc GOH.out (by have := R0.out.1; omega)⟩, by simp [PLH.out], ?_, fun h0 => by simp at h0, ⟨(World.cell?_of_block e0).trans HG.out.1, (World.cell?_of_block e0).trans HG.out.2.1, (World.cell?_of_block e0).trans HG.out.2.2.1, (World.cell?_of_block e0).trans HG.out.2.2.2.1, (World.cell?_of_block e0).trans HG.out.2.2.2.2⟩, (World.cell?_of_block e1).trans h5, H6.out.trans (bW5.setCell (p := ⟨w3.heap.size, 0, none⟩) (by show w.heap.size ≤ w3.heap.size; omega) _)⟩
          · simpa using sz5
          · exact (far2 kk (fun e => hk2 (Or.inl e))).trans (far kk hk1 (fun g hg e => hk2 (Or.inr (by have := LGH.out g hg; omega))))
          · rw [List.length_append, List.length_singleton]
            refine hown.kept (row := some w3.heap.size) (Pr.grown_setCell (w := w5) ⟨rfl, rfl, rfl, Nat.le_refl _, fun _ _ _ => rfl⟩ 0 _) ?_
            exact Or.inr fun q => by
              have : g2 = w3.heap.size := by simpa [Value.ownBlock] using q
              omega
          · exact fun kk hkk => grads_snoc PVH.out (by rw [PLH.out]; exact HXY.out) kk hkk
        · go_simp
          have bu3 : Below W.heap.size W (u2.alloc (Obj.cells #[.float .f64 x, .float .f64 y] 51)) := bu2.alloc bu2.size _
          have l3 := FARH.out _ bu3
          refine hK.out _ _ (SBH.out _ bu3) (fun hHeld => ?_)
          clear hK K
          refine wpAnyH_ready (rs := [0]) (by kernel_rfl) (by simp) ?_
          refine AllReadyH.cons rfl (fun K hK => ?_) AllReadyH.nil
          go_simp
          refine hK.out _ _ (SBH.out _ bu3) (fun hHeld => ?_)
          clear hK K
          refine wpAnyH_ready (rs := [7]) (by kernel_rfl) (by simp) ?_
          refine AllReadyH.cons rfl (fun K hK => ?_) AllReadyH.nil
          have zu := bu2.size
          have RA : (u2.alloc (Obj.cells #[.float .f64 x, .float .f64 y] 51)).ownsRow (w6.heap.size + 2) 51 2 lv P.length xs := Pr.row_below (Pr.row_below R0.out (⟨bu2.os, bu2.tape, bu2.output, bu2.size, bu2.block⟩)) ((Below.refl _ _).alloc (Nat.le_refl _) _)
          refine step_append_lies _ (by rfl) _ _ 32 (by rfl) (w6.heap.size + 2) 51 i0 (.agg #[.float .f64 0, .float .f64 0]) 2 16 Try.underlying32 hi0 hz0 hz1 hz2 rfl (by decide) _ _ _ (by rfl) RA ⟨u2.heap.size, 0, none⟩ 1 1 [.float .f64 x, .float .f64 y] (by rfl) rfl (Pr.cell_news u2 (.float .f64 x) (.float .f64 y) 51) (by intro u hu; simp at hu; rcases hu with rfl | rfl <;> rfl) (by decide) (by unfold maxLen; omega) (by omega) (by simp; omega) (u2.heap.size + 1) (by simp) ?_
          intro g2 cap3 w5 hown hgrow hat hlt5
          have far : ∀ kk, kk < W.heap.size → (∀ g, lv.ownBlock = some g → g ≠ kk) → w5.heap[kk]? = W.heap[kk]? := fun kk h1 h2 => (hgrow.block kk (by simp; omega) (fun e => h2 kk e.symm rfl)).trans (bu3.block kk h1)
          have fb := far b b2 NLH.out
          have f1 := far (w.heap.size + 1) (by omega) (fun g hg => by have := LGH.out g hg; omega)
          have f0 := far w.heap.size (by omega) (fun g hg => by have := LGH.out g hg; omega)
          have f3 := far w3.heap.size q13 (fun g hg => by have := LGH.out g hg; omega)
          refine hK.out _ _ (SCH.out w5 f0 f1 fb) (fun hHeld => ?_)
          clear hK K
          have c5 : w5.cell? ⟨w3.heap.size, 0, none⟩ = some lv := (World.cell?_of_block f3).trans h1
          have r5 : w5.frozen? ⟨w3.heap.size, 0, none⟩ = false := (World.frozen?_of_block f3).trans h2
          refine wpAnyH_ready (rs := [8]) (by kernel_rfl) (by simp) ?_
          refine AllReadyH.cons rfl (fun K hK => ?_) AllReadyH.nil
          go_simp
          have far2 : ∀ kk, kk ≠ w3.heap.size → (w5.setCell ⟨w3.heap.size, 0, none⟩ (.slice (some ⟨g2, 0, none⟩) (P.length + 1) cap3)).heap[kk]? = w5.heap[kk]? := fun kk hkk => Below.heap_setCell w5 ⟨w3.heap.size, 0, none⟩ _ kk (by simpa using hkk)
          have e0 := (far2 w.heap.size (by omega)).trans f0
          have e1 := (far2 (w.heap.size + 1) (by omega)).trans f1
          have eb := (far2 b (by omega)).trans fb
          refine hK.out _ _ (SCH.out _ e0 e1 eb) (fun hHeld => ?_)
          clear hK K
          refine wpAnyH_done (by kernel_rfl) ?_ _
          have bW5 : Below w.heap.size W w5 := (bu3.mono (by omega)).grown hgrow (by simp; omega) (fun g hg => by have := LGH.out g hg; omega)
          have sz5 := bW5.size
          have hge := (hown.lt g2 rfl).1
          refine ⟨⟨?_, fun kk hk1 hk2 => ?_⟩, _, P ++ [(x, y)], World.cell?_setCell_same' _ _ _ (by rw [c5]; rfl), by rw [World.frozen?_setCell]; exact r5, ⟨xs ++ [.float .f64 x, .float .f64 y], ?_, Pr.good_snoc GOH.out (by have := R0.out.1; omega)⟩, by simp [PLH.out], ?_, fun h0 => by simp at h0, ⟨(World.cell?_of_block e0).trans HG.out.1, (World.cell?_of_block e0).trans HG.out.2.1, (World.cell?_of_block e0).trans HG.out.2.2.1, (World.cell?_of_block e0).trans HG.out.2.2.2.1, (World.cell?_of_block e0).trans HG.out.2.2.2.2⟩, (World.cell?_of_block e1).trans h5, H6.out.trans (bW5.setCell (p := ⟨w3.heap.size, 0, none⟩) (by show w.heap.size ≤ w3.heap.size; omega) _)⟩
          · simpa using sz5
          · exact (far2 kk (fun e => hk2 (Or.inl e))).trans (far kk hk1 (fun g hg e => hk2 (Or.inr (by have := LGH.out g hg; omega))))
          · rw [List.length_append, List.length_singleton]
            refine hown.kept (row := some w3.heap.size) (Pr.grown_setCell (w := w5) ⟨rfl, rfl, rfl, Nat.le_refl _, fun _ _ _ => rfl⟩ 0 _) ?_
            exact Or.inr fun q => by
              have : g2 = w3.heap.size := by simpa [Value.ownBlock] using q
              omega
          · exact fun kk hkk => grads_snoc PVH.out (by rw [PLH.out]; exact HXY.out) kk hkk
  case done =>
    rintro D W hD ⟨lv, P, h1, h2, ⟨xs, h3, hgood⟩, hPl, hPv, -, h4, h5, h6⟩ hK
    rw [nodes_len] at hPl
    have BE : Hid (Below w.heap.size w (W.putObj D (.deferred none))) := h6.trans ((Below.refl _ W).grown (grownBy_putObj' W D _) (by have := (Array.getElem?_eq_some_iff.1 hK).1; omega) (fun k e => by cases e; omega))
    have RE : Hid ((W.putObj D (.deferred none)).ownsRow w.heap.size 51 2 lv P.length xs) := (by
      show World.ownsRow _ _ _ _ _ _ _
      have h7 := ownsRow_putObj h3 (.deferred none) hK rfl
      refine ⟨h7.1, ?_⟩
      rcases h7.2 with h | ⟨gx, cap, cur, q1, q2, q3⟩
      · exact .inl h
      · exact .inr ⟨gx, cap, cur, q1, by omega, q3⟩)
    have PV : Hid (P.length = n ∧ ∀ k, k < P.length → (cn (Pr.c0 P k), cn (Pr.c1 P k)) = gradN r c L k) := ⟨by rw [hPl]; exact HN.out.symm, hPv⟩
    have GO : Hid (Pr.Good xs P P.length) := hgood
    clear h3 h4 h5 hgood hPl hPv
    gi_wp2
    refine ⟨by simp, .inl ⟨_, _, rfl, run_takeDeferred hK, ?_⟩⟩
    exact ⟨_, results_tmp rfl _ _ _, lv, P, rfl, ⟨xs, RE.out, GO.out⟩, PV.out.1, PV.out.2, BE.out⟩
end Go.Proofs.Ytplichonohoacaa.Gd
