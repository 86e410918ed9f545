/- Smooth: the program. -/
import Derived.Test.YtplichonohoacaaVaA
import Derived.Test.YtplichonohoacaaGoA
import Derived.Test.YtplichonohoacaaNdA
import Derived.Test.YtplichonohoacaaSmR
import Derived.RangeFuncNested
import Derived.RangeFuncBound
import Derived.RangeFuncCalls
import Derived.RangeFuncLeaves
import Derived.Shelf.Abstract
import Derived.Shelf.RegionOpen
import Derived.WalkKit
import Derived.OwnWalkIn
import Derived.TacticsInMore
import Derived.LoopNIn
import Derived.LoopIn
import Derived.Deep.RegionHeldLaw
import Derived.Deep.AppendLies
import Derived.Maps.AppendAt
import Derived.RangeFuncBox
namespace Go.Proofs.Ytplichonohoacaa.Gd
open Go.ChangeShapes Go.WideShapes Go.ChangeAt Go.RowKit
open Go.Proofs.Ytplichonohoacaa.Flt Go.Proofs.Ytplichonohoacaa.Fls
attribute [local go_sem] Oper.semAt_some

theorem nb_pos {r c i j : Int} (hr : 2 ≤ r ∧ r ≤ 64) (_ : 2 ≤ c ∧ c ≤ 64) (hi : 0 ≤ i ∧ i < r) (hj : 0 ≤ j ∧ j < c) : 0 < (nb r c i j).length := by
  refine List.length_pos_of_mem (a := if i + 1 < r then (i + 1, j) else (i - 1, j)) ?_
  unfold nb
  refine List.mem_filter.2 ⟨?_, ?_⟩
  · split <;> simp [cands]
  · split <;> (simp [there, inn]; omega)
set_option maxRecDepth 20000 in
set_option maxHeartbeats 8000000 in
theorem ismooth_yes (r c s ws st : Int) (L : List Nat) (v : Value) (w : World) (hL : Fls.Reads w v L) (h : right r c s ws st L.length = true) (hbd : ∀ z ∈ L, z < 18446744073709551616) :
    Calls Try.prog 8 #[gv r c s ws st, v] w fun e w' => ∃ v' P, e = .returned v' ∧ w'.ownsRow w.heap.size 37 1 v' (List.length P) (flts P) ∧ P.length = L.length ∧ (∀ k, k < P.length → cn (P.getD k 0) = smN r c L k) ∧ Below w.heap.size w w' := by
  have hR2 : gok r c s ws st = true ∧ (L.length : Int) = r * c := by unfold right at h; simpa only [Bool.and_eq_true, decide_eq_true_eq] using h
  obtain ⟨hr, hc, _⟩ := gok_parts hR2.1
  have pl := prod_le2 hr hc
  have hn := hR2.2
  obtain ⟨bl, o, hcel, hv⟩ := reads_at hL
  obtain ⟨hbl, cap, rfl⟩ := hv (by omega)
  have RI : Hid (∀ w, Calls Try.prog 20 #[gv r c s ws st, .slice (some ⟨bl, o, none⟩) L.length cap] w fun e w' => e = .returned (.bool true) ∧ Below w.heap.size w w') := fun w => by have := ifield_any r c s ws st (some ⟨bl, o, none⟩) L.length cap w; rwa [h] at this
  have ARD : Hid (∀ (i j : Int) (u : World), 0 ≤ i ∧ i < r → 0 ≤ j ∧ j < c → Below w.heap.size w u → Calls Try.prog 25 #[gv r c s ws st, .slice (some ⟨bl, o, none⟩) L.length cap, nd i j] u fun e w' => ∃ v', e = .returned v' ∧ Fls.Reads w' v' ((nb r c i j).map (vAt c L)) ∧ Below u.heap.size u w') := fun i j u hi hj hu => (around_any r c s ws st i j hr hc hi hj L _ u (hL.on hu) hn).mono (by
    rintro e w' ⟨v', rfl, hrow, hb⟩
    exact ⟨v', rfl, Fls.reads_row (by rw [List.length_map]; exact hrow), hb⟩)
  obtain ⟨n, hn1⟩ : ∃ n, n = L.length := ⟨_, rfl⟩
  rw [← hn1] at RI ARD ⊢
  have HN : Hid (n = L.length) := hn1
  obtain ⟨w2, hw2⟩ : ∃ w2, w2 = ((w.alloc (Obj.cells #[.int .i64 r, .int .i64 c, .int .i64 s, .int .i64 ws, .int .i64 st] 26)).alloc (Obj.cells #[.slice (some ⟨bl, o, none⟩) n cap] 24)) := ⟨_, rfl⟩
  have HW2 : Hid (w2 = ((w.alloc (Obj.cells #[.int .i64 r, .int .i64 c, .int .i64 s, .int .i64 ws, .int .i64 st] 26)).alloc (Obj.cells #[.slice (some ⟨bl, o, none⟩) n cap] 24))) := hw2
  have B2 : Below w.heap.size w w2 := by rw [hw2]; exact ((Below.refl _ _).alloc (Nat.le_refl _) _).alloc (by simp) _
  have s2 : w2.heap.size = w.heap.size + 1 + 1 := by rw [hw2]; simp
  have G2 : Gx w2 w.heap.size r c s ws st := by rw [hw2]; unfold Gx; simp [go_sem]
  have v2 : w2.cell? ⟨w.heap.size + 1, 0, none⟩ = some (.slice (some ⟨bl, o, none⟩) n cap) := by rw [hw2]; simp [go_sem]
  clear hw2 h hn1 hv
  refine (callsIn_wide (n := 5)).1 ?_
  refine callsIn_of_wp_marks Try.func8 rfl trivial ?_ rfl
  simp only [Try.ntmps8, List.size_toArray, List.length_cons, List.length_nil, Nat.reduceAdd, Nat.reduceSub, Array.replicate_succ, Array.replicate_zero, List.push_toArray, List.append_toArray, List.nil_append, List.cons_append]
  gi_wp2_with fail
  rw [← HW2.out]
  refine ⟨trivial, (callsIn_wide.2 (RI.out w2)).mono ?_⟩
  rintro e w3 ⟨rfl, b3⟩
  obtain ⟨w4, hw4⟩ : ∃ w4, w4 = w3.alloc (Obj.cells #[.slice none 0 0] 24) := ⟨_, rfl⟩
  have HW4 : Hid (w4 = w3.alloc (Obj.cells #[.slice none 0 0] 24)) := hw4
  have b4 : Below w3.heap.size w3 w4 := by rw [hw4]; exact (Below.refl _ _).alloc (Nat.le_refl _) _
  have s3 := b3.size
  have s4 : w4.heap.size = w3.heap.size + 1 := by rw [hw4]; simp
  have G4 : Gx w4 w.heap.size r c s ws st := (G2.on b3 (by omega)).on b4 (by omega)
  have v4 := (b4.cell (p := ⟨w.heap.size + 1, 0, none⟩) (by show w.heap.size + 1 < _; omega)).trans ((b3.cell (p := ⟨w.heap.size + 1, 0, none⟩) (by show w.heap.size + 1 < _; omega)).trans v2)
  have l4 : w4.cell? ⟨w3.heap.size, 0, none⟩ = some (.slice none 0 0) ∧ w4.frozen? ⟨w3.heap.size, 0, none⟩ = false := by rw [hw4]; simp [go_sem]
  have B4 : Below w.heap.size w w4 := (B2.trans (b3.mono B2.size)).trans (b4.mono (Nat.le_trans B2.size s3))
  obtain ⟨g0, g1, g2, g3, g4⟩ := G4
  have HG4 : Hid (Gx w4 w.heap.size r c s ws st) := ⟨g0, g1, g2, g3, g4⟩
  have V4 : Hid (w4.cell? ⟨w.heap.size + 1, 0, none⟩ = some (.slice (some ⟨bl, o, none⟩) n cap)) := v4
  rw [hw4] at g0 g1 g2 g3 g4 v4
  clear hw4 HW2 G2 v2 b3 b4
  gi_wp2_with fail
  rw [← HW4.out]
  refine ⟨trivial, (nodes_in r c s ws st (some ⟨bl, o, none⟩) n cap w4).mono ?_⟩
  rintro e w6 ⟨rfl, hw6⟩
  have b6 : Below w4.heap.size w4 w6 := by rw [hw6]; exact ((Below.refl _ _).alloc (Nat.le_refl _) _).alloc (by simp) _
  have s6 : w6.heap.size = w4.heap.size + 1 + 1 := by rw [hw6]; simp
  have G6 : Gx w6 w4.heap.size r c s ws st := by rw [hw6]; unfold Gx; simp [go_sem]
  have P6 : w6.cell? ⟨w4.heap.size + 1, 0, none⟩ = some (.slice (some ⟨bl, o, none⟩) n cap) := by rw [hw6]; simp [go_sem]
  have g6 : Gx w6 w.heap.size r c s ws st := HG4.out.on b6 (by omega)
  have v6 := (b6.cell (p := ⟨w.heap.size + 1, 0, none⟩) (by show w.heap.size + 1 < _; omega)).trans V4.out
  have l6 := (b6.cell (p := ⟨w3.heap.size, 0, none⟩) (by show w3.heap.size < _; omega)).trans l4.1
  have f6 := (World.frozen?_of_block (b6.block w3.heap.size (by omega))).trans l4.2
  have B6 : Below w.heap.size w w6 := B4.trans (b6.mono B4.size)
  clear hw6 b6 HW4 HG4 V4 l4 B4 g0 g1 g2 g3 g4 v4
  gi_wp2_with fail
  refine Rf.rangeG rfl (by omega) (gf := 34) (lb := #[.pointer (some ⟨w3.heap.size + 1 + 1, 0, none⟩), .pointer (some ⟨w3.heap.size + 1, 0, none⟩)]) rfl trivial (enters_of Try.func34 (by kernel_rfl) rfl)
    (Y := fun k => k = w3.heap.size ∨ w6.heap.size + 2 ≤ k) ⟨fun h => by omega, fun h => by omega⟩ (xs := nodes c L L.length)
    (nodes_seq r c s ws st hc L (by omega) bl o cap (w3.heap.size + 1) (w3.heap.size + 1 + 1) w w6 B6 hcel hbl (by rw [← s4]; exact G6) (by rw [← HN.out, ← s4]; exact P6) (by omega) (by omega) _ (fun h => by omega) (fun h => by omega))
    (fun _ => rfl)
    (fun pre W => ∃ lv, ∃ P : List Nat, W.cell? ⟨w3.heap.size, 0, none⟩ = some lv ∧ W.frozen? ⟨w3.heap.size, 0, none⟩ = false ∧ W.ownsRow (w6.heap.size + 2) 37 1 lv P.length (flts P) ∧ P.length = pre.length ∧ (∀ k, k < P.length → cn (P.getD k 0) = smN r c L k) ∧ (pre.length = 0 → lv = .slice none 0 0) ∧ Gx W w.heap.size r c s ws st ∧ W.cell? ⟨w.heap.size + 1, 0, none⟩ = some (.slice (some ⟨bl, o, none⟩) n cap) ∧ Below w.heap.size w W)
    ?stable ?start
    (fun l e a' W => ∃ b, l < b ∧ b < W.heap.size ∧ Pt W b e.1.1 e.1.2 ∧ a' = { tmps := #[gv r c s ws st, .slice (some ⟨bl, o, none⟩) n cap, .pointer (some ⟨w.heap.size, 0, none⟩), .pointer (some ⟨w.heap.size + 1, 0, none⟩), .slice none 0 0, .pointer (some ⟨w3.heap.size, 0, none⟩), .pointer (some ⟨b, 0, none⟩), .float .f64 e.2, gv r c s ws st, .slice (some ⟨bl, o, none⟩) n cap, .bool true, .bool false, gv r c s ws st, .slice (some ⟨bl, o, none⟩) n cap, .func (.func 34) #[] #[.pointer (some ⟨w3.heap.size + 1 + 1, 0, none⟩), .pointer (some ⟨w3.heap.size + 1, 0, none⟩)], nd e.1.1 e.1.2, .float .f64 e.2, undef, undef, undef, undef, undef, undef, undef, undef, undef, undef, undef, undef, undef, undef, undef, undef, undef, undef], defers := [] })
    ?keeps ?assign ?body ?done
  case stable =>
    rintro pre A C ⟨lv, P, h1, h2, h3, hPl, hPv, hz, h4, h5, h6⟩ hg
    have hb : ∀ k, k < w6.heap.size → k < A.heap.size → C.heap[k]? = A.heap[k]? := fun k hk hk2 => hg.block k hk2 (fun q => by cases q; omega)
    have za := h6.size
    have q1 := World.block_lt_of_cell? A _ h1
    have q2 := World.block_lt_of_cell? A _ h5
    have q3 := World.block_lt_of_cell? A _ h4.1
    have z1 := hb w3.heap.size (by omega) q1
    have z2 := hb (w.heap.size + 1) (by omega) q2
    have z3 := hb w.heap.size (by omega) q3
    refine ⟨lv, P, (World.cell?_of_block z1).trans h1, (World.frozen?_of_block z1).trans h2, ?_, hPl, hPv, hz, ⟨(World.cell?_of_block z3).trans h4.1, (World.cell?_of_block z3).trans h4.2.1, (World.cell?_of_block z3).trans h4.2.2.1, (World.cell?_of_block z3).trans h4.2.2.2.1, (World.cell?_of_block z3).trans h4.2.2.2.2⟩, (World.cell?_of_block z2).trans h5, h6.grown hg za (fun k e => by cases e; omega)⟩
    refine h3.kept hg ?_
    cases eo : lv.ownBlock with
    | none => exact Or.inl rfl
    | some k => exact Or.inr fun x => by have := (h3.lt k eo).1; cases x; omega
  case start => exact ⟨_, [], l6, f6, World.ownsRow_nil _ _ _ _, rfl, fun k hk => absurd hk (by simp), fun _ => rfl, g6, v6, B6⟩
  case keeps =>
    rintro l e a' A C ⟨b, h1, h2, h3, h4⟩ hb
    have n1 : ¬ (b = l) := by omega
    exact ⟨b, h1, Nat.lt_of_lt_of_le h2 hb.size, ⟨(hb.cell (p := ⟨b, 0, none⟩) h2 n1).trans h3.1, (hb.cell (p := ⟨b, 1, none⟩) h2 n1).trans h3.2⟩, h4⟩
  case assign =>
    intro l e W K hl hK
    gi_wp2
    exact hK _ _ ((Below.refl _ _).alloc (Nat.le_refl _) _) ⟨W.heap.size, hl, by simp, by unfold Pt; simp [go_sem], rfl⟩
  case body =>
    rintro l pre e a' W rfl hlW ⟨lv, P, h1, h2, h3, hPl, hPv, hz, h4, h5, h6⟩ ⟨b, b1, b2, ⟨p1, p2⟩, rfl⟩ hpre
    obtain ⟨hk, he⟩ := nodes_at hpre
    obtain ⟨⟨x1, x2⟩, xv⟩ := e
    simp only at p1 p2
    unfold nodeAt at he
    simp only [Prod.mk.injEq] at he
    obtain ⟨⟨hx1, hx2⟩, hxv⟩ := he
    have i2 : (0 : Int) ≤ (pre.length : Int) := by omega
    have c0 : ¬ c = 0 := by omega
    have ri : 0 ≤ x1 ∧ x1 < r := by
      rw [hx1]
      exact ⟨Int.ediv_nonneg i2 (by omega), (Int.ediv_lt_iff_lt_mul (by omega)).2 (by omega)⟩
    have rj : 0 ≤ x2 ∧ x2 < c := by
      rw [hx2]
      exact ⟨Int.emod_nonneg _ c0, Int.emod_lt_of_pos _ (by omega)⟩
    have zW := h6.size
    have hkL : pre.length < L.length := hk
    have hva : vAt c L (x1, x2) = xv := (by
      unfold vAt
      have e : x1 * c + x2 = (pre.length : Int) := by rw [hx1, hx2]; exact Int.ediv_mul_add_emod _ _
      simp only
      rw [e, hxv]
      simp)
    have hxvb : xv < 18446744073709551616 := by
      rw [hxv]
      exact hbd _ (by simp [List.getD_eq_getElem?_getD, List.getElem?_eq_getElem hkL])
    have HSN : Hid (smN r c L P.length = if nan xv then qn else mnOf (xv :: (nb r c x1 x2).map (vAt c L))) := (by show _ = _; rw [hPl]; unfold smN; rw [← hx1, ← hx2]; unfold smV; rw [hva])
    have npos : 0 < ((nb r c x1 x2).map (vAt c L)).length := by rw [List.length_map]; exact nb_pos hr hc ri rj
    have nle : ((nb r c x1 x2).map (vAt c L)).length ≤ 4 := by rw [List.length_map]; exact nb_le r c x1 x2
    have BND : Hid (∀ z ∈ xv :: (nb r c x1 x2).map (vAt c L), z < 18446744073709551616) := (by
      show ∀ z ∈ _, _
      intro z hz
      rcases List.mem_cons.1 hz with rfl | hz
      · exact hxvb
      · obtain ⟨e, he, rfl⟩ := List.mem_map.1 hz
        unfold vAt
        by_cases hl : (e.1 * c + e.2).toNat < L.length
        · exact hbd _ (by simp [List.getD_eq_getElem?_getD, List.getElem?_eq_getElem hl])
        · simp [List.getD_eq_getElem?_getD, List.getElem?_eq_none (by omega : L.length ≤ (e.1 * c + e.2).toNat)])
    have AR : Hid (∀ u : World, Below W.heap.size W u → Calls Try.prog 25 #[gv r c s ws st, .slice (some ⟨bl, o, none⟩) n cap, nd x1 x2] u fun e w' => ∃ v', e = .returned v' ∧ Fls.Reads w' v' ((nb r c x1 x2).map (vAt c L)) ∧ Below u.heap.size u w') := fun u hu => ARD.out x1 x2 u ri rj (h6.trans (hu.mono zW))
    have nlb : ∀ g, lv.ownBlock = some g → g ≠ b := fun g hg he => by
      subst he
      rcases Nat.eq_zero_or_pos P.length with h0 | h0
      · rw [hz (by omega)] at hg; cases hg
      · rcases h3.2 with ⟨q1, _⟩ | ⟨g', cap', cur, q1, _⟩
        · rw [q1] at hg; cases hg
        · rw [q1] at hg h3
          cases hg
          have := h3.cellAt 0 (by simp; exact h0)
          rw [p1] at this
          simp [flts, h0] at this
    obtain ⟨g0, g1, g2, g3, g4⟩ := h4
    have q13 : w3.heap.size < W.heap.size := World.block_lt_of_cell? W _ h1
    have zb : w6.heap.size + 2 ≤ W.heap.size := by omega
    have X : Hid (Cx W w.heap.size b w3.heap.size (w6.heap.size + 2) (.slice (some ⟨bl, o, none⟩) n cap) lv r c s ws st x1 x2 P.length (flts P)) := ⟨⟨g0, g1, g2, g3, g4, h5, p1, p2⟩, b2, q13, by omega, by omega, zb, ⟨by omega, by omega, by omega⟩, h1, h2, h3, nlb, by omega⟩
    have HG : Hid (Gx W w.heap.size r c s ws st) := ⟨g0, g1, g2, g3, g4⟩
    have FB : Hid (∀ (u : World), Fin (fun m => cn m = smN r c L P.length) W w3.heap.size (w6.heap.size + 2) lv P.length (flts P) u → (Rf.But (fun k => k = w3.heap.size ∨ w6.heap.size + 2 ≤ k) W u ∧ ∃ lv, ∃ P' : List Nat, u.cell? ⟨w3.heap.size, 0, none⟩ = some lv ∧ u.frozen? ⟨w3.heap.size, 0, none⟩ = false ∧ u.ownsRow (w6.heap.size + 2) 37 1 lv P'.length (flts P') ∧ P'.length = (pre ++ [((x1, x2), xv)]).length ∧ (∀ k, k < P'.length → cn (P'.getD k 0) = smN r c L k) ∧ ((pre ++ [((x1, x2), xv)]).length = 0 → lv = .slice none 0 0) ∧ Gx u w.heap.size r c s ws st ∧ u.cell? ⟨w.heap.size + 1, 0, none⟩ = some (.slice (some ⟨bl, o, none⟩) n cap) ∧ Below w.heap.size w u)) := (by
      show ∀ u, _
      rintro u ⟨m, k2, cap3, u3, w5, hm, bu, hgrow, hown, rfl⟩
      have bz := bu.size
      have lge : ∀ g, lv.ownBlock = some g → w6.heap.size + 2 ≤ g := fun g hg => (h3.lt g hg).1
      have bW5 : Below w.heap.size W w5 := (bu.mono (by omega)).grown hgrow (by omega) (fun g hg => by have := lge g hg; omega)
      have sz5 := bW5.size
      have far : ∀ kk, kk < W.heap.size → (∀ g, lv.ownBlock = some g → g ≠ kk) → w5.heap[kk]? = W.heap[kk]? := fun kk h1 h2 => (hgrow.block kk (by omega) (fun e => h2 kk e.symm rfl)).trans (bu.block kk h1)
      have far2 : ∀ kk, kk ≠ w3.heap.size → (w5.setCell ⟨w3.heap.size, 0, none⟩ (.slice (some ⟨k2, 0, none⟩) (P.length + 1) cap3)).heap[kk]? = w5.heap[kk]? := fun kk hkk => Below.heap_setCell w5 ⟨w3.heap.size, 0, none⟩ _ kk (by simpa using hkk)
      have f0 := far w.heap.size (by omega) (fun g hg => by have := lge g hg; omega)
      have f1 := far (w.heap.size + 1) (by omega) (fun g hg => by have := lge g hg; omega)
      have f3 := far w3.heap.size q13 (fun g hg => by have := lge g hg; omega)
      have e0 := (far2 w.heap.size (by omega)).trans f0
      have e1 := (far2 (w.heap.size + 1) (by omega)).trans f1
      have c5 : w5.cell? ⟨w3.heap.size, 0, none⟩ = some lv := (World.cell?_of_block f3).trans h1
      have r5 : w5.frozen? ⟨w3.heap.size, 0, none⟩ = false := (World.frozen?_of_block f3).trans h2
      have hge := (hown.lt k2 rfl).1
      refine ⟨⟨?_, fun kk hk1 hk2 => ?_⟩, _, P ++ [m], World.cell?_setCell_same' _ _ _ (by rw [c5]; rfl), by rw [World.frozen?_setCell]; exact r5, ?_, by simp [hPl], ?_, fun h0 => by simp at h0, ⟨(World.cell?_of_block e0).trans g0, (World.cell?_of_block e0).trans g1, (World.cell?_of_block e0).trans g2, (World.cell?_of_block e0).trans g3, (World.cell?_of_block e0).trans g4⟩, (World.cell?_of_block e1).trans h5, h6.trans (bW5.setCell (p := ⟨w3.heap.size, 0, none⟩) (by show w.heap.size ≤ w3.heap.size; omega) _)⟩
      · simpa using sz5
      · exact (far2 kk (fun e => hk2 (Or.inl e))).trans (far kk hk1 (fun g hg e => hk2 (Or.inr (by have := lge g hg; omega))))
      · rw [List.length_append, List.length_singleton]
        have e : flts (P ++ [m]) = flts P ++ [.float .f64 m] := by simp [flts]
        rw [e]
        refine hown.kept (row := some w3.heap.size) (Pr.grown_setCell (w := w5) ⟨rfl, rfl, rfl, Nat.le_refl _, fun _ _ _ => rfl⟩ 0 _) ?_
        exact Or.inr fun q => by
          have : k2 = w3.heap.size := by simpa [Value.ownBlock] using q
          omega
      · intro k hkk
        simp at hkk
        by_cases e : k = P.length
        · subst e
          simpa [List.getD_eq_getElem?_getD] using hm
        · have := hPv k (by omega)
          simpa [List.getD_eq_getElem?_getD, List.getElem?_append_left (show k < P.length by omega)] using this)
    have IN : Hid (∀ u, Calls Try.prog 22 #[.float .f64 xv] u fun e w' => e = .returned (.bool (nan xv)) ∧ w' = u) := fun u => isnan_any xv u
    have LN : P.length ≤ 4096 := by omega
    clear h3 h6 hz hpre hx1 hx2 nlb hPv hPl ri rj hva hxvb hxv p1 p2 g0 g1 g2 g3 g4 h5 h1 h2 zb hbd
    cases hnan : nan xv
    · rw [hnan] at IN HSN
      have PM : Hid (∀ m, Smm.Mn (xv :: (nb r c x1 x2).map (vAt c L)) m → cn m = smN r c L P.length) := fun m hm => by rw [HSN.out]; exact mn_is (by simp at nle ⊢; omega) hm
      clear hnan HSN
      gi_wp2_with fail
      refine ⟨trivial, (CallsIn.inRound _ (callsIn_wide.2 (IN.out W))).mono ?_⟩
      rintro e u ⟨rfl, hu⟩
      have hu' := hu.symm
      subst hu'
      gi_wp2_with fail
      have BD : Below W.heap.size W W.drew := ⟨rfl, rfl, rfl, Nat.le_refl _, fun _ _ => rfl⟩
      refine Rf.region_lift (S := Sx w.heap.size b (.slice (some ⟨bl, o, none⟩) n cap) r c s ws st x1 x2) (by kernel_rfl) (by rintro ⟨_, _, h⟩; exact h) (by kernel_rfl) (X.out.on BD) (fun hHeld => ?_)
      refine wpAnyH_take (i := 1) (v := .float .f64 xv) rfl (by kernel_rfl) (by kernel_rfl) (by kernel_rfl) (fun _ _ _ h => h) (Or.inl ⟨by rfl, fun w0 hSw => ?_⟩) (by assumption) ?_
      · obtain ⟨k0, k1, k2, k3, k4, k5, k6, k7⟩ := hSw
        go_simp
      refine wpAnyH_take (i := 3) (v := gv r c s ws st) rfl (by kernel_rfl) (by kernel_rfl) (by kernel_rfl) (fun _ _ _ h => h) (Or.inl ⟨by rfl, fun w0 hSw => ?_⟩) (by assumption) ?_
      · obtain ⟨k0, k1, k2, k3, k4, k5, k6, k7⟩ := hSw
        go_simp
      refine wpAnyH_take (i := 4) (v := .slice (some ⟨bl, o, none⟩) n cap) rfl (by kernel_rfl) (by kernel_rfl) (by kernel_rfl) (fun _ _ _ h => h) (Or.inl ⟨by rfl, fun w0 hSw => ?_⟩) (by assumption) ?_
      · obtain ⟨k0, k1, k2, k3, k4, k5, k6, k7⟩ := hSw
        go_simp
      refine wpAnyH_take (i := 5) (v := nd x1 x2) rfl (by kernel_rfl) (by kernel_rfl) (by kernel_rfl) (fun _ _ _ h => h) (Or.inl ⟨by rfl, fun w0 hSw => ?_⟩) (by assumption) ?_
      · obtain ⟨k0, k1, k2, k3, k4, k5, k6, k7⟩ := hSw
        go_simp
      exact n0E (pm := fun m => cn m = smN r c L P.length) X.out (fun a' u hu => FB.out u hu) AR BND npos nle PM _ _ _ _ _ _ _ _ _ _ _ _ _ _ _ _ _ _ W.drew BD
    · rw [hnan] at IN HSN
      have PM : Hid (cn qn = smN r c L P.length) := (by show _ = _; rw [HSN.out]; exact cn_nan nan_qn)
      clear hnan HSN
      gi_wp2_with fail
      refine ⟨trivial, (CallsIn.inRound _ (callsIn_wide.2 (IN.out W))).mono ?_⟩
      rintro e u ⟨rfl, hu⟩
      have hu' := hu.symm
      subst hu'
      have BD : Below W.heap.size W W.drew := ⟨rfl, rfl, rfl, Nat.le_refl _, fun _ _ => rfl⟩
      gi_wp2_with fail
      refine Rf.region_lift (S := fun _ => True) (by kernel_rfl) (by rintro ⟨_, _, h⟩; exact h) (by kernel_rfl) trivial (fun hHeld => ?_)
      refine m0E (pm := fun m => cn m = smN r c L P.length) X.out (fun a' u hu => ?_) PM _ _ _ _ _ _ _ _ _ _ _ _ _ _ _ _ _ _ _ _ _ _ _ _ _ _ _ _ _ _ W.drew BD
      have hf := FB.out u hu
      gi_wp2_with fail
      exact hf
  case done =>
    rintro D W hD ⟨lv, P, h1, h2, h3, hPl, hPv, -, h4, h5, h6⟩ hK
    rw [nodes_len] at hPl
    have BE : Hid (Below w.heap.size w (W.putObj D (.deferred none))) := h6.trans ((Below.refl _ W).grown (grownBy_putObj' W D _) (by have := (Array.getElem?_eq_some_iff.1 hK).1; omega) (fun k e => by cases e; omega))
    have RE : Hid ((W.putObj D (.deferred none)).ownsRow w.heap.size 37 1 lv P.length (flts P)) := (by
      show World.ownsRow _ _ _ _ _ _ _
      have h7 := ownsRow_putObj h3 (.deferred none) hK rfl
      refine ⟨h7.1, ?_⟩
      rcases h7.2 with h | ⟨gx, cap, cur, q1, q2, q3⟩
      · exact .inl h
      · exact .inr ⟨gx, cap, cur, q1, by omega, q3⟩)
    have PV : Hid (P.length = n ∧ ∀ k, k < P.length → cn (P.getD k 0) = smN r c L k) := ⟨by rw [hPl]; exact HN.out.symm, hPv⟩
    clear h3 h4 h5 hPl hPv
    gi_wp2
    refine ⟨by simp, .inl ⟨_, _, rfl, run_takeDeferred hK, ?_⟩⟩
    exact ⟨_, results_tmp rfl _ _ _, lv, P, rfl, RE.out, PV.out.1, PV.out.2, BE.out⟩
end Go.Proofs.Ytplichonohoacaa.Gd
