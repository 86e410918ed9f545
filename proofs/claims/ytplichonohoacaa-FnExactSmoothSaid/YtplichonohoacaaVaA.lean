/- The values round a point: the program. -/
import Derived.Test.YtplichonohoacaaNbA
import Derived.Test.YtplichonohoacaaRfL
import Derived.Test.YtplichonohoacaaPr
import Derived.RangeFuncNested
import Derived.RangeFuncBound
import Derived.RangeFuncCalls
import Derived.RangeFuncLeaves
import Derived.Shelf.Abstract
import Derived.Shelf.RegionOpen
import Derived.WalkKit
import Derived.OwnWalkIn
import Derived.TacticsInMore
import Derived.LoopNIn
import Derived.LoopIn
import Derived.Deep.RegionHeldLaw
import Derived.Deep.AppendLies
import Derived.Maps.AppendAt
import Derived.RangeFuncBox
namespace Go.Proofs.Ytplichonohoacaa.Gd
open Go.ChangeShapes Go.WideShapes Go.ChangeAt Go.RowKit
open Go.Proofs.Ytplichonohoacaa.Flt
attribute [local go_sem] Oper.semAt_some

def vAt (c : Int) (L : List Nat) (e : Int × Int) : Nat := L.getD (e.1 * c + e.2).toNat 0
theorem nb_in {r c i j : Int} {pre : List (Int × Int)} {e : Int × Int} (h : pre ++ [e] <+: nb r c i j) : there r c e.1 e.2 = true := by
  have : e ∈ nb r c i j := h.subset (by simp)
  unfold nb at this
  exact (List.mem_filter.1 this).2
theorem nb_le (r c i j : Int) : (nb r c i j).length ≤ 4 := by
  unfold nb
  exact Nat.le_trans (List.length_filter_le _ _) (by simp [cands])

set_option maxRecDepth 20000 in
set_option maxHeartbeats 4000000 in
theorem around_any (r c s ws st i j : Int) (hr : 2 ≤ r ∧ r ≤ 64) (hc : 2 ≤ c ∧ c ≤ 64) (hi : 0 ≤ i ∧ i < r) (hj : 0 ≤ j ∧ j < c) (L : List Nat) (v : Value) (w : World) (hL : Fls.Reads w v L) (hn : (L.length : Int) = r * c) :
    Calls Try.prog 25 #[gv r c s ws st, v, nd i j] w fun e w' => ∃ v', e = .returned v' ∧ w'.ownsRow w.heap.size 37 1 v' (nb r c i j).length (Fls.flts ((nb r c i j).map (vAt c L))) ∧ Below w.heap.size w w' := by
  have pl := prod_le2 hr hc
  obtain ⟨bl, o, hcel, hv⟩ := reads_at hL
  obtain ⟨hbl, cap, rfl⟩ := hv (by omega)
  obtain ⟨a, ha⟩ : ∃ a : Option Addr, a = some ⟨bl, o, none⟩ := ⟨_, rfl⟩
  obtain ⟨n, hn1⟩ : ∃ n, n = L.length := ⟨_, rfl⟩
  rw [← ha, ← hn1]
  have HA : Hid (a = some ⟨bl, o, none⟩) := ha
  have HN : Hid (n = L.length) := hn1
  clear ha hn1
  obtain ⟨w4, hw4⟩ : ∃ w4, w4 = ((((w.alloc (Obj.cells #[.int .i64 r, .int .i64 c, .int .i64 s, .int .i64 ws, .int .i64 st] 26)).alloc (Obj.cells #[.slice a n cap] 24)).alloc (Obj.cells #[.int .i64 i, .int .i64 j] 45)).alloc (Obj.cells #[.slice none 0 0] 24)) := ⟨_, rfl⟩
  have HW4 : Hid (w4 = ((((w.alloc (Obj.cells #[.int .i64 r, .int .i64 c, .int .i64 s, .int .i64 ws, .int .i64 st] 26)).alloc (Obj.cells #[.slice a n cap] 24)).alloc (Obj.cells #[.int .i64 i, .int .i64 j] 45)).alloc (Obj.cells #[.slice none 0 0] 24))) := hw4
  have B4 : Below w.heap.size w w4 := by rw [hw4]; exact ((((Below.refl _ _).alloc (Nat.le_refl _) _).alloc (by simp) _).alloc (by simp; omega) _).alloc (by simp; omega) _
  have s4 : w4.heap.size = w.heap.size + 1 + 1 + 1 + 1 := by rw [hw4]; simp
  have G4 : Gx w4 w.heap.size r c s ws st := by rw [hw4]; unfold Gx; simp [go_sem]
  have v4 : w4.cell? ⟨w.heap.size + 1, 0, none⟩ = some (.slice a n cap) := by rw [hw4]; simp [go_sem]
  have l4 : w4.cell? ⟨w.heap.size + 1 + 1 + 1, 0, none⟩ = some (.slice none 0 0) ∧ w4.frozen? ⟨w.heap.size + 1 + 1 + 1, 0, none⟩ = false := by rw [hw4]; simp [go_sem]
  clear hw4
  refine (callsIn_wide (n := 5)).1 ?_
  refine callsIn_of_wp_marks Try.func25 rfl trivial ?_ rfl
  simp only [Try.ntmps25, List.size_toArray, List.length_cons, List.length_nil, Nat.reduceAdd, Nat.reduceSub, Array.replicate_succ, Array.replicate_zero, List.push_toArray, List.append_toArray, List.nil_append, List.cons_append]
  gi_wp2_with fail
  rw [← HW4.out]
  refine ⟨trivial, (nbs_in r c s ws st i j w4).mono ?_⟩
  rintro e w6 ⟨rfl, hw6⟩
  have b6 : Below w4.heap.size w4 w6 := by rw [hw6]; exact ((Below.refl _ _).alloc (Nat.le_refl _) _).alloc (by simp) _
  have s6 : w6.heap.size = w4.heap.size + 1 + 1 := by rw [hw6]; simp
  have G6 : Gx w6 w4.heap.size r c s ws st := by rw [hw6]; unfold Gx; simp [go_sem]
  have P6 : Pt w6 (w4.heap.size + 1) i j := by rw [hw6]; unfold Pt; simp [go_sem]
  have g6 : Gx w6 w.heap.size r c s ws st := G4.on b6 (by omega)
  have v6 := (b6.cell (p := ⟨w.heap.size + 1, 0, none⟩) (by show w.heap.size + 1 < _; omega)).trans v4
  have l6 := (b6.cell (p := ⟨w.heap.size + 1 + 1 + 1, 0, none⟩) (by show w.heap.size + 1 + 1 + 1 < _; omega)).trans l4.1
  have f6 := (World.frozen?_of_block (b6.block (w.heap.size + 1 + 1 + 1) (by omega))).trans l4.2
  have B6 : Below w.heap.size w w6 := B4.trans (b6.mono B4.size)
  clear hw6 b6 HW4 G4 v4 l4 B4
  gi_wp2_with fail
  refine Rf.rangeG rfl (by omega) (gf := 43) (lb := #[.pointer (some ⟨w.heap.size + 1 + 1 + 1 + 1 + 1, 0, none⟩), .pointer (some ⟨w.heap.size + 1 + 1 + 1 + 1, 0, none⟩)]) rfl trivial (enters_of Try.func43 (by kernel_rfl) rfl)
    (Y := fun k => k = w.heap.size + 1 + 1 + 1 ∨ w6.heap.size + 2 ≤ k) ⟨fun h => by omega, fun h => by omega⟩ (xs := nb r c i j)
    (nb_seq r c s ws st i j hr hc hi hj (w.heap.size + 1 + 1 + 1 + 1) (w.heap.size + 1 + 1 + 1 + 1 + 1) w6 (by rw [← s4]; exact G6) (by rw [← s4]; exact P6) (by omega) (by omega) _ (fun h => by omega))
    (fun _ => rfl)
    (fun pre W => ∃ lv, W.cell? ⟨w.heap.size + 1 + 1 + 1, 0, none⟩ = some lv ∧ W.frozen? ⟨w.heap.size + 1 + 1 + 1, 0, none⟩ = false ∧ W.ownsRow (w6.heap.size + 2) 37 1 lv pre.length (Fls.flts (pre.map (vAt c L))) ∧ Gx W w.heap.size r c s ws st ∧ W.cell? ⟨w.heap.size + 1, 0, none⟩ = some (.slice a n cap) ∧ (pre.length = 0 → lv = .slice none 0 0) ∧ Below w.heap.size w W)
    ?stable ?start
    (fun l e a' W => ∃ b, l < b ∧ b < W.heap.size ∧ Pt W b e.1 e.2 ∧ a' = { tmps := #[gv r c s ws st, .slice a n cap, nd i j, .pointer (some ⟨w.heap.size, 0, none⟩), .pointer (some ⟨w.heap.size + 1, 0, none⟩), .pointer (some ⟨w.heap.size + 1 + 1, 0, none⟩), .slice none 0 0, .pointer (some ⟨w.heap.size + 1 + 1 + 1, 0, none⟩), .pointer (some ⟨b, 0, none⟩), gv r c s ws st, nd i j, .func (.func 43) #[] #[.pointer (some ⟨w.heap.size + 1 + 1 + 1 + 1 + 1, 0, none⟩), .pointer (some ⟨w.heap.size + 1 + 1 + 1 + 1, 0, none⟩)], nd e.1 e.2, undef, undef, undef, undef, undef, undef, undef, undef, undef, undef, undef, undef, undef, undef, undef], defers := [] })
    ?keeps ?assign ?body ?done
  case stable =>
    rintro pre A C ⟨lv, h1, h2, h3, h4, h5, hz, h6⟩ hg
    have hb : ∀ k, k < w6.heap.size → k < A.heap.size → C.heap[k]? = A.heap[k]? := fun k hk hk2 => hg.block k hk2 (fun q => by cases q; omega)
    have za := h6.size
    have q1 := World.block_lt_of_cell? A _ h1
    have q2 := World.block_lt_of_cell? A _ h5
    have q3 := World.block_lt_of_cell? A _ h4.1
    have z1 := hb (w.heap.size + 1 + 1 + 1) (by omega) q1
    have z2 := hb (w.heap.size + 1) (by omega) q2
    have z3 := hb w.heap.size (by omega) q3
    refine ⟨lv, (World.cell?_of_block z1).trans h1, (World.frozen?_of_block z1).trans h2, ?_, ⟨(World.cell?_of_block z3).trans h4.1, (World.cell?_of_block z3).trans h4.2.1, (World.cell?_of_block z3).trans h4.2.2.1, (World.cell?_of_block z3).trans h4.2.2.2.1, (World.cell?_of_block z3).trans h4.2.2.2.2⟩, (World.cell?_of_block z2).trans h5, hz, h6.grown hg za (fun k e => by cases e; omega)⟩
    refine h3.kept hg ?_
    cases eo : lv.ownBlock with
    | none => exact Or.inl rfl
    | some k => exact Or.inr fun x => by have := (h3.lt k eo).1; cases x; omega
  case start => exact ⟨_, l6, f6, World.ownsRow_nil _ _ _ _, g6, v6, fun _ => rfl, B6⟩
  case keeps =>
    rintro l e a' A C ⟨b, h1, h2, h3, h4⟩ hb
    have n1 : ¬ (b = l) := by omega
    exact ⟨b, h1, Nat.lt_of_lt_of_le h2 hb.size, ⟨(hb.cell (p := ⟨b, 0, none⟩) h2 n1).trans h3.1, (hb.cell (p := ⟨b, 1, none⟩) h2 n1).trans h3.2⟩, h4⟩
  case assign =>
    intro l e W K hl hK
    gi_wp2
    exact hK _ _ ((Below.refl _ _).alloc (Nat.le_refl _) _) ⟨W.heap.size, hl, by simp, by unfold Pt; simp [go_sem], rfl⟩
  case body =>
    rintro l pre e a' W rfl hlW ⟨lv, h1, h2, h3, h4, h5, hz, h6⟩ ⟨b, b1, b2, ⟨p1, p2⟩, rfl⟩ hpre
    obtain ⟨p0, p5, p3, p4, p6, p7⟩ := place_le (nb_in hpre) hc.1
    have hlen := hpre.length_le
    have h4n := nb_le r c i j
    simp at hlen
    obtain ⟨x1, x2⟩ := e
    simp only at p0 p3 p4 p5 p6 p7 p1 p2
    obtain ⟨k, hk⟩ : ∃ k : Nat, x1 * c + x2 = (k : Int) := ⟨(x1 * c + x2).toNat, by omega⟩
    have hvA : Hid (vAt c L (x1, x2) = L.getD k 0) := (by show _ = _; unfold vAt; simp only; rw [hk]; rfl)
    have hkl : k < L.length := by omega
    have hx : W.cell? ⟨bl, o + k, none⟩ = some (.float .f64 (L.getD k 0)) := (h6.cell (p := ⟨bl, o + k, none⟩) hbl).trans (hcel k hkl)
    obtain ⟨q, hq⟩ : ∃ q, q = x1 * c := ⟨_, rfl⟩
    have j1 : wrap64 (x1 * c) = q := by rw [hq]; exact IntWalk.wrap64_in _ (by omega)
    have hk2 : q + x2 = (k : Int) := by rw [hq]; exact hk
    have j2 : IntKind.i64.wrap (x1 * c) = q := by rw [hq]; exact IntWalk.i64_in _ (by omega)
    have j3 : IntKind.i64.wrap (k : Int) = (k : Int) := IntWalk.i64_in _ (by omega)
    have z1 : (0 : Int) ≤ (k : Int) := by omega
    have z2 : (k : Int) < (n : Int) := by have := HN.out; omega
    have q9 : 0 ≤ q ∧ q ≤ 4096 ∧ x2 < 64 := by omega
    have ea := HA.out
    subst ea
    generalize L.getD k 0 = x at *
    have nlb : ∀ g, lv.ownBlock = some g → g ≠ b := fun g hg he => by
      subst he
      rcases Nat.eq_zero_or_pos pre.length with h0 | h0
      · rw [hz h0] at hg; cases hg
      · have h3' : W.ownsRow (w6.heap.size + 2) 37 1 lv (pre.map (vAt c L)).length (Fls.flts (pre.map (vAt c L))) := by rw [List.length_map]; exact h3
        rcases Fls.row_cases h3' with ⟨_, q1⟩ | ⟨g', cap', q1, _⟩
        · rw [q1] at hg; cases hg
        · rw [q1] at hg h3'
          cases hg
          have := Fls.row_cell h3' 0 (by rw [List.length_map]; exact h0)
          rw [p1] at this
          cases this
    have lge : ∀ g, lv.ownBlock = some g → w6.heap.size + 2 ≤ g := fun g hg => (h3.lt g hg).1
    have g1 := h4.2.1
    have HB6 : Hid (Below w.heap.size w W) := h6
    have HG : Hid (Gx W w.heap.size r c s ws st) := h4
    have R0 : Hid (W.ownsRow (w6.heap.size + 2) 37 1 lv pre.length (Fls.flts (pre.map (vAt c L)))) := h3
    have zW := h6.size
    have q13 : w.heap.size + 1 + 1 + 1 < W.heap.size := World.block_lt_of_cell? W _ h1
    have H6 : Hid (Below w.heap.size w W) := h6
    clear h3 h4 h6 hz hcel hq hk hv hL hpre p0 p5 HA
    refine wpIn_block ?_
    refine Rf.region_lift (S := fun w' => w'.cell? ⟨w.heap.size + 1, 0, none⟩ = some (.slice (some ⟨bl, o, none⟩) n cap) ∧ w'.cell? ⟨b, 0, none⟩ = some (.int .i64 x1) ∧ w'.cell? ⟨b, 1, none⟩ = some (.int .i64 x2) ∧ w'.cell? ⟨w.heap.size, 1, none⟩ = some (.int .i64 c) ∧ w'.cell? ⟨bl, o + k, none⟩ = some (.float .f64 x)) (by kernel_rfl) (by rintro ⟨_, _, h⟩; exact h) (by kernel_rfl) ⟨h5, p1, p2, g1, hx⟩ (fun hHeld => ?_)
    refine wpAnyH_take (i := 1) (v := .slice (some ⟨bl, o, none⟩) n cap) rfl (by kernel_rfl) (by kernel_rfl) (by kernel_rfl) (fun _ _ _ h => h) (Or.inl ⟨by rfl, fun w0 hSw => ?_⟩) (by assumption) ?_
    · dsimp only at hSw
      go_simp
    refine wpAnyH_take (i := 2) (v := .pointer (some ⟨b, 0, none⟩)) rfl (by kernel_rfl) (by kernel_rfl) (by kernel_rfl) (fun _ _ _ h => h) (Or.inl ⟨by rfl, fun w0 hSw => ?_⟩) (by assumption) ?_
    · dsimp only at hSw
      go_simp
    refine wpAnyH_take (i := 3) (v := .int .i64 x1) rfl (by kernel_rfl) (by kernel_rfl) (by kernel_rfl) (fun _ _ _ h => h) (Or.inl ⟨by rfl, fun w0 hSw => ?_⟩) (by assumption) ?_
    · dsimp only at hSw
      go_simp
    refine wpAnyH_take (i := 4) (v := .pointer (some ⟨w.heap.size, 1, none⟩)) rfl (by kernel_rfl) (by kernel_rfl) (by kernel_rfl) (fun _ _ _ h => h) (Or.inl ⟨by rfl, fun w0 hSw => ?_⟩) (by assumption) ?_
    · dsimp only at hSw
      go_simp
    refine wpAnyH_take (i := 5) (v := .int .i64 c) rfl (by kernel_rfl) (by kernel_rfl) (by kernel_rfl) (fun _ _ _ h => h) (Or.inl ⟨by rfl, fun w0 hSw => ?_⟩) (by assumption) ?_
    · dsimp only at hSw
      go_simp
    refine wpAnyH_take (i := 6) (v := .int .i64 q) rfl (by kernel_rfl) (by kernel_rfl) (by kernel_rfl) (fun _ _ _ h => h) (Or.inl ⟨by rfl, fun w0 hSw => ?_⟩) (by assumption) ?_
    · dsimp only at hSw
      go_simp
    refine wpAnyH_take (i := 7) (v := .pointer (some ⟨b, 1, none⟩)) rfl (by kernel_rfl) (by kernel_rfl) (by kernel_rfl) (fun _ _ _ h => h) (Or.inl ⟨by rfl, fun w0 hSw => ?_⟩) (by assumption) ?_
    · dsimp only at hSw
      go_simp
    refine wpAnyH_take (i := 8) (v := .int .i64 x2) rfl (by kernel_rfl) (by kernel_rfl) (by kernel_rfl) (fun _ _ _ h => h) (Or.inl ⟨by rfl, fun w0 hSw => ?_⟩) (by assumption) ?_
    · dsimp only at hSw
      go_simp
    refine wpAnyH_take (i := 9) (v := .int .i64 (k : Int)) rfl (by kernel_rfl) (by kernel_rfl) (by kernel_rfl) (fun _ _ _ h => h) (Or.inl ⟨by rfl, fun w0 hSw => ?_⟩) (by assumption) ?_
    · dsimp only at hSw
      go_simp
    refine wpAnyH_take (i := 10) (v := .pointer (some ⟨bl, o + k, none⟩)) rfl (by kernel_rfl) (by kernel_rfl) (by kernel_rfl) (fun _ _ _ h => h) (Or.inl ⟨by rfl, fun w0 hSw => ?_⟩) (by assumption) ?_
    · dsimp only at hSw
      go_simp
    refine wpAnyH_take (i := 11) (v := .float .f64 x) rfl (by kernel_rfl) (by kernel_rfl) (by kernel_rfl) (fun _ _ _ h => h) (Or.inl ⟨by rfl, fun w0 hSw => ?_⟩) (by assumption) ?_
    · dsimp only at hSw
      go_simp
    obtain ⟨i0, hi0, hz0, hz1, hz2⟩ := info_parts Fls.Try.info37
    have RA : (W.drew.alloc (Obj.cells #[.float .f64 x] 37)).ownsRow (w6.heap.size + 2) 37 1 lv pre.length (Fls.flts (pre.map (vAt c L))) := World.ownsRow.alloc (w := W.drew) R0.out _
    have SA : ∀ o' : Obj, (fun w' : World => w'.cell? ⟨w.heap.size + 1, 0, none⟩ = some (.slice (some ⟨bl, o, none⟩) n cap) ∧ w'.cell? ⟨b, 0, none⟩ = some (.int .i64 x1) ∧ w'.cell? ⟨b, 1, none⟩ = some (.int .i64 x2) ∧ w'.cell? ⟨w.heap.size, 1, none⟩ = some (.int .i64 c) ∧ w'.cell? ⟨bl, o + k, none⟩ = some (.float .f64 x)) (W.drew.alloc o') := fun o' => by
      have hb : Below W.heap.size W (W.drew.alloc o') := ((Below.refl _ W).drew).alloc (Nat.le_refl _) _
      exact ⟨(hb.cell (p := ⟨w.heap.size + 1, 0, none⟩) (by show w.heap.size + 1 < _; omega)).trans h5, (hb.cell (p := ⟨b, 0, none⟩) b2).trans p1, (hb.cell (p := ⟨b, 1, none⟩) b2).trans p2, (hb.cell (p := ⟨w.heap.size, 1, none⟩) (by show w.heap.size < _; omega)).trans g1, (hb.cell (p := ⟨bl, o + k, none⟩) (by show bl < _; omega)).trans hx⟩
    have hbA : Below W.heap.size W (W.drew.alloc (Obj.cells #[.float .f64 x] 37)) := ((Below.refl _ W).drew).alloc (Nat.le_refl _) _
    have lA : (W.drew.alloc (Obj.cells #[.float .f64 x] 37)).cell? ⟨w.heap.size + 1 + 1 + 1, 0, none⟩ = some lv := (hbA.cell (p := ⟨w.heap.size + 1 + 1 + 1, 0, none⟩) q13).trans h1
    refine wpAnyH_ready (rs := [0, 12]) (by kernel_rfl) (by simp) ?_
    refine AllReadyH.cons rfl (fun K hK => ?_) (AllReadyH.cons rfl (fun K hK => ?_) AllReadyH.nil)
    · go_simp
      refine hK.out _ _ ⟨h5, p1, p2, g1, hx⟩ (fun hHeld => ?_)
      clear hK K
      refine wpAnyH_ready (rs := [12]) (by kernel_rfl) (by simp) ?_
      refine AllReadyH.cons rfl (fun K hK => ?_) AllReadyH.nil
      go_simp
      refine hK.out _ _ (SA _) (fun hHeld => ?_)
      clear hK K
      refine wpAnyH_ready (rs := [13]) (by kernel_rfl) (by simp) ?_
      refine AllReadyH.cons rfl (fun K hK => ?_) AllReadyH.nil
      refine step_append_lies _ (by rfl) _ _ 24 (by rfl) (w6.heap.size + 2) 37 i0 (.float .f64 0) 1 8 Try.underlying24 hi0 hz0 hz1 hz2 rfl (by decide) _ _ _ (by rfl) RA ⟨W.heap.size, 0, none⟩ 1 1 [.float .f64 x] (by rfl) rfl (cell_one_new W.drew (.float .f64 x) 37) (by intro u hu; simp at hu; subst hu; rfl) (by decide) (by unfold maxLen; omega) (by omega) (by simp; omega) (W.heap.size + 1) (by simp) ?_
      intro g2 cap3 w5 hown hgrow hat hlt5
      have far : ∀ kk, kk < W.heap.size → (∀ g, lv.ownBlock = some g → g ≠ kk) → w5.heap[kk]? = W.heap[kk]? := fun kk h1 h2 => (hgrow.block kk (by simp; omega) (fun e => h2 kk e.symm rfl)).trans (Below.heap_alloc W.drew _ kk h1)
      have fb := far b b2 nlb
      have f1 := far (w.heap.size + 1) (by omega) (fun g hg => by have := lge g hg; omega)
      have f0 := far w.heap.size (by omega) (fun g hg => by have := lge g hg; omega)
      have fl := far bl (by omega) (fun g hg => by have := lge g hg; omega)
      have f3 := far (w.heap.size + 1 + 1 + 1) (by omega) (fun g hg => by have := lge g hg; omega)
      refine hK.out _ _ ⟨(World.cell?_of_block f1).trans h5, (World.cell?_of_block fb).trans p1, (World.cell?_of_block fb).trans p2, (World.cell?_of_block f0).trans g1, (World.cell?_of_block fl).trans hx⟩ (fun hHeld => ?_)
      clear hK K
      have c5 : w5.cell? ⟨w.heap.size + 1 + 1 + 1, 0, none⟩ = some lv := (World.cell?_of_block f3).trans h1
      have r5 : w5.frozen? ⟨w.heap.size + 1 + 1 + 1, 0, none⟩ = false := (World.frozen?_of_block f3).trans h2
      refine wpAnyH_ready (rs := [14]) (by kernel_rfl) (by simp) ?_
      refine AllReadyH.cons rfl (fun K hK => ?_) AllReadyH.nil
      go_simp
      have nb1 : w.heap.size + 1 + 1 + 1 ≠ b := by omega
      have far2 : ∀ kk, kk ≠ w.heap.size + 1 + 1 + 1 → (w5.setCell ⟨w.heap.size + 1 + 1 + 1, 0, none⟩ (.slice (some ⟨g2, 0, none⟩) (pre.length + 1) cap3)).heap[kk]? = w5.heap[kk]? := fun kk hkk => Below.heap_setCell w5 ⟨w.heap.size + 1 + 1 + 1, 0, none⟩ _ kk (by simpa using hkk)
      have e1 := (far2 (w.heap.size + 1) (by omega)).trans f1
      have e0 := (far2 w.heap.size (by omega)).trans f0
      have eb := (far2 b (by omega)).trans fb
      have el := (far2 bl (by omega)).trans fl
      refine hK.out _ _ ⟨(World.cell?_of_block e1).trans h5, (World.cell?_of_block eb).trans p1, (World.cell?_of_block eb).trans p2, (World.cell?_of_block e0).trans g1, (World.cell?_of_block el).trans hx⟩ (fun hHeld => ?_)
      clear hK K
      refine wpAnyH_done (by kernel_rfl) ?_ _
      have bW5 : Below w.heap.size W w5 := (((Below.refl w.heap.size W).drew).alloc (by show w.heap.size ≤ W.heap.size; omega) _).grown hgrow (by simp; omega) (fun g hg => by have := lge g hg; omega)
      have sz5 := bW5.size
      have hge := (hown.lt g2 rfl).1
      refine ⟨⟨?_, fun kk hk1 hk2 => ?_⟩, _, World.cell?_setCell_same' _ _ _ (by rw [c5]; rfl), by rw [World.frozen?_setCell]; exact r5, ?_, ⟨(World.cell?_of_block e0).trans HG.out.1, (World.cell?_of_block e0).trans HG.out.2.1, (World.cell?_of_block e0).trans HG.out.2.2.1, (World.cell?_of_block e0).trans HG.out.2.2.2.1, (World.cell?_of_block e0).trans HG.out.2.2.2.2⟩, (World.cell?_of_block e1).trans h5, fun h0 => by simp at h0, H6.out.trans (bW5.setCell (p := ⟨w.heap.size + 1 + 1 + 1, 0, none⟩) (by show w.heap.size ≤ w.heap.size + 1 + 1 + 1; omega) _)⟩
      · simpa using sz5
      · exact (far2 kk (fun e => hk2 (Or.inl e))).trans (far kk hk1 (fun g hg e => hk2 (Or.inr (by have := lge g hg; omega))))
      · have e3 : (pre ++ [(x1, x2)]).length = pre.length + 1 := by simp
        have e4 : Fls.flts ((pre ++ [(x1, x2)]).map (vAt c L)) = Fls.flts (pre.map (vAt c L)) ++ [.float .f64 x] := by rw [List.map_append, List.map_singleton, hvA.out]; simp [Fls.flts]
        rw [e3, e4]
        refine hown.kept (row := some (w.heap.size + 1 + 1 + 1)) (Pr.grown_setCell (w := w5) ⟨rfl, rfl, rfl, Nat.le_refl _, fun _ _ _ => rfl⟩ 0 _) ?_
        exact Or.inr fun q => by
          have : g2 = w.heap.size + 1 + 1 + 1 := by simpa [Value.ownBlock] using q
          omega
    · go_simp
      refine hK.out _ _ (SA _) (fun hHeld => ?_)
      clear hK K
      refine wpAnyH_ready (rs := [0]) (by kernel_rfl) (by simp) ?_
      refine AllReadyH.cons rfl (fun K hK => ?_) AllReadyH.nil
      go_simp
      refine hK.out _ _ (SA _) (fun hHeld => ?_)
      clear hK K
      refine wpAnyH_ready (rs := [13]) (by kernel_rfl) (by simp) ?_
      refine AllReadyH.cons rfl (fun K hK => ?_) AllReadyH.nil
      refine step_append_lies _ (by rfl) _ _ 24 (by rfl) (w6.heap.size + 2) 37 i0 (.float .f64 0) 1 8 Try.underlying24 hi0 hz0 hz1 hz2 rfl (by decide) _ _ _ (by rfl) RA ⟨W.heap.size, 0, none⟩ 1 1 [.float .f64 x] (by rfl) rfl (cell_one_new W.drew (.float .f64 x) 37) (by intro u hu; simp at hu; subst hu; rfl) (by decide) (by unfold maxLen; omega) (by omega) (by simp; omega) (W.heap.size + 1) (by simp) ?_
      intro g2 cap3 w5 hown hgrow hat hlt5
      have far : ∀ kk, kk < W.heap.size → (∀ g, lv.ownBlock = some g → g ≠ kk) → w5.heap[kk]? = W.heap[kk]? := fun kk h1 h2 => (hgrow.block kk (by simp; omega) (fun e => h2 kk e.symm rfl)).trans (Below.heap_alloc W.drew _ kk h1)
      have fb := far b b2 nlb
      have f1 := far (w.heap.size + 1) (by omega) (fun g hg => by have := lge g hg; omega)
      have f0 := far w.heap.size (by omega) (fun g hg => by have := lge g hg; omega)
      have fl := far bl (by omega) (fun g hg => by have := lge g hg; omega)
      have f3 := far (w.heap.size + 1 + 1 + 1) (by omega) (fun g hg => by have := lge g hg; omega)
      refine hK.out _ _ ⟨(World.cell?_of_block f1).trans h5, (World.cell?_of_block fb).trans p1, (World.cell?_of_block fb).trans p2, (World.cell?_of_block f0).trans g1, (World.cell?_of_block fl).trans hx⟩ (fun hHeld => ?_)
      clear hK K
      have c5 : w5.cell? ⟨w.heap.size + 1 + 1 + 1, 0, none⟩ = some lv := (World.cell?_of_block f3).trans h1
      have r5 : w5.frozen? ⟨w.heap.size + 1 + 1 + 1, 0, none⟩ = false := (World.frozen?_of_block f3).trans h2
      refine wpAnyH_ready (rs := [14]) (by kernel_rfl) (by simp) ?_
      refine AllReadyH.cons rfl (fun K hK => ?_) AllReadyH.nil
      go_simp
      have nb1 : w.heap.size + 1 + 1 + 1 ≠ b := by omega
      have far2 : ∀ kk, kk ≠ w.heap.size + 1 + 1 + 1 → (w5.setCell ⟨w.heap.size + 1 + 1 + 1, 0, none⟩ (.slice (some ⟨g2, 0, none⟩) (pre.length + 1) cap3)).heap[kk]? = w5.heap[kk]? := fun kk hkk => Below.heap_setCell w5 ⟨w.heap.size + 1 + 1 + 1, 0, none⟩ _ kk (by simpa using hkk)
      have e1 := (far2 (w.heap.size + 1) (by omega)).trans f1
      have e0 := (far2 w.heap.size (by omega)).trans f0
      have eb := (far2 b (by omega)).trans fb
      have el := (far2 bl (by omega)).trans fl
      refine hK.out _ _ ⟨(World.cell?_of_block e1).trans h5, (World.cell?_of_block eb).trans p1, (World.cell?_of_block eb).trans p2, (World.cell?_of_block e0).trans g1, (World.cell?_of_block el).trans hx⟩ (fun hHeld => ?_)
      clear hK K
      refine wpAnyH_done (by kernel_rfl) ?_ _
      have bW5 : Below w.heap.size W w5 := (((Below.refl w.heap.size W).drew).alloc (by show w.heap.size ≤ W.heap.size; omega) _).grown hgrow (by simp; omega) (fun g hg => by have := lge g hg; omega)
      have sz5 := bW5.size
      have hge := (hown.lt g2 rfl).1
      refine ⟨⟨?_, fun kk hk1 hk2 => ?_⟩, _, World.cell?_setCell_same' _ _ _ (by rw [c5]; rfl), by rw [World.frozen?_setCell]; exact r5, ?_, ⟨(World.cell?_of_block e0).trans HG.out.1, (World.cell?_of_block e0).trans HG.out.2.1, (World.cell?_of_block e0).trans HG.out.2.2.1, (World.cell?_of_block e0).trans HG.out.2.2.2.1, (World.cell?_of_block e0).trans HG.out.2.2.2.2⟩, (World.cell?_of_block e1).trans h5, fun h0 => by simp at h0, H6.out.trans (bW5.setCell (p := ⟨w.heap.size + 1 + 1 + 1, 0, none⟩) (by show w.heap.size ≤ w.heap.size + 1 + 1 + 1; omega) _)⟩
      · simpa using sz5
      · exact (far2 kk (fun e => hk2 (Or.inl e))).trans (far kk hk1 (fun g hg e => hk2 (Or.inr (by have := lge g hg; omega))))
      · have e3 : (pre ++ [(x1, x2)]).length = pre.length + 1 := by simp
        have e4 : Fls.flts ((pre ++ [(x1, x2)]).map (vAt c L)) = Fls.flts (pre.map (vAt c L)) ++ [.float .f64 x] := by rw [List.map_append, List.map_singleton, hvA.out]; simp [Fls.flts]
        rw [e3, e4]
        refine hown.kept (row := some (w.heap.size + 1 + 1 + 1)) (Pr.grown_setCell (w := w5) ⟨rfl, rfl, rfl, Nat.le_refl _, fun _ _ _ => rfl⟩ 0 _) ?_
        exact Or.inr fun q => by
          have : g2 = w.heap.size + 1 + 1 + 1 := by simpa [Value.ownBlock] using q
          omega
  case done =>
    rintro D W hD ⟨lv, h1, h2, h3, h4, h5, -, h6⟩ hK
    have BE : Hid (Below w.heap.size w (W.putObj D (.deferred none))) := h6.trans ((Below.refl _ W).grown (grownBy_putObj' W D _) (by have := (Array.getElem?_eq_some_iff.1 hK).1; omega) (fun k e => by cases e; omega))
    have RE : Hid ((W.putObj D (.deferred none)).ownsRow w.heap.size 37 1 lv (nb r c i j).length (Fls.flts ((nb r c i j).map (vAt c L)))) := (by
      show World.ownsRow _ _ _ _ _ _ _
      have h7 := ownsRow_putObj h3 (.deferred none) hK rfl
      refine ⟨h7.1, ?_⟩
      rcases h7.2 with h | ⟨gx, cap, cur, q1, q2, q3⟩
      · exact .inl h
      · exact .inr ⟨gx, cap, cur, q1, by omega, q3⟩)
    clear h3 h4 h5
    gi_wp2
    refine ⟨by simp, .inl ⟨_, _, rfl, run_takeDeferred hK, ?_⟩⟩
    exact ⟨_, results_tmp rfl _ _ _, lv, rfl, RE.out, BE.out⟩
end Go.Proofs.Ytplichonohoacaa.Gd
