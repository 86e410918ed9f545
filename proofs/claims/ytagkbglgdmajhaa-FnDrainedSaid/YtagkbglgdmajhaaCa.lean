/- The cells round a cell: the program. -/
import Derived.Test.YtagkbglgdmajhaaNbA
import Derived.Test.YtagkbglgdmajhaaRfW
import Derived.Deep.RegionHeldLaw
import Derived.Deep.AppendLies
import Derived.Maps.AppendAt
import Derived.RangeFuncBox
namespace Go.Proofs.Ytagkbglgdmajhaa.Gd
open Go.ChangeShapes Go.WideShapes Go.ChangeAt Go.RowKit
open Go.Proofs.Ytagkbglgdmajhaa.Bx (inn inn_iff i_in)
open Go.Proofs.Ytagkbglgdmajhaa.Lists (ints)
attribute [local go_sem] Oper.semAt_some

def pl (c : Int) (e : Int × Int) : Int := e.1 * c + e.2
theorem nb_in {r c i j : Int} {pre : List (Int × Int)} {e : Int × Int} (h : pre ++ [e] <+: nb r c i j) : there r c e.1 e.2 = true := by
  have : e ∈ nb r c i j := h.subset (by simp)
  unfold nb at this
  exact (List.mem_filter.1 this).2
theorem nb_le (r c i j : Int) : (nb r c i j).length ≤ 4 := by
  unfold nb
  exact Nat.le_trans (List.length_filter_le _ _) (by simp [cands])
theorem place_le {r c i j : Int} (h : there r c i j = true) (hc : 1 ≤ c) : 0 ≤ i * c ∧ i * c + c ≤ r * c ∧ 0 ≤ j ∧ j < c ∧ 0 ≤ i ∧ i < r := by
  unfold there at h
  simp only [Bool.and_eq_true, inn_iff] at h
  obtain ⟨⟨h1, h2⟩, h3, h4⟩ := h
  have e1 : 0 ≤ i * c := Int.mul_nonneg h1 (by omega)
  have e2 : (i + 1) * c ≤ r * c := Int.mul_le_mul_of_nonneg_right (by omega) (by omega)
  rw [Int.add_mul] at e2
  omega

set_option maxRecDepth 20000 in
set_option maxHeartbeats 4000000 in
theorem around_any (r c x : Int) (hr : 1 ≤ r ∧ r ≤ 24) (hc : 1 ≤ c ∧ c ≤ 24) (hx : 0 ≤ x ∧ x < r * c) (v : Value) (w : World) :
    Calls Try.prog 27 #[Bx.sv r c v, .int .i64 x] w fun e w' => ∃ v', e = .returned v' ∧ w'.ownsRow w.heap.size 2 1 v' (nb r c (x / c) (x % c)).length (ints ((nb r c (x / c) (x % c)).map (pl c))) ∧ Below w.heap.size w w' := by
  obtain ⟨r1, r2⟩ := hr
  obtain ⟨c1, c2⟩ := hc
  have rc : r * c ≤ 576 := (Bx.mul_le ⟨r1, r2⟩ ⟨c1, c2⟩).2
  obtain ⟨i, hi⟩ : ∃ i, x / c = i := ⟨_, rfl⟩
  obtain ⟨j, hj⟩ : ∃ j, x % c = j := ⟨_, rfl⟩
  have i1 : 0 ≤ i ∧ i < r := by
    rw [← hi]
    exact ⟨Int.ediv_nonneg hx.1 (by omega), (Int.ediv_lt_iff_lt_mul (by omega)).2 hx.2⟩
  have j1 : 0 ≤ j ∧ j < c := by
    rw [← hj]
    exact ⟨Int.emod_nonneg _ (by omega), Int.emod_lt_of_pos _ (by omega)⟩
  have td : x.tdiv c = i := by rw [← hi]; exact Int.tdiv_eq_ediv_of_nonneg hx.1
  have tm : x.tmod c = j := by rw [← hj]; exact Int.tmod_eq_emod_of_nonneg hx.1
  have cz : ¬ c = 0 := by omega
  have wi : IntKind.i64.wrap i = i := IntWalk.i64_in _ (by omega)
  rw [hi, hj]
  obtain ⟨w2, hw2⟩ : ∃ w2, w2 = (w.alloc (Obj.cells #[.int .i64 r, .int .i64 c, v] 28)).alloc (Obj.cells #[.slice none 0 0] 22) := ⟨_, rfl⟩
  have HW2 : Hid (w2 = (w.alloc (Obj.cells #[.int .i64 r, .int .i64 c, v] 28)).alloc (Obj.cells #[.slice none 0 0] 22)) := hw2
  have B2 : Below w.heap.size w w2 := by rw [hw2]; exact ((Below.refl _ _).alloc (Nat.le_refl _) _).alloc (by simp) _
  have s2 : w2.heap.size = w.heap.size + 1 + 1 := by rw [hw2]; simp
  have g0 : w2.cell? ⟨w.heap.size, 0, none⟩ = some (.int .i64 r) := by rw [hw2]; simp [go_sem]
  have g1 : w2.cell? ⟨w.heap.size, 1, none⟩ = some (.int .i64 c) := by rw [hw2]; simp [go_sem]
  have l2 : w2.cell? ⟨w.heap.size + 1, 0, none⟩ = some (.slice none 0 0) ∧ w2.frozen? ⟨w.heap.size + 1, 0, none⟩ = false := by rw [hw2]; simp [go_sem]
  clear hw2
  refine (callsIn_wide (n := 5)).1 ?_
  refine callsIn_of_wp_marks Try.func27 rfl trivial ?_ rfl
  simp only [Try.ntmps27, List.size_toArray, List.length_cons, List.length_nil, Nat.reduceAdd, Nat.reduceSub, Array.replicate_succ, Array.replicate_zero, List.push_toArray, List.append_toArray, List.nil_append, List.cons_append]
  gi_wp2_with fail
  rw [← HW2.out]
  refine Rf.region_norm (S := fun w' => w'.cell? ⟨w.heap.size, 0, none⟩ = some (.int .i64 r) ∧ w'.cell? ⟨w.heap.size, 1, none⟩ = some (.int .i64 c)) (by kernel_rfl) (by kernel_rfl) ⟨g0, g1⟩ (fun hHeld => ?_)
  refine wpAnyH_take (i := 0) (v := .pointer (some ⟨w.heap.size, 0, none⟩)) rfl (by kernel_rfl) (by kernel_rfl) (by kernel_rfl) (fun _ _ _ h => h) (Or.inl ⟨by rfl, fun w0 hSw => ?_⟩) (by assumption) ?_
  · dsimp only at hSw
    go_simp
  refine wpAnyH_take (i := 1) (v := .int .i64 r) rfl (by kernel_rfl) (by kernel_rfl) (by kernel_rfl) (fun _ _ _ h => h) (Or.inl ⟨by rfl, fun w0 hSw => ?_⟩) (by assumption) ?_
  · dsimp only at hSw
    go_simp
  refine wpAnyH_take (i := 2) (v := .pointer (some ⟨w.heap.size, 1, none⟩)) rfl (by kernel_rfl) (by kernel_rfl) (by kernel_rfl) (fun _ _ _ h => h) (Or.inl ⟨by rfl, fun w0 hSw => ?_⟩) (by assumption) ?_
  · dsimp only at hSw
    go_simp
  refine wpAnyH_take (i := 3) (v := .int .i64 c) rfl (by kernel_rfl) (by kernel_rfl) (by kernel_rfl) (fun _ _ _ h => h) (Or.inl ⟨by rfl, fun w0 hSw => ?_⟩) (by assumption) ?_
  · dsimp only at hSw
    go_simp
  refine wpAnyH_take (i := 4) (v := gv r c 0 0 0) rfl (by kernel_rfl) (by kernel_rfl) (by kernel_rfl) (fun _ _ _ h => h) (Or.inl ⟨by rfl, fun w0 hSw => ?_⟩) (by assumption) ?_
  · dsimp only at hSw
    go_simp
  refine wpAnyH_take (i := 5) (v := .int .i64 x) rfl (by kernel_rfl) (by kernel_rfl) (by kernel_rfl) (fun _ _ _ h => h) (Or.inl ⟨by rfl, fun w0 hSw => ?_⟩) (by assumption) ?_
  · dsimp only at hSw
    go_simp
  refine wpAnyH_take (i := 6) (v := .pointer (some ⟨w.heap.size, 1, none⟩)) rfl (by kernel_rfl) (by kernel_rfl) (by kernel_rfl) (fun _ _ _ h => h) (Or.inl ⟨by rfl, fun w0 hSw => ?_⟩) (by assumption) ?_
  · dsimp only at hSw
    go_simp
  refine wpAnyH_take (i := 7) (v := .int .i64 c) rfl (by kernel_rfl) (by kernel_rfl) (by kernel_rfl) (fun _ _ _ h => h) (Or.inl ⟨by rfl, fun w0 hSw => ?_⟩) (by assumption) ?_
  · dsimp only at hSw
    go_simp
  refine wpAnyH_take (i := 8) (v := .int .i64 i) rfl (by kernel_rfl) (by kernel_rfl) (by kernel_rfl) (fun _ _ _ h => h) (Or.inl ⟨by rfl, fun w0 hSw => ?_⟩) (by assumption) ?_
  · dsimp only at hSw
    go_simp
  refine wpAnyH_take (i := 9) (v := .int .i64 x) rfl (by kernel_rfl) (by kernel_rfl) (by kernel_rfl) (fun _ _ _ h => h) (Or.inl ⟨by rfl, fun w0 hSw => ?_⟩) (by assumption) ?_
  · dsimp only at hSw
    go_simp
  refine wpAnyH_take (i := 10) (v := .pointer (some ⟨w.heap.size, 1, none⟩)) rfl (by kernel_rfl) (by kernel_rfl) (by kernel_rfl) (fun _ _ _ h => h) (Or.inl ⟨by rfl, fun w0 hSw => ?_⟩) (by assumption) ?_
  · dsimp only at hSw
    go_simp
  refine wpAnyH_take (i := 11) (v := .int .i64 c) rfl (by kernel_rfl) (by kernel_rfl) (by kernel_rfl) (fun _ _ _ h => h) (Or.inl ⟨by rfl, fun w0 hSw => ?_⟩) (by assumption) ?_
  · dsimp only at hSw
    go_simp
  refine wpAnyH_take (i := 12) (v := .int .i64 j) rfl (by kernel_rfl) (by kernel_rfl) (by kernel_rfl) (fun _ _ _ h => h) (Or.inl ⟨by rfl, fun w0 hSw => ?_⟩) (by assumption) ?_
  · dsimp only at hSw
    go_simp
  refine wpAnyH_take (i := 13) (v := nd i j) rfl (by kernel_rfl) (by kernel_rfl) (by kernel_rfl) (fun _ _ _ h => h) (Or.inl ⟨by rfl, fun w0 hSw => ?_⟩) (by assumption) ?_
  · dsimp only at hSw
    go_simp
  refine wpAnyH_ready (rs := [14]) (by kernel_rfl) (by simp) ?_
  refine AllReadyH.cons rfl (fun K hK => ?_) AllReadyH.nil
  go_simp
  refine (callsIn_wide.1 (nbs_in r c 0 0 0 i j w2.drew)).mono ?_
  rintro e w6 ⟨rfl, hw6⟩
  have b6 : Below w2.heap.size w2 w6 := by rw [hw6]; exact ((Below.refl _ w2).drew.alloc (Nat.le_refl _) _).alloc (by show _ ≤ (World.alloc _ _).heap.size; simp) _
  have s6 : w6.heap.size = w2.heap.size + 1 + 1 := by rw [hw6]; simp
  have G6 : Gx w6 w2.heap.size r c 0 0 0 := by rw [hw6]; unfold Gx; simp [go_sem]
  have P6 : Pt w6 (w2.heap.size + 1) i j := by rw [hw6]; unfold Pt; simp [go_sem]
  have c6 := (b6.cell (p := ⟨w.heap.size, 1, none⟩) (by show w.heap.size < _; omega)).trans g1
  have d6 := (b6.cell (p := ⟨w.heap.size, 0, none⟩) (by show w.heap.size < _; omega)).trans g0
  have l6 := (b6.cell (p := ⟨w.heap.size + 1, 0, none⟩) (by show w.heap.size + 1 < _; omega)).trans l2.1
  have f6 := (World.frozen?_of_block (b6.block (w.heap.size + 1) (by omega))).trans l2.2
  have B6 : Below w.heap.size w w6 := B2.trans (b6.mono B2.size)
  refine hK.out _ _ ⟨d6, c6⟩ (fun hHeld => ?_)
  clear hK K
  refine wpAnyH_done (by kernel_rfl) ?_ _
  simp only [Rf.nrm, Exit.then]
  clear hw6 b6 HW2 g0 g1 l2 B2 td tm
  gi_wp2_with fail
  rw [show w2.drew.heap.size = w.heap.size + 1 + 1 from s2]
  rw [s2] at G6 P6 s6
  refine Rf.rangeG rfl (by omega) (gf := 40) (lb := #[.pointer (some ⟨w.heap.size + 1 + 1 + 1, 0, none⟩), .pointer (some ⟨w.heap.size + 1 + 1, 0, none⟩)]) rfl trivial (enters_of Try.func40 (by kernel_rfl) rfl)
    (Y := fun k => k = w.heap.size + 1 ∨ w6.heap.size + 2 ≤ k) ⟨fun h => by omega, fun h => by omega⟩ (xs := nb r c i j)
    (nb_seq r c 0 0 0 i j ⟨r1, by omega⟩ ⟨c1, by omega⟩ i1 j1 (w.heap.size + 1 + 1) (w.heap.size + 1 + 1 + 1) w6 G6 P6 (by omega) (by omega) _ (fun h => by omega))
    (fun _ => rfl)
    (fun pre W => ∃ lv, W.cell? ⟨w.heap.size + 1, 0, none⟩ = some lv ∧ W.frozen? ⟨w.heap.size + 1, 0, none⟩ = false ∧ W.ownsRow (w6.heap.size + 2) 2 1 lv pre.length (ints (pre.map (pl c))) ∧ W.cell? ⟨w.heap.size, 1, none⟩ = some (.int .i64 c) ∧ Below w.heap.size w W)
    ?stable ?start
    (fun l e a' W => ∃ b, l < b ∧ b < W.heap.size ∧ W.heap[b]? = some (Obj.cells #[.int .i64 e.1, .int .i64 e.2] 69) ∧ Pt W b e.1 e.2 ∧ a' = { tmps := #[Bx.sv r c v, .int .i64 x, .pointer (some ⟨w.heap.size, 0, none⟩), undef, .slice none 0 0, .pointer (some ⟨w.heap.size + 1, 0, none⟩), .pointer (some ⟨b, 0, none⟩), .pointer (some ⟨w.heap.size, 0, none⟩), .int .i64 r, .pointer (some ⟨w.heap.size, 1, none⟩), .int .i64 c, gv r c 0 0 0, .int .i64 x, .pointer (some ⟨w.heap.size, 1, none⟩), .int .i64 c, .int .i64 i, .int .i64 x, .pointer (some ⟨w.heap.size, 1, none⟩), .int .i64 c, .int .i64 j, nd i j, .func (.func 40) #[] #[.pointer (some ⟨w.heap.size + 1 + 1 + 1, 0, none⟩), .pointer (some ⟨w.heap.size + 1 + 1, 0, none⟩)], nd e.1 e.2, undef, undef, undef, undef, undef, undef, undef, undef, undef, undef, undef, undef], defers := [] })
    ?keeps ?assign ?body ?done
  case stable =>
    rintro pre A C ⟨lv, h1, h2, h3, h4, h6⟩ hg
    have hb : ∀ k, k < w6.heap.size → k < A.heap.size → C.heap[k]? = A.heap[k]? := fun k hk hk2 => hg.block k hk2 (fun q => by cases q; omega)
    have za := h6.size
    have q1 := World.block_lt_of_cell? A _ h1
    have q3 := World.block_lt_of_cell? A _ h4
    have z1 := hb (w.heap.size + 1) (by omega) q1
    have z3 := hb w.heap.size (by omega) q3
    refine ⟨lv, (World.cell?_of_block z1).trans h1, (World.frozen?_of_block z1).trans h2, ?_, (World.cell?_of_block z3).trans h4, h6.grown hg za (fun k e => by cases e; omega)⟩
    refine h3.kept hg ?_
    cases eo : lv.ownBlock with
    | none => exact Or.inl rfl
    | some k => exact Or.inr fun x => by have := (h3.lt k eo).1; cases x; omega
  case start => exact ⟨_, l6, f6, World.ownsRow_nil _ _ _ _, c6, B6⟩
  case keeps =>
    rintro l e a' A C ⟨b, h1, h2, h5, h3, h4⟩ hb
    have n1 : ¬ (b = l) := by omega
    exact ⟨b, h1, Nat.lt_of_lt_of_le h2 hb.size, (hb.same b h2 n1).trans h5, ⟨(hb.cell (p := ⟨b, 0, none⟩) h2 n1).trans h3.1, (hb.cell (p := ⟨b, 1, none⟩) h2 n1).trans h3.2⟩, h4⟩
  case assign =>
    intro l e W K hl hK
    gi_wp2
    exact hK _ _ ((Below.refl _ _).alloc (Nat.le_refl _) _) ⟨W.heap.size, hl, by simp, World.alloc_heap_new _ _, by unfold Pt; simp [go_sem], rfl⟩
  case body =>
    rintro l pre e a' W rfl hlW ⟨lv, h1, h2, h3, h4, h6⟩ ⟨b, b1, b2, b5, ⟨p1, p2⟩, rfl⟩ hpre
    obtain ⟨p0, p5, p3, p4, p6, p7⟩ := place_le (nb_in hpre) c1
    have hlen := hpre.length_le
    have h4n := nb_le r c i j
    simp at hlen
    obtain ⟨x1, x2⟩ := e
    simp only at p0 p3 p4 p5 p6 p7 p1 p2 b5
    have hvA : Hid (pl c (x1, x2) = x1 * c + x2) := rfl
    obtain ⟨q, hq⟩ : ∃ q, x1 * c = q := ⟨_, rfl⟩
    rw [hq] at p0 p5 hvA
    have nlb : ∀ g, lv.ownBlock = some g → g ≠ b := fun g hg he => by
      subst he
      rcases h3.2 with ⟨q1, _⟩ | ⟨g', cap', cur, q1, _, q2, _⟩
      · rw [q1] at hg; cases hg
      · rw [q1] at hg
        cases hg
        rw [b5] at q2
        cases q2
    have lge : ∀ g, lv.ownBlock = some g → w6.heap.size + 2 ≤ g := fun g hg => (h3.lt g hg).1
    have NLH : Hid (∀ g, lv.ownBlock = some g → g ≠ b) := nlb
    have LGH : Hid (∀ g, lv.ownBlock = some g → w6.heap.size + 2 ≤ g) := lge
    have R0 : Hid (W.ownsRow (w6.heap.size + 2) 2 1 lv pre.length (ints (pre.map (pl c)))) := h3
    have zW : Hid (w.heap.size ≤ W.heap.size) := h6.size
    have q13 : w.heap.size + 1 < W.heap.size := World.block_lt_of_cell? W _ h1
    have H6 : Hid (Below w.heap.size w W) := h6
    obtain ⟨i0, hi0, hz0, hz1, hz2⟩ := info_parts Lists.Try.info2
    clear h3 h6 hpre nlb lge b5
    refine wpIn_block ?_
    gi_wp2_with (gi_at_builtin; refine wpListIn_append_own _ rfl _ _ 22 rfl (w6.heap.size + 2) 2 i0 (.int .i64 0) 1 8 Try.underlying22 hi0 hz0 hz1 hz2 rfl (by decide) _ _ _ rfl (R0.out.alloc _) ⟨W.heap.size, 0, none⟩ 1 1 [.int .i64 (q + x2)] rfl rfl (cell_one_new W (.int .i64 (q + x2)) 2) (by intro u hu; simp at hu; subst hu; rfl) (by unfold maxLen; omega) (by omega) (by simp; omega) ?_)
    intro v' w5 hown hgrow _
    obtain ⟨ga, gc, hv'⟩ : ∃ ga gc, v' = .slice ga (pre.length + 1) gc := by
      rcases hown.2 with ⟨h, h'⟩ | ⟨g, cc, cur, h, _⟩
      · omega
      · exact ⟨_, _, h⟩
    subst hv'
    have far : ∀ kk, kk < W.heap.size → (∀ g, lv.ownBlock = some g → g ≠ kk) → w5.heap[kk]? = W.heap[kk]? := fun kk h1 h2 => (hgrow.block kk (by simp; omega) (fun e => h2 kk e.symm rfl)).trans (Below.heap_alloc W _ kk h1)
    have f0 := far w.heap.size (by omega) (fun g hg => by have := LGH.out g hg; omega)
    have f3 := far (w.heap.size + 1) q13 (fun g hg => by have := LGH.out g hg; omega)
    have c5 : w5.cell? ⟨w.heap.size + 1, 0, none⟩ = some lv := (World.cell?_of_block f3).trans h1
    have r5 : w5.frozen? ⟨w.heap.size + 1, 0, none⟩ = false := (World.frozen?_of_block f3).trans h2
    have bW5 : Below w.heap.size W w5 := ((Below.refl w.heap.size W).alloc (by have := zW.out; omega) _).grown hgrow (by simp; have := zW.out; omega) (fun g hg => by have := LGH.out g hg; omega)
    have FAR : Hid (∀ kk, kk < W.heap.size → (∀ g, lv.ownBlock = some g → g ≠ kk) → w5.heap[kk]? = W.heap[kk]?) := far
    have far2 : ∀ kk, kk ≠ w.heap.size + 1 → (w5.setCell ⟨w.heap.size + 1, 0, none⟩ (.slice ga (pre.length + 1) gc)).heap[kk]? = w5.heap[kk]? := fun kk hkk => Below.heap_setCell w5 ⟨w.heap.size + 1, 0, none⟩ _ kk (by simpa using hkk)
    have E0 : Hid ((w5.setCell ⟨w.heap.size + 1, 0, none⟩ (.slice ga (pre.length + 1) gc)).cell? ⟨w.heap.size, 1, none⟩ = some (.int .i64 c)) := (World.cell?_of_block ((far2 w.heap.size (by omega)).trans f0)).trans h4
    have BN : Hid (Rf.But (fun k => k = w.heap.size + 1 ∨ w6.heap.size + 2 ≤ k) W (w5.setCell ⟨w.heap.size + 1, 0, none⟩ (.slice ga (pre.length + 1) gc))) := ⟨by have := bW5.size; simpa using this, fun kk hk1 hk2 => (far2 kk (fun e => hk2 (Or.inl e))).trans (far kk hk1 (fun g hg e => hk2 (Or.inr (by have := LGH.out g hg; omega))))⟩
    have CN : Hid ((w5.setCell ⟨w.heap.size + 1, 0, none⟩ (.slice ga (pre.length + 1) gc)).cell? ⟨w.heap.size + 1, 0, none⟩ = some (.slice ga (pre.length + 1) gc)) := World.cell?_setCell_same' _ _ _ (by rw [c5]; rfl)
    have FN : Hid ((w5.setCell ⟨w.heap.size + 1, 0, none⟩ (.slice ga (pre.length + 1) gc)).frozen? ⟨w.heap.size + 1, 0, none⟩ = false) := (by show _ = _; rw [World.frozen?_setCell]; exact r5)
    have RN : Hid ((w5.setCell ⟨w.heap.size + 1, 0, none⟩ (.slice ga (pre.length + 1) gc)).ownsRow (w6.heap.size + 2) 2 1 (.slice ga (pre.length + 1) gc) (pre ++ [(x1, x2)]).length (ints ((pre ++ [(x1, x2)]).map (pl c)))) := (by
      show World.ownsRow _ _ _ _ _ _ _
      have e4 : ints ((pre ++ [(x1, x2)]).map (pl c)) = ints (pre.map (pl c)) ++ [.int .i64 (q + x2)] := by rw [List.map_append, List.map_singleton, hvA.out]; simp [ints]
      rw [e4, List.length_append, List.length_singleton]
      have hown' : w5.ownsRow (w6.heap.size + 2) 2 1 (.slice ga (pre.length + 1) gc) (pre.length + 1) (ints (pre.map (pl c)) ++ [.int .i64 (q + x2)]) := by rw [s6]; simpa [ints] using hown
      refine hown'.kept (row := some (w.heap.size + 1)) (Lists.grown_setCell (w := w5) ⟨rfl, rfl, rfl, Nat.le_refl _, fun _ _ _ => rfl⟩ 0 _) ?_
      cases eo : (Value.slice ga (pre.length + 1) gc).ownBlock with
      | none => exact Or.inl rfl
      | some k => exact Or.inr fun x => by have := (hown'.lt k eo).1; cases x; omega)
    have B9 : Hid (Below w.heap.size w (w5.setCell ⟨w.heap.size + 1, 0, none⟩ (.slice ga (pre.length + 1) gc))) := H6.out.trans (bW5.setCell (p := ⟨w.heap.size + 1, 0, none⟩) (by show w.heap.size ≤ w.heap.size + 1; omega) _)
    clear hown hgrow far far2 f0 f3 bW5 h1 h2 h4
    gi_wp2_with fail
    exact ⟨BN.out, _, CN.out, FN.out, RN.out, E0.out, B9.out⟩
  case done =>
    rintro D W hD ⟨lv, h1, h2, h3, h4, h6⟩ hK
    have BE : Hid (Below w.heap.size w (W.putObj D (.deferred none))) := h6.trans ((Below.refl _ W).grown (grownBy_putObj' W D _) (by have := (Array.getElem?_eq_some_iff.1 hK).1; omega) (fun k e => by cases e; omega))
    have RE : Hid ((W.putObj D (.deferred none)).ownsRow w.heap.size 2 1 lv (nb r c i j).length (ints ((nb r c i j).map (pl c)))) := (by
      show World.ownsRow _ _ _ _ _ _ _
      have h7 := ownsRow_putObj h3 (.deferred none) hK rfl
      refine ⟨h7.1, ?_⟩
      rcases h7.2 with h | ⟨gx, cap, cur, q1, q2, q3⟩
      · exact .inl h
      · exact .inr ⟨gx, cap, cur, q1, by omega, q3⟩)
    clear h3 h4
    gi_wp2
    refine ⟨by simp, .inl ⟨_, _, rfl, run_takeDeferred hK, ?_⟩⟩
    exact ⟨_, results_tmp rfl _ _ _, lv, rfl, RE.out, BE.out⟩
end Go.Proofs.Ytagkbglgdmajhaa.Gd
