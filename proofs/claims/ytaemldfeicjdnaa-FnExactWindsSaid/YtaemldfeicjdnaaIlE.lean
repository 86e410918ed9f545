/- How often a loop goes round a cell: the program. -/
import Derived.Test.YtaemldfeicjdnaaIlB
import Derived.Test.YtaemldfeicjdnaaEgM
import Derived.RangeFuncNested
import Derived.RangeFuncBound
import Derived.RangeFuncCalls
import Derived.RangeFuncLeaves
import Derived.Shelf.Abstract
import Derived.Shelf.RegionOpen
import Derived.WalkKit
import Derived.OwnWalkIn
import Derived.TacticsInMore
import Derived.LoopNIn
import Derived.LoopIn
namespace Go.Proofs.Ytaemldfeicjdnaa.Lp
open Go.ChangeShapes Go.WideShapes Go.ChangeAt Go.RowKit
open Go.Proofs.Ytaemldfeicjdnaa.Lists
attribute [local go_sem] Oper.semAt_some

set_option maxHeartbeats 1000000 in
theorem iwinds_no (x y : Int) (L : List Int) (v : Value) (ii jj : Int) (w : World) (hL : Lists.Reads w v L) (hf : L.length < 9223372036854775808) (h : okL x y L = false) :
    Calls Try.prog 22 #[sv x y v, .int .i64 ii, .int .i64 jj] w fun e w' => e = .returned (.int .i64 0) ∧ Below w.heap.size w w' := by
  have B0 : Hid (Below w.heap.size w (((w.alloc (Obj.cells #[.int .i64 x, .int .i64 y, v] 41)).alloc (Obj.cells #[.int .i64 ii] 2)).alloc (Obj.cells #[.int .i64 jj] 2))) := (((Below.refl _ _).alloc (Nat.le_refl _) _).alloc (by simp) _).alloc (by simp; omega) _
  have OK : Hid (Calls Try.prog 31 #[sv x y v] (((w.alloc (Obj.cells #[.int .i64 x, .int .i64 y, v] 41)).alloc (Obj.cells #[.int .i64 ii] 2)).alloc (Obj.cells #[.int .i64 jj] 2)) fun e w' => e = .returned (.bool false) ∧ Below (((w.alloc (Obj.cells #[.int .i64 x, .int .i64 y, v] 41)).alloc (Obj.cells #[.int .i64 ii] 2)).alloc (Obj.cells #[.int .i64 jj] 2)).heap.size (((w.alloc (Obj.cells #[.int .i64 x, .int .i64 y, v] 41)).alloc (Obj.cells #[.int .i64 ii] 2)).alloc (Obj.cells #[.int .i64 jj] 2)) w') := by
    have := ilok_any x y L v _ (hL.on B0.out) hf
    rwa [h] at this
  clear hL h
  go_enter Try.func22, Try.ntmps22
  go_wp2_with fail
  refine OK.out.mono ?_
  rintro e w1 ⟨rfl, b1⟩
  have B1 : Hid (Below w.heap.size w w1) := B0.out.trans (b1.mono B0.out.size)
  clear b1
  go_wp2_with fail
  go_ret
  exact ⟨rfl, B1.out⟩

set_option maxHeartbeats 1000000 in
theorem iwinds_yes (x y : Int) (L : List Int) (a : Option Addr) (cap : Nat) (ii jj : Int) (w : World) (hL : Lists.Reads w (.slice a L.length cap) L) (hf : L.length < 9223372036854775808) (h : okL x y L = true) :
    Calls Try.prog 22 #[sv x y (.slice a L.length cap), .int .i64 ii, .int .i64 jj] w fun e w' => e = .returned (.int .i64 (wd (way x y L L.length) ii jj L.length)) ∧ Below w.heap.size w w' := by
  obtain ⟨w0, hw0⟩ : ∃ w0, w0 = (((w.alloc (Obj.cells #[.int .i64 x, .int .i64 y, .slice a L.length cap] 41)).alloc (Obj.cells #[.int .i64 ii] 2)).alloc (Obj.cells #[.int .i64 jj] 2)) := ⟨_, rfl⟩
  have B0 : Below w.heap.size w w0 := by rw [hw0]; exact (((Below.refl _ _).alloc (Nat.le_refl _) _).alloc (by simp) _).alloc (by simp; omega) _
  have OK : Hid (Calls Try.prog 31 #[sv x y (.slice a L.length cap)] w0 fun e w' => e = .returned (.bool true) ∧ Below w0.heap.size w0 w') := by
    have := ilok_any x y L (.slice a L.length cap) w0 (hL.on B0) hf
    rwa [h] at this
  have b0 : w0.cell? ⟨w.heap.size, 0, none⟩ = some (.int .i64 x) := by rw [hw0]; simp [go_sem]
  have b1 : w0.cell? ⟨w.heap.size, 1, none⟩ = some (.int .i64 y) := by rw [hw0]; simp [go_sem]
  have b2 : w0.cell? ⟨w.heap.size, 2, none⟩ = some (.slice a L.length cap) := by rw [hw0]; simp [go_sem]
  have bi : w0.cell? ⟨w.heap.size + 1, 0, none⟩ = some (.int .i64 ii) := by rw [hw0]; simp [go_sem]
  have bj : w0.cell? ⟨w.heap.size + 1 + 1, 0, none⟩ = some (.int .i64 jj) := by rw [hw0]; simp [go_sem]
  have s0 : w0.heap.size = w.heap.size + 1 + 1 + 1 := by rw [hw0]; simp
  have HW : Hid (w0 = (((w.alloc (Obj.cells #[.int .i64 x, .int .i64 y, .slice a L.length cap] 41)).alloc (Obj.cells #[.int .i64 ii] 2)).alloc (Obj.cells #[.int .i64 jj] 2))) := hw0
  clear hw0
  refine (callsIn_wide (n := 5)).1 ?_
  refine callsIn_of_wp_marks Try.func22 rfl trivial ?_ rfl
  simp only [Try.ntmps22, List.size_toArray, List.length_cons, List.length_nil, Nat.reduceAdd, Nat.reduceSub, Array.replicate_succ, Array.replicate_zero, List.push_toArray, List.append_toArray, List.nil_append, List.cons_append]
  gi_wp2_with fail
  rw [← HW.out]
  refine ⟨trivial, (callsIn_wide.2 OK.out).mono ?_⟩
  rintro e w1 ⟨rfl, b3⟩
  have d0 := (b3.cell (p := ⟨w.heap.size, 0, none⟩) (by show w.heap.size < _; omega)).trans b0
  have d1 := (b3.cell (p := ⟨w.heap.size, 1, none⟩) (by show w.heap.size < _; omega)).trans b1
  have d2 := (b3.cell (p := ⟨w.heap.size, 2, none⟩) (by show w.heap.size < _; omega)).trans b2
  have di := (b3.cell (p := ⟨w.heap.size + 1, 0, none⟩) (by show w.heap.size + 1 < _; omega)).trans bi
  have dj := (b3.cell (p := ⟨w.heap.size + 1 + 1, 0, none⟩) (by show w.heap.size + 1 + 1 < _; omega)).trans bj
  have s1 := b3.size
  have B1 : Below w.heap.size w w1 := B0.trans (b3.mono B0.size)
  obtain ⟨w2, hw2⟩ : ∃ w2, w2 = w1.alloc (Obj.cells #[.int .i64 0] 2) := ⟨_, rfl⟩
  have b4 : Below w1.heap.size w1 w2 := by rw [hw2]; exact (Below.refl _ _).alloc (Nat.le_refl _) _
  have s2 : w2.heap.size = w1.heap.size + 1 := by rw [hw2]; simp
  have c0 := (b4.cell (p := ⟨w.heap.size, 0, none⟩) (by show w.heap.size < _; omega)).trans d0
  have c1 := (b4.cell (p := ⟨w.heap.size, 1, none⟩) (by show w.heap.size < _; omega)).trans d1
  have c2 := (b4.cell (p := ⟨w.heap.size, 2, none⟩) (by show w.heap.size < _; omega)).trans d2
  have ci := (b4.cell (p := ⟨w.heap.size + 1, 0, none⟩) (by show w.heap.size + 1 < _; omega)).trans di
  have cj := (b4.cell (p := ⟨w.heap.size + 1 + 1, 0, none⟩) (by show w.heap.size + 1 + 1 < _; omega)).trans dj
  have e0 : w2.cell? ⟨w1.heap.size, 0, none⟩ = some (.int .i64 0) := by rw [hw2]; simp [go_sem]
  have e1 : w2.frozen? ⟨w1.heap.size, 0, none⟩ = false := by rw [hw2]; simp [go_sem]
  have B2 : Below w.heap.size w w2 := B1.trans (b4.mono B1.size)
  have HW2 : Hid (w2 = w1.alloc (Obj.cells #[.int .i64 0] 2)) := hw2
  rw [hw2] at c0 c1 c2
  clear b0 b1 b2 bi bj b3 b4 HW OK hw2 d0 d1 d2 di dj
  gi_wp2_with fail
  rw [← HW2.out]
  refine ⟨trivial, (along_in x y a L.length cap w2).mono ?_⟩
  rintro e w3 ⟨rfl, hw3⟩
  have b5 : Below w2.heap.size w2 w3 := by rw [hw3]; exact (Below.refl _ _).alloc (Nat.le_refl _) _
  have s3 : w3.heap.size = w2.heap.size + 1 := by rw [hw3]; simp
  have X3 : Box3 w3 w2.heap.size (.int .i64 x) (.int .i64 y) (.slice a L.length cap) := by rw [hw3]; unfold Box3; simp [go_sem]
  have G : Hid (w3.cell? ⟨w1.heap.size, 0, none⟩ = some (.int .i64 0) ∧ w3.frozen? ⟨w1.heap.size, 0, none⟩ = false ∧ w3.cell? ⟨w.heap.size + 1, 0, none⟩ = some (.int .i64 ii) ∧ w3.cell? ⟨w.heap.size + 1 + 1, 0, none⟩ = some (.int .i64 jj)) :=
    ⟨(b5.cell (p := ⟨w1.heap.size, 0, none⟩) (by show w1.heap.size < _; omega)).trans e0, (World.frozen?_of_block (b5.block w1.heap.size (by omega))).trans e1, (b5.cell (p := ⟨w.heap.size + 1, 0, none⟩) (by show w.heap.size + 1 < _; omega)).trans ci, (b5.cell (p := ⟨w.heap.size + 1 + 1, 0, none⟩) (by show w.heap.size + 1 + 1 < _; omega)).trans cj⟩
  have B3 : Below w.heap.size w w3 := B2.trans (b5.mono B2.size)
  clear c0 c1 c2 ci cj HW2 e0 e1 hw3 b5
  obtain ⟨l1, hx, hy, hd⟩ := ok_parts h
  gi_wp2_with fail
  refine Rf.rangeB rfl (by omega) (gf := 36) (lb := #[.pointer (some ⟨w1.heap.size + 1, 0, none⟩)]) rfl trivial (enters_of Try.func36 (by kernel_rfl) rfl)
    (Y := fun k => k = w1.heap.size) (fun k e => by subst e; omega) (xs := way x y L L.length)
    (sides_seq x y L h a cap w hL (w1.heap.size + 1) w3 B3 (by omega) (by rw [← s2]; exact X3) _ (fun k e => by subst e; exact ⟨by omega, by omega⟩))
    (fun _ => rfl)
    (fun pre W => W.cell? ⟨w1.heap.size, 0, none⟩ = some (.int .i64 (wd (way x y L L.length) ii jj pre.length)) ∧ W.frozen? ⟨w1.heap.size, 0, none⟩ = false ∧ (W.cell? ⟨w.heap.size + 1, 0, none⟩ = some (.int .i64 ii) ∧ W.cell? ⟨w.heap.size + 1 + 1, 0, none⟩ = some (.int .i64 jj)) ∧ Below w.heap.size w W)
    (fun s A C hs hb => ⟨(hb.cell (p := ⟨w1.heap.size, 0, none⟩) (by show w1.heap.size < _; omega)).trans hs.1, (World.frozen?_of_block (hb.block w1.heap.size (by omega))).trans hs.2.1, ⟨(hb.cell (p := ⟨w.heap.size + 1, 0, none⟩) (by show w.heap.size + 1 < _; omega)).trans hs.2.2.1.1, (hb.cell (p := ⟨w.heap.size + 1 + 1, 0, none⟩) (by show w.heap.size + 1 + 1 < _; omega)).trans hs.2.2.1.2⟩, hs.2.2.2.trans (hb.mono (by omega))⟩)
    ⟨G.out.1, G.out.2.1, G.out.2.2, B3⟩
    (fun l e a' W => ∃ b, l < b ∧ Side e b W ∧ a' = { tmps := #[sv x y (.slice a L.length cap), .int .i64 ii, .int .i64 jj, .pointer (some ⟨w.heap.size, 0, none⟩), .pointer (some ⟨w.heap.size + 1, 0, none⟩), .pointer (some ⟨w.heap.size + 1 + 1, 0, none⟩), .int .i64 0, .pointer (some ⟨w1.heap.size, 0, none⟩), .pointer (some ⟨b, 0, none⟩), .agg #[.int .i64 x, .int .i64 y, .slice a L.length cap], .bool true, .bool false, .agg #[.int .i64 x, .int .i64 y, .slice a L.length cap], .func (.func 36) #[] #[.pointer (some ⟨w1.heap.size + 1, 0, none⟩)], .agg #[.int .i64 e.1, .int .i64 e.2.1, .int .i64 e.2.2], undef, undef, undef, undef, undef, undef, undef, undef, undef, undef, undef, undef, undef, undef, undef, undef, undef, undef, undef, undef, undef, undef, undef, undef, undef, undef, undef, undef, undef, undef, undef, undef, undef], defers := [] })
    (fun l e a' A C hA hb => by obtain ⟨b, h1, h2, h3⟩ := hA; exact ⟨b, h1, h2.but h1 hb, h3⟩)
    ?assign ?body ?done
  case assign =>
    intro l e W K hl hK
    gi_wp2
    exact hK _ _ ((Below.refl _ _).alloc (Nat.le_refl _) _) ⟨W.heap.size, hl, Side.new e W, rfl⟩
  case body =>
    rintro l pre e a' W hl ⟨hc, hf', ⟨ki, kj⟩, hB⟩ ⟨b, h1, ⟨h2, k0, k1, k2⟩, rfl⟩ hpre
    obtain ⟨hk, he⟩ := way_at hpre
    obtain ⟨e0, e1, e2⟩ := way_c (x := x) (y := y) (L := L) hk
    have EA : Hid (wd (way x y L L.length) ii jj (pre ++ [e]).length = wd (way x y L L.length) ii jj pre.length + if e.2.2 = 1 ∧ jj < e.1 ∧ e.2.1 = ii then 1 else if e.2.2 = 3 ∧ jj < e.1 ∧ e.2.1 - 1 = ii then -1 else 0) := (by
      show _ = _
      rw [List.length_append, List.length_singleton, wd, e0, e1, e2, he])
    have a4 := wd_le (way x y L L.length) ii jj pre.length
    have EN : Hid (e.2.2 = 3 → ∀ w, Calls Try.prog 33 #[.agg #[.int .i64 e.1, .int .i64 e.2.1, .int .i64 e.2.2]] w fun e' w' => e' = .returned (.agg #[.int .i64 e.1, .int .i64 (e.2.1 - 1)]) ∧ Below w.heap.size w w') := fun h3 w => by
      have q1 := px_le x L pre.length hx
      have q2 := py_le y L pre.length hy
      have q3 := hd pre.length hk
      have := end_any (px x L pre.length) (py y L pre.length) (L.getD pre.length 0) w q3.1 q3.2 (by omega) (by omega)
      rw [he] at h3 ⊢
      simp only at h3 ⊢
      rw [h3] at this ⊢
      have z0 : dx 3 = 0 := rfl
      have z1 : dy 3 = -1 := rfl
      rw [z0, z1, Int.add_zero, ← Int.sub_eq_add_neg] at this
      exact this
    have bne : w1.heap.size < b := by omega
    clear he hpre hL h X3 G B3 hd hx hy e0 e1 e2
    obtain ⟨gx, gy, gd⟩ := e
    have EB : Hid (wd (way x y L L.length) ii jj (pre ++ [(gx, gy, gd)]).length = wd (way x y L L.length) ii jj pre.length + if gd = 1 ∧ jj < gx ∧ gy = ii then 1 else if gd = 3 ∧ jj < gx ∧ gy - 1 = ii then -1 else 0) := EA.out
    simp only at k0 k1 k2 EN
    clear EA
    generalize wd (way x y L L.length) ii jj pre.length = s at *
    have KEEP : Hid (∀ V, Rf.But (fun k => k = w1.heap.size) W V → Below W.heap.size W V → wd (way x y L L.length) ii jj (pre ++ [(gx, gy, gd)]).length = s → Rf.But (fun k => k = w1.heap.size) W V ∧ V.cell? ⟨w1.heap.size, 0, none⟩ = some (.int .i64 (wd (way x y L L.length) ii jj (pre ++ [(gx, gy, gd)]).length)) ∧ V.frozen? ⟨w1.heap.size, 0, none⟩ = false ∧ (V.cell? ⟨w.heap.size + 1, 0, none⟩ = some (.int .i64 ii) ∧ V.cell? ⟨w.heap.size + 1 + 1, 0, none⟩ = some (.int .i64 jj)) ∧ Below w.heap.size w V) := fun V hV bV er =>
      ⟨hV, by rw [er]; exact (bV.cell (p := ⟨w1.heap.size, 0, none⟩) (by show w1.heap.size < _; omega)).trans hc, (World.frozen?_of_block (bV.block w1.heap.size (by omega))).trans hf', ⟨(bV.cell (p := ⟨w.heap.size + 1, 0, none⟩) (by show w.heap.size + 1 < _; omega)).trans ki, (bV.cell (p := ⟨w.heap.size + 1 + 1, 0, none⟩) (by show w.heap.size + 1 + 1 < _; omega)).trans kj⟩, hB.trans (bV.mono hB.size)⟩
    have SETS : Hid (∀ V u, Below W.heap.size W V → wd (way x y L L.length) ii jj (pre ++ [(gx, gy, gd)]).length = u → Rf.But (fun k => k = w1.heap.size) W (V.setCell ⟨w1.heap.size, 0, none⟩ (.int .i64 u)) ∧ (V.setCell ⟨w1.heap.size, 0, none⟩ (.int .i64 u)).cell? ⟨w1.heap.size, 0, none⟩ = some (.int .i64 (wd (way x y L L.length) ii jj (pre ++ [(gx, gy, gd)]).length)) ∧ (V.setCell ⟨w1.heap.size, 0, none⟩ (.int .i64 u)).frozen? ⟨w1.heap.size, 0, none⟩ = false ∧ ((V.setCell ⟨w1.heap.size, 0, none⟩ (.int .i64 u)).cell? ⟨w.heap.size + 1, 0, none⟩ = some (.int .i64 ii) ∧ (V.setCell ⟨w1.heap.size, 0, none⟩ (.int .i64 u)).cell? ⟨w.heap.size + 1 + 1, 0, none⟩ = some (.int .i64 jj)) ∧ Below w.heap.size w (V.setCell ⟨w1.heap.size, 0, none⟩ (.int .i64 u))) := fun V u bV er => by
      have n1 : (⟨w1.heap.size, 0, none⟩ : Addr).block ≠ (⟨w.heap.size + 1, 0, none⟩ : Addr).block := by show w1.heap.size ≠ w.heap.size + 1; omega
      have n2 : (⟨w1.heap.size, 0, none⟩ : Addr).block ≠ (⟨w.heap.size + 1 + 1, 0, none⟩ : Addr).block := by show w1.heap.size ≠ w.heap.size + 1 + 1; omega
      refine ⟨(Rf.But.of_below bV).trans (Rf.But.set (X := fun k => k = w1.heap.size) _ rfl), ?_, ?_, ⟨?_, ?_⟩, ?_⟩
      · rw [er]; exact World.cell?_setCell_same' _ _ _ (by rw [(bV.cell (p := ⟨w1.heap.size, 0, none⟩) (by show w1.heap.size < _; omega)).trans hc]; rfl)
      · rw [World.frozen?_setCell]; exact (World.frozen?_of_block (bV.block w1.heap.size (by omega))).trans hf'
      · rw [World.cell?_setCell_far _ _ _ _ n1]; exact (bV.cell (p := ⟨w.heap.size + 1, 0, none⟩) (by show w.heap.size + 1 < _; omega)).trans ki
      · rw [World.cell?_setCell_far _ _ _ _ n2]; exact (bV.cell (p := ⟨w.heap.size + 1 + 1, 0, none⟩) (by show w.heap.size + 1 + 1 < _; omega)).trans kj
      · exact (hB.trans (bV.mono hB.size)).setCell (p := ⟨w1.heap.size, 0, none⟩) (by show w.heap.size ≤ w1.heap.size; omega) _
    have hmx : Try.prog.follows .mixedOrders = true := by kernel_rfl
    have h33 : Fence.wide.fn 33 := trivial
    have hbd : Below W.heap.size W W.drew := ⟨rfl, rfl, rfl, Nat.le_refl _, fun _ _ => rfl⟩
    by_cases hj : gx ≤ jj
    · have er : wd (way x y L L.length) ii jj (pre ++ [(gx, gy, gd)]).length = s := by rw [EB.out, if_neg (by omega), if_neg (by omega)]; omega
      have q1 : decide (gx ≤ jj) = true := by simpa using hj
      gi_wp2
      exact KEEP.out W (Rf.But.refl _ _) (Below.refl _ _) er
    · have q1 : decide (gx ≤ jj) = false := by simpa using hj
      by_cases h1' : gd = 1
      · subst h1'
        by_cases hy' : gy = ii
        · subst hy'
          have er : wd (way x y L L.length) gy jj (pre ++ [(gx, gy, 1)]).length = s + 1 := by rw [EB.out, if_pos ⟨rfl, by omega, rfl⟩]
          have j1 : wrap64 (s + 1) = s + 1 := IntWalk.wrap64_in _ (by omega)
          gi_wp2
          exact SETS.out W (s + 1) (Below.refl _ _) er
        · have er : wd (way x y L L.length) ii jj (pre ++ [(gx, gy, 1)]).length = s := by rw [EB.out, if_neg (by omega), if_neg (by omega)]; omega
          have q2 : (gy == ii) = false := by simpa using hy'
          gi_wp2
          gi_region
          all_goals gi_wp2
          all_goals exact KEEP.out W.drew (Rf.But.of_below hbd) hbd er
      · have q3 : (gd == 1) = false := by simpa using h1'
        by_cases h3' : gd = 3
        · subst h3'
          have EM : Hid (∀ V, Below W.heap.size W V → Calls Try.prog 33 #[.agg #[.int .i64 gx, .int .i64 gy, .int .i64 3]] V fun e' w' => e' = .returned (.agg #[.int .i64 gx, .int .i64 (gy - 1)]) ∧ w'.cell? ⟨w.heap.size + 1, 0, none⟩ = some (.int .i64 ii) ∧ w'.cell? ⟨w1.heap.size, 0, none⟩ = some (.int .i64 s) ∧ w'.frozen? ⟨w1.heap.size, 0, none⟩ = false ∧ Below W.heap.size W w') := fun V hV => by
            refine (EN.out rfl V).mono ?_
            rintro e' w' ⟨rfl, b'⟩
            have b2 : Below W.heap.size W w' := hV.trans (b'.mono hV.size)
            exact ⟨rfl, (b2.cell (p := ⟨w.heap.size + 1, 0, none⟩) (by show w.heap.size + 1 < _; omega)).trans ki, (b2.cell (p := ⟨w1.heap.size, 0, none⟩) (by show w1.heap.size < _; omega)).trans hc, (World.frozen?_of_block (b2.block w1.heap.size (by omega))).trans hf', b2⟩
          clear EN
          have hfd : ∀ w : World, (Instr.field 60 (.agg #[.int .i64 gx, .int .i64 (gy - 1)]) 1).run Try.prog w = .ok (.int .i64 (gy - 1)) w := fun _ => by kernel_rfl
          by_cases hy' : gy - 1 = ii
          · have er : wd (way x y L L.length) ii jj (pre ++ [(gx, gy, 3)]).length = s - 1 := by rw [EB.out, if_neg (by omega), if_pos ⟨rfl, by omega, hy'⟩]; omega
            have j1 : wrap64 (s - 1) = s - 1 := IntWalk.wrap64_in _ (by omega)
            have q5 : (gy - 1 == ii) = true := by simpa using hy'
            clear hy'
            gi_wp2
            gi_region_with_o (gi_at_call 33; refine (CallsIn.inRound l (callsIn_wide.2 (EM.out _ hbd))).mono ?_; rintro e' w' ⟨rfl, ki2, hc2, hf2, b2⟩)
            all_goals gi_wp2
            all_goals exact SETS.out _ (s - 1) b2 er
          · have er : wd (way x y L L.length) ii jj (pre ++ [(gx, gy, 3)]).length = s := by rw [EB.out, if_neg (by omega), if_neg (by omega)]; omega
            have q5 : (gy - 1 == ii) = false := by simpa using hy'
            clear hy'
            gi_wp2
            gi_region_with_o (gi_at_call 33; refine (CallsIn.inRound l (callsIn_wide.2 (EM.out _ hbd))).mono ?_; rintro e' w' ⟨rfl, ki2, hc2, hf2, b2⟩)
            all_goals gi_wp2
            all_goals exact KEEP.out _ (Rf.But.of_below b2) b2 er
        · have q4 : (gd == 3) = false := by simpa using h3'
          have er : wd (way x y L L.length) ii jj (pre ++ [(gx, gy, gd)]).length = s := by rw [EB.out, if_neg (by omega), if_neg (by omega)]; omega
          gi_wp2
          gi_region
          all_goals gi_wp2
          all_goals exact KEEP.out W.drew (Rf.But.of_below hbd) hbd er
  case done =>
    rintro D W hD ⟨hc, -, -, hB⟩ hK
    rw [way_len] at hc
    gi_wp2
    refine ⟨by simp, .inl ⟨_, _, rfl, run_takeDeferred hK, ?_⟩⟩
    refine ⟨_, results_tmp rfl _ _ _, rfl, ?_⟩
    exact hB.trans ((Below.refl _ W).grown (grownBy_putObj' W D _) (by have := (Array.getElem?_eq_some_iff.1 hK).1; omega) (fun k e => by cases e; omega))
end Go.Proofs.Ytaemldfeicjdnaa.Lp
