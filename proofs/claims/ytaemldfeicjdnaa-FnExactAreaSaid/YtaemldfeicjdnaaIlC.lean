/- The area of a loop: the program. -/
import Derived.Test.YtaemldfeicjdnaaIlB
import Derived.Test.YtaemldfeicjdnaaEgL
import Derived.RangeFuncNested
import Derived.RangeFuncBound
import Derived.RangeFuncCalls
import Derived.RangeFuncLeaves
import Derived.Shelf.Abstract
import Derived.Shelf.RegionOpen
import Derived.WalkKit
import Derived.OwnWalkIn
import Derived.TacticsInMore
import Derived.LoopNIn
import Derived.LoopIn
namespace Go.Proofs.Ytaemldfeicjdnaa.Lp
open Go.ChangeShapes Go.WideShapes Go.ChangeAt Go.RowKit
open Go.Proofs.Ytaemldfeicjdnaa.Lists
attribute [local go_sem] Oper.semAt_some

set_option maxHeartbeats 1000000 in
theorem iarea_no (x y : Int) (L : List Int) (v : Value) (w : World) (hL : Lists.Reads w v L) (hf : L.length < 9223372036854775808) (h : okL x y L = false) :
    Calls Try.prog 19 #[sv x y v] w fun e w' => e = .returned (.int .i64 0) ∧ Below w.heap.size w w' := by
  have B0 : Hid (Below w.heap.size w (w.alloc (Obj.cells #[.int .i64 x, .int .i64 y, v] 41))) := (Below.refl _ _).alloc (Nat.le_refl _) _
  have OK : Hid (Calls Try.prog 31 #[sv x y v] (w.alloc (Obj.cells #[.int .i64 x, .int .i64 y, v] 41)) fun e w' => e = .returned (.bool false) ∧ Below (w.alloc (Obj.cells #[.int .i64 x, .int .i64 y, v] 41)).heap.size (w.alloc (Obj.cells #[.int .i64 x, .int .i64 y, v] 41)) w') := by
    have := ilok_any x y L v _ (hL.on B0.out) hf
    rwa [h] at this
  clear hL h
  go_enter Try.func19, Try.ntmps19
  go_wp2_with fail
  refine OK.out.mono ?_
  rintro e w1 ⟨rfl, b1⟩
  have B1 : Hid (Below w.heap.size w w1) := B0.out.trans (b1.mono B0.out.size)
  clear b1
  go_wp2_with fail
  go_ret
  exact ⟨rfl, B1.out⟩

set_option maxHeartbeats 1000000 in
theorem iarea_yes (x y : Int) (L : List Int) (a : Option Addr) (cap : Nat) (w : World) (hL : Lists.Reads w (.slice a L.length cap) L) (hf : L.length < 9223372036854775808) (h : okL x y L = true) :
    Calls Try.prog 19 #[sv x y (.slice a L.length cap)] w fun e w' => e = .returned (.int .i64 (ar (way x y L L.length) L.length)) ∧ Below w.heap.size w w' := by
  obtain ⟨w0, hw0⟩ : ∃ w0, w0 = w.alloc (Obj.cells #[.int .i64 x, .int .i64 y, .slice a L.length cap] 41) := ⟨_, rfl⟩
  have B0 : Below w.heap.size w w0 := by rw [hw0]; exact (Below.refl _ _).alloc (Nat.le_refl _) _
  have OK : Hid (Calls Try.prog 31 #[sv x y (.slice a L.length cap)] w0 fun e w' => e = .returned (.bool true) ∧ Below w0.heap.size w0 w') := by
    have := ilok_any x y L (.slice a L.length cap) w0 (hL.on B0) hf
    rwa [h] at this
  have b0 : w0.cell? ⟨w.heap.size, 0, none⟩ = some (.int .i64 x) := by rw [hw0]; simp [go_sem]
  have b1 : w0.cell? ⟨w.heap.size, 1, none⟩ = some (.int .i64 y) := by rw [hw0]; simp [go_sem]
  have b2 : w0.cell? ⟨w.heap.size, 2, none⟩ = some (.slice a L.length cap) := by rw [hw0]; simp [go_sem]
  have s0 : w0.heap.size = w.heap.size + 1 := by rw [hw0]; simp
  have HW : Hid (w0 = w.alloc (Obj.cells #[.int .i64 x, .int .i64 y, .slice a L.length cap] 41)) := hw0
  clear hw0
  refine (callsIn_wide (n := 5)).1 ?_
  refine callsIn_of_wp_marks Try.func19 rfl trivial ?_ rfl
  simp only [Try.ntmps19, List.size_toArray, List.length_cons, List.length_nil, Nat.reduceAdd, Nat.reduceSub, Array.replicate_succ, Array.replicate_zero, List.push_toArray, List.append_toArray, List.nil_append, List.cons_append]
  gi_wp2_with fail
  rw [← HW.out]
  refine ⟨trivial, (callsIn_wide.2 OK.out).mono ?_⟩
  rintro e w1 ⟨rfl, b3⟩
  have d0 := (b3.cell (p := ⟨w.heap.size, 0, none⟩) (by show w.heap.size < _; omega)).trans b0
  have d1 := (b3.cell (p := ⟨w.heap.size, 1, none⟩) (by show w.heap.size < _; omega)).trans b1
  have d2 := (b3.cell (p := ⟨w.heap.size, 2, none⟩) (by show w.heap.size < _; omega)).trans b2
  have s1 := b3.size
  have B1 : Below w.heap.size w w1 := B0.trans (b3.mono B0.size)
  obtain ⟨w2, hw2⟩ : ∃ w2, w2 = w1.alloc (Obj.cells #[.int .i64 0] 2) := ⟨_, rfl⟩
  have b4 : Below w1.heap.size w1 w2 := by rw [hw2]; exact (Below.refl _ _).alloc (Nat.le_refl _) _
  have s2 : w2.heap.size = w1.heap.size + 1 := by rw [hw2]; simp
  have c0 := (b4.cell (p := ⟨w.heap.size, 0, none⟩) (by show w.heap.size < _; omega)).trans d0
  have c1 := (b4.cell (p := ⟨w.heap.size, 1, none⟩) (by show w.heap.size < _; omega)).trans d1
  have c2 := (b4.cell (p := ⟨w.heap.size, 2, none⟩) (by show w.heap.size < _; omega)).trans d2
  have e0 : w2.cell? ⟨w1.heap.size, 0, none⟩ = some (.int .i64 0) := by rw [hw2]; simp [go_sem]
  have e1 : w2.frozen? ⟨w1.heap.size, 0, none⟩ = false := by rw [hw2]; simp [go_sem]
  have B2 : Below w.heap.size w w2 := B1.trans (b4.mono B1.size)
  have HW2 : Hid (w2 = w1.alloc (Obj.cells #[.int .i64 0] 2)) := hw2
  rw [hw2] at c0 c1 c2
  clear b0 b1 b2 b3 b4 HW OK hw2
  gi_wp2_with fail
  rw [← HW2.out]
  refine ⟨trivial, (along_in x y a L.length cap w2).mono ?_⟩
  rintro e w3 ⟨rfl, hw3⟩
  have b5 : Below w2.heap.size w2 w3 := by rw [hw3]; exact (Below.refl _ _).alloc (Nat.le_refl _) _
  have s3 : w3.heap.size = w2.heap.size + 1 := by rw [hw3]; simp
  have X3 : Box3 w3 w2.heap.size (.int .i64 x) (.int .i64 y) (.slice a L.length cap) := by rw [hw3]; unfold Box3; simp [go_sem]
  have g0 := (b5.cell (p := ⟨w1.heap.size, 0, none⟩) (by show w1.heap.size < _; omega)).trans e0
  have g1 := (World.frozen?_of_block (b5.block w1.heap.size (by omega))).trans e1
  have B3 : Below w.heap.size w w3 := B2.trans (b5.mono B2.size)
  clear c0 c1 c2 d0 d1 d2 HW2 e0 e1 hw3 b5
  have hn : Near (way x y L L.length) := by have := wayL_near x y L; simpa [wayL, h] using this
  gi_wp2_with fail
  refine Rf.rangeB rfl (by omega) (gf := 36) (lb := #[.pointer (some ⟨w1.heap.size + 1, 0, none⟩)]) rfl trivial (enters_of Try.func36 (by kernel_rfl) rfl)
    (Y := fun k => k = w1.heap.size) (fun k e => by subst e; omega) (xs := way x y L L.length)
    (sides_seq x y L h a cap w hL (w1.heap.size + 1) w3 B3 (by omega) (by rw [← s2]; exact X3) _ (fun k e => by subst e; exact ⟨by omega, by omega⟩))
    (fun _ => rfl)
    (fun pre W => W.cell? ⟨w1.heap.size, 0, none⟩ = some (.int .i64 (ar (way x y L L.length) pre.length)) ∧ W.frozen? ⟨w1.heap.size, 0, none⟩ = false ∧ Below w.heap.size w W)
    (fun s A C hs hb => ⟨(hb.cell (p := ⟨w1.heap.size, 0, none⟩) (by show w1.heap.size < _; omega)).trans hs.1, (World.frozen?_of_block (hb.block w1.heap.size (by omega))).trans hs.2.1, hs.2.2.trans (hb.mono (by omega))⟩)
    ⟨by simpa [ar] using g0, g1, B3⟩
    (fun l e a' W => ∃ b, l < b ∧ Side e b W ∧ a' = { tmps := #[sv x y (.slice a L.length cap), .pointer (some ⟨w.heap.size, 0, none⟩), .int .i64 0, .pointer (some ⟨w1.heap.size, 0, none⟩), .pointer (some ⟨b, 0, none⟩), .agg #[.int .i64 x, .int .i64 y, .slice a L.length cap], .bool true, .bool false, .agg #[.int .i64 x, .int .i64 y, .slice a L.length cap], .func (.func 36) #[] #[.pointer (some ⟨w1.heap.size + 1, 0, none⟩)], .agg #[.int .i64 e.1, .int .i64 e.2.1, .int .i64 e.2.2], undef, undef, undef, undef, undef, undef, undef, undef, undef, undef, undef, undef, undef, undef, undef, undef, undef], defers := [] })
    (fun l e a' A C hA hb => by obtain ⟨b, h1, h2, h3⟩ := hA; exact ⟨b, h1, h2.but h1 hb, h3⟩)
    ?assign ?body ?done
  case assign =>
    intro l e W K hl hK
    gi_wp2
    exact hK _ _ ((Below.refl _ _).alloc (Nat.le_refl _) _) ⟨W.heap.size, hl, Side.new e W, rfl⟩
  case body =>
    rintro l pre e a' W hl ⟨hc, hf', hB⟩ ⟨b, h1, ⟨h2, k0, k1, k2⟩, rfl⟩ hpre
    obtain ⟨hk, he⟩ := way_at hpre
    obtain ⟨e0, e1, e2⟩ := way_c (x := x) (y := y) (L := L) hk
    have a1 := ar_le hn pre.length (by rw [way_len]; omega)
    have a2 := hn.2 pre.length (by rw [way_len]; omega)
    rw [e0] at a2
    have l1 := hn.1
    rw [way_len] at l1
    have EA : Hid (ar (way x y L L.length) (pre ++ [e]).length = ar (way x y L L.length) pre.length + if e.2.2 = 1 then e.1 else if e.2.2 = 3 then - e.1 else 0) := (by
      show _ = _
      rw [List.length_append, List.length_singleton, ar, e0, e2, he])
    have a3 : -1002000 ≤ e.1 ∧ e.1 ≤ 1002000 := by rw [he]; exact ⟨a2.1, a2.2.1⟩
    have a4 : -1002000 * 2000 ≤ ar (way x y L L.length) pre.length ∧ ar (way x y L L.length) pre.length ≤ 1002000 * 2000 := by omega
    clear he e0 e1 e2 a1 a2 hn hpre hL h X3 g0 g1 B3
    generalize ar (way x y L L.length) pre.length = s at *
    obtain ⟨gx, gy, gd⟩ := e
    have EB : Hid (ar (way x y L L.length) (pre ++ [(gx, gy, gd)]).length = s + if gd = 1 then gx else if gd = 3 then - gx else 0) := EA.out
    simp only at k0 k1 k2 a3
    clear EA
    have bne : w1.heap.size < b := by omega
    by_cases h1' : gd = 1
    · subst h1'
      have j1 : wrap64 (s + gx) = s + gx := IntWalk.wrap64_in _ (by omega)
      have er : ar (way x y L L.length) (pre ++ [(gx, gy, 1)]).length = s + gx := EB.out
      gi_wp2
      exact ⟨Rf.But.set _ rfl, by rw [er]; exact World.cell?_setCell_same' _ _ _ (by rw [hc]; rfl), by rw [World.frozen?_setCell]; exact hf', hB.setCell (p := ⟨w1.heap.size, 0, none⟩) (by show w.heap.size ≤ w1.heap.size; omega) _⟩
    · by_cases h3' : gd = 3
      · subst h3'
        have j1 : wrap64 (s - gx) = s - gx := IntWalk.wrap64_in _ (by omega)
        have er : ar (way x y L L.length) (pre ++ [(gx, gy, 3)]).length = s - gx := by rw [EB.out, if_neg (by decide), if_pos rfl]; omega
        gi_wp2
        exact ⟨Rf.But.set _ rfl, by rw [er]; exact World.cell?_setCell_same' _ _ _ (by rw [hc]; rfl), by rw [World.frozen?_setCell]; exact hf', hB.setCell (p := ⟨w1.heap.size, 0, none⟩) (by show w.heap.size ≤ w1.heap.size; omega) _⟩
      · have er : ar (way x y L L.length) (pre ++ [(gx, gy, gd)]).length = s := by rw [EB.out, if_neg h1', if_neg h3']; omega
        gi_wp2
        exact ⟨Rf.But.refl _ _, by rw [er]; exact hc, hf', hB⟩
  case done =>
    rintro D W hD ⟨hc, hf', hB⟩ hK
    rw [way_len] at hc
    gi_wp2
    refine ⟨by simp, .inl ⟨_, _, rfl, run_takeDeferred hK, ?_⟩⟩
    refine ⟨_, results_tmp rfl _ _ _, rfl, ?_⟩
    exact hB.trans ((Below.refl _ W).grown (grownBy_putObj' W D _) (by have := (Array.getElem?_eq_some_iff.1 hK).1; omega) (fun k e => by cases e; omega))
theorem iarea_any (x y : Int) (L : List Int) (v : Value) (w : World) (hL : Lists.Reads w v L) (hf : L.length < 9223372036854775808) :
    Calls Try.prog 19 #[sv x y v] w fun e w' => e = .returned (.int .i64 (ar (wayL x y L) (wayL x y L).length)) ∧ Below w.heap.size w w' := by
  unfold wayL
  cases h : okL x y L
  · exact iarea_no x y L v w hL hf h
  · obtain ⟨a, cap, rfl⟩ := hL.form
    simp only [if_true, way_len]
    exact iarea_yes x y L a cap w hL hf h
theorem areaAll (w : World) (x y : Int) (v : Value) (L : List Int) (hL : Lists.Reads w v L) (hf : L.length < 9223372036854775808) :
    Calls Try.prog 5 #[sv x y v] w fun e w' => e = .returned (.bool true) ∧ Below w.heap.size w w' :=
  areaLaw x y L v w hL hf (fun w v h => sarea_any x y L v w h hf) (fun w v h _ => iarea_any x y L v w h hf)
end Go.Proofs.Ytaemldfeicjdnaa.Lp
