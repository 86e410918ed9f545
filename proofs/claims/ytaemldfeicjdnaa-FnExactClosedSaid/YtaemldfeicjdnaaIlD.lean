/- Whether a loop closes: the program. -/
import Derived.Test.YtaemldfeicjdnaaIlB
import Derived.Test.YtaemldfeicjdnaaEgN
import Derived.RangeFuncNested
import Derived.RangeFuncBound
import Derived.RangeFuncCalls
import Derived.RangeFuncLeaves
import Derived.Shelf.Abstract
import Derived.Shelf.RegionOpen
import Derived.WalkKit
import Derived.OwnWalkIn
import Derived.TacticsInMore
import Derived.LoopNIn
import Derived.LoopIn
namespace Go.Proofs.Ytaemldfeicjdnaa.Lp
open Go.ChangeShapes Go.WideShapes Go.ChangeAt Go.RowKit
open Go.Proofs.Ytaemldfeicjdnaa.Lists
attribute [local go_sem] Oper.semAt_some

def Pair2 (w : World) (b : Nat) (x y : Int) : Prop := w.cell? ⟨b, 0, none⟩ = some (.int .i64 x) ∧ w.cell? ⟨b, 1, none⟩ = some (.int .i64 y)
theorem Pair2.on {w w' : World} {B b : Nat} {x y : Int} (h : Pair2 w b x y) (hb : Below B w w') (hl : b < B) : Pair2 w' b x y := ⟨(hb.cell (p := ⟨b, 0, none⟩) hl).trans h.1, (hb.cell (p := ⟨b, 1, none⟩) hl).trans h.2⟩

set_option maxHeartbeats 1000000 in
theorem iclosed_no (x y : Int) (L : List Int) (v : Value) (w : World) (hL : Lists.Reads w v L) (hf : L.length < 9223372036854775808) (h : okL x y L = false) :
    Calls Try.prog 24 #[sv x y v] w fun e w' => e = .returned (.bool false) ∧ Below w.heap.size w w' := by
  have B0 : Hid (Below w.heap.size w (w.alloc (Obj.cells #[.int .i64 x, .int .i64 y, v] 41))) := (Below.refl _ _).alloc (Nat.le_refl _) _
  have OK : Hid (Calls Try.prog 31 #[sv x y v] (w.alloc (Obj.cells #[.int .i64 x, .int .i64 y, v] 41)) fun e w' => e = .returned (.bool false) ∧ Below (w.alloc (Obj.cells #[.int .i64 x, .int .i64 y, v] 41)).heap.size (w.alloc (Obj.cells #[.int .i64 x, .int .i64 y, v] 41)) w') := by
    have := ilok_any x y L v _ (hL.on B0.out) hf
    rwa [h] at this
  clear hL h
  go_enter Try.func24, Try.ntmps24
  go_wp2_with fail
  refine OK.out.mono ?_
  rintro e w1 ⟨rfl, b1⟩
  have B1 : Hid (Below w.heap.size w w1) := B0.out.trans (b1.mono B0.out.size)
  clear b1
  go_wp2_with fail
  go_ret
  exact ⟨rfl, B1.out⟩

set_option maxHeartbeats 1000000 in
theorem iclosed_yes (x y : Int) (L : List Int) (a : Option Addr) (cap : Nat) (w : World) (hL : Lists.Reads w (.slice a L.length cap) L) (hf : L.length < 9223372036854775808) (h : okL x y L = true) :
    Calls Try.prog 24 #[sv x y (.slice a L.length cap)] w fun e w' => e = .returned (.bool (decide (px x L L.length = x) && decide (py y L L.length = y))) ∧ Below w.heap.size w w' := by
  obtain ⟨w0, hw0⟩ : ∃ w0, w0 = w.alloc (Obj.cells #[.int .i64 x, .int .i64 y, .slice a L.length cap] 41) := ⟨_, rfl⟩
  have B0 : Below w.heap.size w w0 := by rw [hw0]; exact (Below.refl _ _).alloc (Nat.le_refl _) _
  have OK : Hid (Calls Try.prog 31 #[sv x y (.slice a L.length cap)] w0 fun e w' => e = .returned (.bool true) ∧ Below w0.heap.size w0 w') := by
    have := ilok_any x y L (.slice a L.length cap) w0 (hL.on B0) hf
    rwa [h] at this
  have b0 : w0.cell? ⟨w.heap.size, 0, none⟩ = some (.int .i64 x) := by rw [hw0]; simp [go_sem]
  have b1 : w0.cell? ⟨w.heap.size, 1, none⟩ = some (.int .i64 y) := by rw [hw0]; simp [go_sem]
  have b2 : w0.cell? ⟨w.heap.size, 2, none⟩ = some (.slice a L.length cap) := by rw [hw0]; simp [go_sem]
  have s0 : w0.heap.size = w.heap.size + 1 := by rw [hw0]; simp
  have HW : Hid (w0 = w.alloc (Obj.cells #[.int .i64 x, .int .i64 y, .slice a L.length cap] 41)) := hw0
  clear hw0
  refine (callsIn_wide (n := 5)).1 ?_
  refine callsIn_of_wp_marks Try.func24 rfl trivial ?_ rfl
  simp only [Try.ntmps24, List.size_toArray, List.length_cons, List.length_nil, Nat.reduceAdd, Nat.reduceSub, Array.replicate_succ, Array.replicate_zero, List.push_toArray, List.append_toArray, List.nil_append, List.cons_append]
  gi_wp2_with fail
  rw [← HW.out]
  refine ⟨trivial, (callsIn_wide.2 OK.out).mono ?_⟩
  rintro e w1 ⟨rfl, b3⟩
  have d0 := (b3.cell (p := ⟨w.heap.size, 0, none⟩) (by show w.heap.size < _; omega)).trans b0
  have d1 := (b3.cell (p := ⟨w.heap.size, 1, none⟩) (by show w.heap.size < _; omega)).trans b1
  have d2 := (b3.cell (p := ⟨w.heap.size, 2, none⟩) (by show w.heap.size < _; omega)).trans b2
  have s1 := b3.size
  have B1 : Below w.heap.size w w1 := B0.trans (b3.mono B0.size)
  obtain ⟨w2, hw2⟩ : ∃ w2, w2 = (w1.alloc (Obj.cells #[.int .i64 x, .int .i64 y] 60)).alloc (Obj.cells #[.int .i64 x, .int .i64 y] 60) := ⟨_, rfl⟩
  have b4 : Below w1.heap.size w1 w2 := by rw [hw2]; exact ((Below.refl _ _).alloc (Nat.le_refl _) _).alloc (by simp) _
  have s2 : w2.heap.size = w1.heap.size + 1 + 1 := by rw [hw2]; simp
  have c0 := (b4.cell (p := ⟨w.heap.size, 0, none⟩) (by show w.heap.size < _; omega)).trans d0
  have c1 := (b4.cell (p := ⟨w.heap.size, 1, none⟩) (by show w.heap.size < _; omega)).trans d1
  have c2 := (b4.cell (p := ⟨w.heap.size, 2, none⟩) (by show w.heap.size < _; omega)).trans d2
  have e0 : w2.cell? ⟨w1.heap.size, 0, none⟩ = some (.int .i64 x) ∧ w2.cell? ⟨w1.heap.size, 1, none⟩ = some (.int .i64 y) := by rw [hw2]; simp [go_sem]
  have e1 : w2.cell? ⟨w1.heap.size + 1, 0, none⟩ = some (.int .i64 x) ∧ w2.cell? ⟨w1.heap.size + 1, 1, none⟩ = some (.int .i64 y) := by rw [hw2]; simp [go_sem]
  have e2 : w2.frozen? ⟨w1.heap.size + 1, 0, none⟩ = false ∧ w2.frozen? ⟨w1.heap.size + 1, 1, none⟩ = false := by rw [hw2]; simp [go_sem]
  have B2 : Below w.heap.size w w2 := B1.trans (b4.mono B1.size)
  have HW2 : Hid (w2 = (w1.alloc (Obj.cells #[.int .i64 x, .int .i64 y] 60)).alloc (Obj.cells #[.int .i64 x, .int .i64 y] 60)) := hw2
  rw [hw2] at c0 c1 c2
  clear b0 b1 b2 b3 b4 HW OK hw2
  gi_wp2_with fail
  rw [← HW2.out]
  refine ⟨trivial, (along_in x y a L.length cap w2).mono ?_⟩
  rintro e w3 ⟨rfl, hw3⟩
  have b5 : Below w2.heap.size w2 w3 := by rw [hw3]; exact (Below.refl _ _).alloc (Nat.le_refl _) _
  have s3 : w3.heap.size = w2.heap.size + 1 := by rw [hw3]; simp
  have X3 : Box3 w3 w2.heap.size (.int .i64 x) (.int .i64 y) (.slice a L.length cap) := by rw [hw3]; unfold Box3; simp [go_sem]
  have G : Hid (Pair2 w3 w1.heap.size x y ∧ Pair2 w3 (w1.heap.size + 1) x y ∧ w3.frozen? ⟨w1.heap.size + 1, 0, none⟩ = false ∧ w3.frozen? ⟨w1.heap.size + 1, 1, none⟩ = false) :=
    ⟨Pair2.on e0 b5 (by omega), Pair2.on e1 b5 (by omega), (World.frozen?_of_block (b5.block (w1.heap.size + 1) (by omega))).trans e2.1, (World.frozen?_of_block (b5.block (w1.heap.size + 1) (by omega))).trans e2.2⟩
  have B3 : Below w.heap.size w w3 := B2.trans (b5.mono B2.size)
  clear c0 c1 c2 d0 d1 d2 HW2 e0 e1 e2 hw3 b5
  obtain ⟨l1, hx, hy, hd⟩ := ok_parts h
  gi_wp2_with fail
  refine Rf.rangeB rfl (by omega) (gf := 36) (lb := #[.pointer (some ⟨w1.heap.size + 1 + 1, 0, none⟩)]) rfl trivial (enters_of Try.func36 (by kernel_rfl) rfl)
    (Y := fun k => k = w1.heap.size + 1) (fun k e => by subst e; omega) (xs := way x y L L.length)
    (sides_seq x y L h a cap w hL (w1.heap.size + 1 + 1) w3 B3 (by omega) (by rw [← s2]; exact X3) _ (fun k e => by subst e; exact ⟨by omega, by omega⟩))
    (fun _ => rfl)
    (fun pre W => Pair2 W w1.heap.size x y ∧ Pair2 W (w1.heap.size + 1) (px x L pre.length) (py y L pre.length) ∧ (W.frozen? ⟨w1.heap.size + 1, 0, none⟩ = false ∧ W.frozen? ⟨w1.heap.size + 1, 1, none⟩ = false) ∧ Below w.heap.size w W)
    (fun s A C hs hb => ⟨Pair2.on hs.1 hb (by omega), Pair2.on hs.2.1 hb (by omega), ⟨(World.frozen?_of_block (hb.block (w1.heap.size + 1) (by omega))).trans hs.2.2.1.1, (World.frozen?_of_block (hb.block (w1.heap.size + 1) (by omega))).trans hs.2.2.1.2⟩, hs.2.2.2.trans (hb.mono (by omega))⟩)
    ⟨G.out.1, G.out.2.1, G.out.2.2, B3⟩
    (fun l e a' W => ∃ b, l < b ∧ Side e b W ∧ a' = { tmps := #[sv x y (.slice a L.length cap), .pointer (some ⟨w.heap.size, 0, none⟩), .bool false, .pointer (some ⟨w1.heap.size, 0, none⟩), .pointer (some ⟨w1.heap.size + 1, 0, none⟩), .pointer (some ⟨b, 0, none⟩), .agg #[.int .i64 x, .int .i64 y, .slice a L.length cap], .bool true, .bool false, .pointer (some ⟨w.heap.size, 0, none⟩), .int .i64 x, .pointer (some ⟨w.heap.size, 1, none⟩), .int .i64 y, .agg #[.int .i64 x, .int .i64 y], .agg #[.int .i64 x, .int .i64 y], .agg #[.int .i64 x, .int .i64 y, .slice a L.length cap], .func (.func 36) #[] #[.pointer (some ⟨w1.heap.size + 1 + 1, 0, none⟩)], .agg #[.int .i64 e.1, .int .i64 e.2.1, .int .i64 e.2.2], undef, undef, undef, undef, undef], defers := [] })
    (fun l e a' A C hA hb => by obtain ⟨b, h1, h2, h3⟩ := hA; exact ⟨b, h1, h2.but h1 hb, h3⟩)
    ?assign ?body ?done
  case assign =>
    intro l e W K hl hK
    gi_wp2
    exact hK _ _ ((Below.refl _ _).alloc (Nat.le_refl _) _) ⟨W.heap.size, hl, Side.new e W, rfl⟩
  case body =>
    rintro l pre e a' W hl ⟨hp1, hp2, ⟨f0, f1⟩, hB⟩ ⟨b, h1, ⟨h2, k0, k1, k2⟩, rfl⟩ hpre
    obtain ⟨hk, he⟩ := way_at hpre
    have EN : Hid (∀ w, Calls Try.prog 33 #[.agg #[.int .i64 e.1, .int .i64 e.2.1, .int .i64 e.2.2]] w fun e' w' => e' = .returned (.agg #[.int .i64 (px x L (pre.length + 1)), .int .i64 (py y L (pre.length + 1))]) ∧ Below w.heap.size w w') := fun w => by
      have q1 := px_le x L pre.length hx
      have q2 := py_le y L pre.length hy
      have q3 := hd pre.length hk
      have := end_any (px x L pre.length) (py y L pre.length) (L.getD pre.length 0) w q3.1 q3.2 (by omega) (by omega)
      rw [he, px, py]
      exact this
    have hlen : ∀ e : Int × Int × Int, Hid ((pre ++ [e]).length = pre.length + 1) := fun e => (by show _ = _; simp)
    have bne : w1.heap.size + 1 < b := by omega
    clear he hpre hL h X3 G B3 hd hx hy
    obtain ⟨gx, gy, gd⟩ := e
    simp only at k0 k1 k2
    gi_wp2_with fail
    refine ⟨trivial, (CallsIn.inRound l (callsIn_wide.2 (EN.out W))).mono ?_⟩
    rintro e' W4 ⟨rfl, b4⟩
    have zb : w1.heap.size + 1 < W.heap.size := by omega
    have hp3 := Pair2.on hp1 b4 (by omega)
    have hp4 := Pair2.on hp2 b4 zb
    have r0 := (World.frozen?_of_block (b4.block (w1.heap.size + 1) zb)).trans f0
    have r1 := (World.frozen?_of_block (b4.block (w1.heap.size + 1) zb)).trans f1
    have hB4 := hB.trans (b4.mono hB.size)
    have hbut : Rf.But (fun k => k = w1.heap.size + 1) W W4 := Rf.But.of_below b4
    clear k0 k1 k2 EN hp1 hp2 f0 f1 hB b4
    obtain ⟨v0, v1⟩ := hp4
    obtain ⟨u0, u1⟩ := hp3
    gi_wp2_with fail
    refine ⟨hbut.trans ((Rf.But.set (X := fun k => k = w1.heap.size + 1) _ rfl).trans (Rf.But.set (X := fun k => k = w1.heap.size + 1) _ rfl)), ⟨?_, ?_⟩, ?_, ⟨?_, ?_⟩, ?_⟩
    · simp [go_sem, u0]
    · simp [go_sem, u1]
    · show Pair2 _ _ (px x L (pre ++ [(gx, gy, gd)]).length) (py y L (pre ++ [(gx, gy, gd)]).length)
      rw [(hlen (gx, gy, gd)).out]
      exact ⟨by simp [go_sem, v0], by simp [go_sem, v1]⟩
    · simp [go_sem, r0]
    · simp [go_sem, r1]
    · exact (hB4.setCell (p := ⟨w1.heap.size + 1, 0, none⟩) (by show w.heap.size ≤ w1.heap.size + 1; omega) _).setCell (p := ⟨w1.heap.size + 1, 1, none⟩) (by show w.heap.size ≤ w1.heap.size + 1; omega) _
  case done =>
    rintro D W hD ⟨⟨u0, u1⟩, ⟨v0, v1⟩, -, hB⟩ hK
    rw [way_len] at v0 v1
    have BE : Hid (Below w.heap.size w (W.putObj D (.deferred none))) := hB.trans ((Below.refl _ W).grown (grownBy_putObj' W D _) (by have := (Array.getElem?_eq_some_iff.1 hK).1; omega) (fun k e => by cases e; omega))
    obtain ⟨ex, hex⟩ : ∃ ex, ex = px x L L.length := ⟨_, rfl⟩
    obtain ⟨ey, hey⟩ : ∃ ey, ey = py y L L.length := ⟨_, rfl⟩
    rw [← hex] at v0
    rw [← hey] at v1
    have HX : Hid (∀ b, (decide (ex = x) && decide (ey = y)) = b → (decide (px x L L.length = x) && decide (py y L L.length = y)) = b) := fun b hb => by rw [← hex, ← hey]; exact hb
    clear hL h X3 G B3 hd hx hy hex hey
    by_cases h1 : ex = x
    · by_cases h2 : ey = y
      · have q1 : (ex == x) = true := by simpa using h1
        have q2 : (ey == y) = true := by simpa using h2
        have e3 := HX.out true (by simp [h1, h2])
        clear h1 h2
        gi_wp2
        refine ⟨by simp, .inl ⟨_, _, rfl, run_takeDeferred hK, ?_⟩⟩
        exact ⟨_, results_tmp rfl _ _ _, by rw [e3]; rfl, BE.out⟩
      · have q1 : (ex == x) = true := by simpa using h1
        have q2 : (ey == y) = false := by simpa using h2
        have e3 := HX.out false (by simp [h2])
        clear h1 h2
        gi_wp2
        refine ⟨by simp, .inl ⟨_, _, rfl, run_takeDeferred hK, ?_⟩⟩
        exact ⟨_, results_tmp rfl _ _ _, by rw [e3]; rfl, BE.out⟩
    · have q1 : (ex == x) = false := by simpa using h1
      have e3 := HX.out false (by simp [h1])
      clear h1
      gi_wp2
      refine ⟨by simp, .inl ⟨_, _, rfl, run_takeDeferred hK, ?_⟩⟩
      exact ⟨_, results_tmp rfl _ _ _, by rw [e3]; rfl, BE.out⟩
theorem iclosed_any (x y : Int) (L : List Int) (v : Value) (w : World) (hL : Lists.Reads w v L) (hf : L.length < 9223372036854775808) :
    Calls Try.prog 24 #[sv x y v] w fun e w' => e = .returned (.bool (closedB x y L)) ∧ Below w.heap.size w w' := by
  unfold closedB
  cases h : okL x y L
  · exact iclosed_no x y L v w hL hf h
  · obtain ⟨a, cap, rfl⟩ := hL.form
    exact iclosed_yes x y L a cap w hL hf h
theorem closedAll (w : World) (x y : Int) (v : Value) (L : List Int) (hL : Lists.Reads w v L) (hf : L.length < 9223372036854775808) :
    Calls Try.prog 7 #[sv x y v] w fun e w' => e = .returned (.bool true) ∧ Below w.heap.size w w' :=
  closedLaw x y L v w hL hf (fun w v h => sclosed_any x y L v w h hf) (fun w v h _ => iclosed_any x y L v w h hf)
end Go.Proofs.Ytaemldfeicjdnaa.Lp
