/- Two spans that are drawn from a code, for Overlap. -/
import Derived.Test.YtdnmedgcoflcdaaDraw
import Derived.Deep.RegionWith
import Derived.Deep.RegionHeld3
import Derived.Deep.DrawnRows
import Derived.Deep.Cut
import Derived.Deep.DeepCutAuto
import Derived.Deep.DeepMust
namespace Go.Proofs.Ytdnmedgcoflcdaa.Rd
open Go.ChangeShapes Go.WideShapes Go.ChangeAt Go.RowKit

theorem Box.set0 {w : World} {b : Nat} {x y : Int} (h : Box w b x y) (z : Int) : Box (w.setCell ⟨b, 0, none⟩ (.int .i64 z)) b z y :=
  ⟨by simp [go_sem, h.c0], by simp [go_sem, h.c1], by simp [go_sem, h.f0], by simp [go_sem, h.f1], by simpa [go_sem] using h.lt⟩
theorem Box.set1 {w : World} {b : Nat} {x y : Int} (h : Box w b x y) (z : Int) : Box (w.setCell ⟨b, 1, none⟩ (.int .i64 z)) b x z :=
  ⟨by simp [go_sem, h.c0], by simp [go_sem, h.c1], by simp [go_sem, h.f0], by simp [go_sem, h.f1], by simpa [go_sem] using h.lt⟩
theorem Box.other {w : World} {b c o : Nat} {x y : Int} (h : Box w b x y) (z : Value) (hc : c ≠ b) : Box (w.setCell ⟨c, o, none⟩ z) b x y := by
  have e : (w.setCell ⟨c, o, none⟩ z).heap[b]? = w.heap[b]? := Below.heap_setCell w _ _ b (by simpa using hc.symm)
  exact ⟨(World.cell?_of_block (w := w) e).trans h.c0, (World.cell?_of_block (w := w) e).trans h.c1, (World.frozen?_of_block (w := w) e).trans h.f0, (World.frozen?_of_block (w := w) e).trans h.f1, by simpa [go_sem] using h.lt⟩

structure St (w : World) (r A B : Nat) (p q x y : Int) (wx : World) : Prop where
  b1 : Box wx w.heap.size 0 0
  b2 : Box wx (w.heap.size + 1) 0 0
  b3 : Box wx A p q
  b4 : Box wx B x y
  rd : Rd r wx
  bel : Below w.heap.size w wx
  n1 : w.heap.size + 1 < r
  n2 : r < A
  n3 : A < B

theorem St.turn {w : World} {r A B : Nat} {p q x y : Int} {wx wy : World} (h : St w r A B p q x y wx) (k : Rd r wy) (t : Turn r wx wy) : St w r A B p q x y wy := by
  have n1 := h.n1
  have n2 := h.n2
  have n3 := h.n3
  exact ⟨h.b1.turn t (by omega), h.b2.turn t (by omega), h.b3.turn t (by omega), h.b4.turn t (by omega), k, h.bel.trans (t.bel.mono (by omega)), n1, n2, n3⟩
theorem St.set0 {w : World} {r A B : Nat} {p q x y : Int} {wx : World} (h : St w r A B p q x y wx) (z : Int) : St w r A B p q z y (wx.setCell ⟨B, 0, none⟩ (.int .i64 z)) := by
  have n1 := h.n1
  have n2 := h.n2
  have n3 := h.n3
  exact ⟨h.b1.other _ (by omega), h.b2.other _ (by omega), h.b3.other _ (by omega), h.b4.set0 z, h.rd.kept ((Below.refl (r + 1) wx).setCell (p := ⟨B, 0, none⟩) (by show r + 1 ≤ B; omega) _) (by omega), h.bel.setCell (p := ⟨B, 0, none⟩) (by show _ ≤ B; omega) _, n1, n2, n3⟩
theorem St.set1 {w : World} {r A B : Nat} {p q x y : Int} {wx : World} (h : St w r A B p q x y wx) (z : Int) : St w r A B p q x z (wx.setCell ⟨B, 1, none⟩ (.int .i64 z)) := by
  have n1 := h.n1
  have n2 := h.n2
  have n3 := h.n3
  exact ⟨h.b1.other _ (by omega), h.b2.other _ (by omega), h.b3.other _ (by omega), h.b4.set1 z, h.rd.kept ((Below.refl (r + 1) wx).setCell (p := ⟨B, 1, none⟩) (by show r + 1 ≤ B; omega) _) (by omega), h.bel.setCell (p := ⟨B, 1, none⟩) (by show _ ≤ B; omega) _, n1, n2, n3⟩
theorem St.drew {w : World} {r A B : Nat} {p q x y : Int} {wx : World} (h : St w r A B p q x y wx) : St w r A B p q x y wx.drew :=
  h.turn h.rd ⟨(Below.refl _ _).drew, fun _ _ _ => rfl⟩

set_option maxHeartbeats 1000000 in
theorem drawOverlap_any (a : Option Addr) (n cap : Nat) (w : World) (h : Code w a n cap) (hn : n ≤ 1048576) :
    Calls Try.prog 5 #[.slice a n cap] w fun e w' => (∃ a b c d : Int, e = .returned (.tuple #[.agg #[.int .i64 a, .int .i64 b], .agg #[.int .i64 c, .int .i64 d]])) ∧ Below w.heap.size w w' := by
  go_enter Try.func5, Try.ntmps5
  go_wp2_with fail
  refine (open_any _ a n cap rfl _).mono ?_
  rintro e w1 ⟨rfl, rfl⟩
  go_wp2_with fail
  have bel : Below w.heap.size w ((w.alloc (C2 0 0)).alloc (C2 0 0)) := ((Below.refl w.heap.size w).alloc (Nat.le_refl _) _).alloc (by simp) _
  have rA := Rd.new h hn bel
  simp only [World.size_alloc] at rA
  have sW : (((w.alloc (C2 0 0)).alloc (C2 0 0)).alloc (Obj.cells #[Value.slice a n cap, Value.int IntKind.i64 0] 38)).heap.size = w.heap.size + 1 + 1 + 1 := by simp
  have bA : Below w.heap.size w (((w.alloc (C2 0 0)).alloc (C2 0 0)).alloc (Obj.cells #[Value.slice a n cap, Value.int IntKind.i64 0] 38)) := bel.alloc (by simp; omega) _
  have q1 : Box (((w.alloc (C2 0 0)).alloc (C2 0 0)).alloc (Obj.cells #[Value.slice a n cap, Value.int IntKind.i64 0] 38)) w.heap.size 0 0 := ((Box.new w 0 0).alloc _).alloc _
  have q2 : Box (((w.alloc (C2 0 0)).alloc (C2 0 0)).alloc (Obj.cells #[Value.slice a n cap, Value.int IntKind.i64 0] 38)) (w.heap.size + 1) 0 0 := by
    have := (Box.new (w.alloc (C2 0 0)) 0 0).alloc (Obj.cells #[Value.slice a n cap, Value.int IntKind.i64 0] 38)
    simpa using this
  generalize (((w.alloc (C2 0 0)).alloc (C2 0 0)).alloc (Obj.cells #[Value.slice a n cap, Value.int IntKind.i64 0] 38)) = W at *
  generalize hr : w.heap.size + 1 + 1 = r at *
  clear h hn bel
  refine (drawSpan_any r _ rA).mono ?_
  rintro e w1 ⟨⟨a1, b1, rfl⟩, k1, t1⟩
  have q3 := (q1.turn t1 (by omega)).alloc (C2 a1 b1)
  have q4 := (q2.turn t1 (by omega)).alloc (C2 a1 b1)
  have bB := (bA.trans (t1.bel.mono (by omega))).alloc (by have := bA.size; have := t1.size; omega) (C2 a1 b1)
  have s1 := t1.size
  have k2 : Rd r (w1.alloc (C2 a1 b1)) := k1.kept ((Below.refl w1.heap.size w1).alloc (Nat.le_refl _) _) (by omega)
  have q5 := Box.new w1 a1 b1
  clear q1 q2 bA k1 t1
  go_wp2_with fail
  refine (drawSpan_any r _ k2).mono ?_
  rintro e w2 ⟨⟨c1, d1, rfl⟩, k3, t2⟩
  have s2 := t2.size
  simp only [World.size_alloc] at s2
  have q6 := (q3.turn t2 (by omega)).alloc (C2 c1 d1)
  have q7 := (q4.turn t2 (by omega)).alloc (C2 c1 d1)
  have q8 := (q5.turn t2 (by omega)).alloc (C2 c1 d1)
  have q9 := Box.new w2 c1 d1
  have bC := (bB.trans (t2.bel.mono (by omega))).alloc (by omega) (C2 c1 d1)
  have k4 : Rd r (w2.alloc (C2 c1 d1)) := k3.kept ((Below.refl w2.heap.size w2).alloc (Nat.le_refl _) _) (by omega)
  have St0 : St w r w1.heap.size w2.heap.size a1 b1 c1 d1 (w2.alloc (C2 c1 d1)) := ⟨q6, q7, q8, q9, k4, bC, by omega, by omega, by omega⟩
  clear q3 q4 q5 q6 q7 q8 q9 bB bC k3 k2 t2
  go_wp2_with fail
  refine (once_any r _ k4 4 (by omega) (by omega)).mono ?_
  rintro e w3 ⟨⟨q, rfl⟩, k5, t3⟩
  have St1 := St0.turn k5 t3
  clear St0 k4 k5 t3
  generalize w1.heap.size = A at *
  generalize w2.heap.size = B at *
  have S1 : Hid (St w r A B a1 b1 c1 d1 w3) := St1
  obtain ⟨⟨x1, x2, x3, x4, x5⟩, ⟨y1, y2, y3, y4, y5⟩, ⟨u1, u2, u3, u4, u5⟩, ⟨v1, v2, v3, v4, v5⟩, z1, z2, z3, z4, z5⟩ := St1
  have m1 : ¬ w.heap.size = A := by omega
  have m2 : ¬ w.heap.size = B := by omega
  have m3 : ¬ w.heap.size + 1 = A := by omega
  have m4 : ¬ w.heap.size + 1 = B := by omega
  have m5 : ¬ A = B := by omega
  have m6 : ¬ B = A := by omega
  clear hr s1 s2 sW rA z1 z2 z3 z4 z5
  cases q
  · go_upto_region 5 with fail
    go_cut [] (fun wx => ∃ x : Int, St w r A B a1 b1 x d1 wx)
    case first =>
      go_region_with (go_at_call 11; refine (below_any r _ S1.out.drew.rd 4000 (by omega) (by omega)).mono ?_; rintro e w4 ⟨⟨v, ⟨hv1, hv2⟩, rfl⟩, k6, t4⟩; have T1 : Hid (St w r A B a1 b1 c1 d1 w4) := S1.out.drew.turn k6 t4; obtain ⟨o1, o2, o3, o4, o5⟩ := T1.out.b3; obtain ⟨p1, p2, p3, p4, p5⟩ := T1.out.b4)
      all_goals
        go_wp2_with fail
        go_meet
        exact ⟨_, T1.out.set0 _⟩
    case rest =>
      obtain ⟨wd, hwd⟩ : ∃ x : World, x = wc := ⟨_, rfl⟩
      subst hwd
      obtain ⟨c2, St2⟩ := hcut
      clear x1 x2 x3 x4 x5 y1 y2 y3 y4 y5 u1 u2 u3 u4 u5 v1 v2 v3 v4 v5 S1
      have S2 : Hid (St w r A B a1 b1 c2 d1 wd) := St2
      obtain ⟨⟨x1, x2, x3, x4, x5⟩, ⟨y1, y2, y3, y4, y5⟩, ⟨u1, u2, u3, u4, u5⟩, ⟨v1, v2, v3, v4, v5⟩, z1, z2, z3, z4, z5⟩ := St2
      clear z1 z2 z3 z4 z5
      go_upto_region 6 with fail
      go_cut [] (fun wx => ∃ y : Int, St w r A B a1 b1 c2 y wx)
      case first =>
        go_region_with (go_at_call 11; refine (below_any r _ S2.out.drew.rd 2000 (by omega) (by omega)).mono ?_; rintro e w4 ⟨⟨v, ⟨hv1, hv2⟩, rfl⟩, k6, t4⟩; have T1 : Hid (St w r A B a1 b1 c2 d1 w4) := S2.out.drew.turn k6 t4; obtain ⟨o1, o2, o3, o4, o5⟩ := T1.out.b3; obtain ⟨p1, p2, p3, p4, p5⟩ := T1.out.b4)
        all_goals
          go_wp2_with fail
          go_meet
          exact ⟨_, T1.out.set1 _⟩
      case rest =>
      obtain ⟨d2, St3⟩ := hcut
      clear x1 x2 x3 x4 x5 y1 y2 y3 y4 y5 u1 u2 u3 u4 u5 v1 v2 v3 v4 v5 S2
      have S3 : Hid (St w r A B a1 b1 c2 d2 wc) := St3
      obtain ⟨⟨x1, x2, x3, x4, x5⟩, ⟨y1, y2, y3, y4, y5⟩, ⟨u1, u2, u3, u4, u5⟩, ⟨v1, v2, v3, v4, v5⟩, z1, z2, z3, z4, z5⟩ := St3
      clear z1 z2 z3 z4 z5
      go_wp2_with fail
      go_region
      go_wp2_with fail
      refine bodyPost_ret (v := .tuple #[.agg #[.int .i64 a1, .int .i64 b1], .agg #[.int .i64 c2, .int .i64 d2]]) (by simp [results, Try.results5, go_sem, x1, x2, y1, y2]) rfl ⟨⟨_, _, _, _, rfl⟩, ?_⟩
      exact ((((Below.setCell S3.out.bel (p := ⟨w.heap.size, 0, none⟩) (Nat.le_refl _) _).setCell (p := ⟨w.heap.size, 1, none⟩) (Nat.le_refl _) _).setCell (p := ⟨w.heap.size + 1, 0, none⟩) (Nat.le_succ _) _).setCell (p := ⟨w.heap.size + 1, 1, none⟩) (Nat.le_succ _) _).drew
  · go_wp2_with fail
    go_region
    go_wp2_with fail
    refine bodyPost_ret (v := .tuple #[.agg #[.int .i64 a1, .int .i64 b1], .agg #[.int .i64 c1, .int .i64 d1]]) (by simp [results, Try.results5, go_sem, x1, x2, y1, y2]) rfl ⟨⟨_, _, _, _, rfl⟩, ?_⟩
    exact ((((Below.setCell S1.out.bel (p := ⟨w.heap.size, 0, none⟩) (Nat.le_refl _) _).setCell (p := ⟨w.heap.size, 1, none⟩) (Nat.le_refl _) _).setCell (p := ⟨w.heap.size + 1, 0, none⟩) (Nat.le_succ _) _).setCell (p := ⟨w.heap.size + 1, 1, none⟩) (Nat.le_succ _) _).drew
end Go.Proofs.Ytdnmedgcoflcdaa.Rd
