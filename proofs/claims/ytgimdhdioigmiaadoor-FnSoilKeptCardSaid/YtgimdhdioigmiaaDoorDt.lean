/- A soil, a temperature, a rain drawn of a code. -/
import Derived.Test.YtgimdhdioigmiaaDoorDs
namespace Go.Proofs.YtgimdhdioigmiaaDoor.Ds
open Go.ChangeShapes Go.WideShapes Go.ChangeAt Go.RowKit
open Go.Proofs.YtgimdhdioigmiaaDoor.So Go.Proofs.YtgimdhdioigmiaaDoor.Rd

theorem Bq.turnAny {g r : Nat} {a b c d f : Int} {w w' : World} (h : Bq g a b c d f w) (t : Turn r w w') (hg : g ≠ r) : Bq g a b c d f w' := by
  by_cases hl : r < g
  · exact h.turn t hl
  · exact h.block (t.bel.block g (by omega)) t.size
structure TD (w wx : World) (r g : Nat) (a b c d f : Int) : Prop where
  z : ∃ a0 b0 c0 d0 f0, Bq w.heap.size a0 b0 c0 d0 f0 wx
  x : Bq g a b c d f wx
  rd : Rd r wx
  bel : Below w.heap.size w wx
  zr : w.heap.size < r
  rg : r < g
theorem TD.turn {w wx wy : World} {r g : Nat} {a b c d f : Int} (h : TD w wx r g a b c d f) (t : Turn r wx wy) (k : Rd r wy) : TD w wy r g a b c d f := by
  obtain ⟨a0, b0, c0, d0, f0, hz⟩ := h.z
  have h1 := h.zr
  have h2 := h.rg
  exact ⟨⟨a0, b0, c0, d0, f0, hz.turnAny t (by omega)⟩, h.x.turnAny t (by omega), k, h.bel.trans (t.bel.mono (by omega)), h1, h2⟩
theorem TD.lit {w wx : World} {r g : Nat} {a b c d f : Int} (h : TD w wx r g a b c d f) (o : Obj) : TD w (wx.alloc o) r g a b c d f :=
  h.turn (Turn.of ((Below.refl _ _).alloc (Nat.le_refl _) _) (Nat.le_refl _) (by have := h.rd.lt; omega)) (h.rd.kept (B := wx.heap.size) ((Below.refl _ _).alloc (Nat.le_refl _) _) h.rd.lt)
structure TF (w wx : World) (a b c d f : Int) : Prop where
  x : Bq w.heap.size a b c d f wx
  bel : Below w.heap.size w wx
theorem TD.out {w wx : World} {r g : Nat} {a b c d f : Int} (h : TD w wx r g a b c d f) :
    TF w (((((wx.setCell ⟨w.heap.size, 0, none⟩ (.int .i64 a)).setCell ⟨w.heap.size, 1, none⟩ (.int .i64 b)).setCell ⟨w.heap.size, 2, none⟩ (.int .i64 c)).setCell ⟨w.heap.size, 3, none⟩ (.int .i64 d)).setCell ⟨w.heap.size, 4, none⟩ (.int .i64 f)) a b c d f := by
  obtain ⟨a0, b0, c0, d0, f0, hz⟩ := h.z
  exact ⟨hz.put a b c d f, ((((h.bel.setCell (p := ⟨w.heap.size, 0, none⟩) (Nat.le_refl _) _).setCell (p := ⟨w.heap.size, 1, none⟩) (Nat.le_refl _) _).setCell (p := ⟨w.heap.size, 2, none⟩) (Nat.le_refl _) _).setCell (p := ⟨w.heap.size, 3, none⟩) (Nat.le_refl _) _).setCell (p := ⟨w.heap.size, 4, none⟩) (Nat.le_refl _) _⟩
theorem pk5 (z : Int) (h0 : 0 ≤ z) (h1 : z < 5) : ∃ q : Int, ∀ W : World, (W.alloc (Obj.cells #[.int .i64 (-800), .int .i64 800, .int .i64 801, .int .i64 (-801), .int .i64 0] 2)).cell? ⟨W.heap.size, z.toNat, none⟩ = some (.int .i64 q) := by
  have : z = 0 ∨ z = 1 ∨ z = 2 ∨ z = 3 ∨ z = 4 := by omega
  rcases this with rfl | rfl | rfl | rfl | rfl
  · exact ⟨-800, fun W => by simp [go_sem]⟩
  · exact ⟨800, fun W => by simp [go_sem]⟩
  · exact ⟨801, fun W => by simp [go_sem]⟩
  · exact ⟨-801, fun W => by simp [go_sem]⟩
  · exact ⟨0, fun W => by simp [go_sem]⟩
theorem pk6 (z : Int) (h0 : 0 ≤ z) (h1 : z < 6) : ∃ q : Int, ∀ W : World, (W.alloc (Obj.cells #[.int .i64 (-1), .int .i64 5000, .int .i64 5001, .int .i64 0, .int .i64 3000, .int .i64 3001] 2)).cell? ⟨W.heap.size, z.toNat, none⟩ = some (.int .i64 q) := by
  have : z = 0 ∨ z = 1 ∨ z = 2 ∨ z = 3 ∨ z = 4 ∨ z = 5 := by omega
  rcases this with rfl | rfl | rfl | rfl | rfl | rfl
  · exact ⟨-1, fun W => by simp [go_sem]⟩
  · exact ⟨5000, fun W => by simp [go_sem]⟩
  · exact ⟨5001, fun W => by simp [go_sem]⟩
  · exact ⟨0, fun W => by simp [go_sem]⟩
  · exact ⟨3000, fun W => by simp [go_sem]⟩
  · exact ⟨3001, fun W => by simp [go_sem]⟩
set_option maxRecDepth 20000 in
set_option maxHeartbeats 2000000 in
theorem drawStep_any (ad : Option Addr) (n cap : Nat) (w : World) (hc : Rd.Code w ad n cap) (hn : n ≤ 1048576) : Calls Tryd.prog 5 #[.slice ad n cap] w fun e w' => (∃ a b c d f t p : Int, e = .returned (.tuple #[sv a b c d f, .int .i64 t, .int .i64 p])) ∧ Below w.heap.size w w' := by
  obtain ⟨w0, hw0⟩ : ∃ w0, w0 = w.alloc (Obj.cells #[.int .i64 0, .int .i64 0, .int .i64 0, .int .i64 0, .int .i64 0] 25) := ⟨_, rfl⟩
  have HW0 : Hid (w0 = w.alloc (Obj.cells #[.int .i64 0, .int .i64 0, .int .i64 0, .int .i64 0, .int .i64 0] 25)) := hw0
  have hb0 : Below w.heap.size w w0 := by rw [hw0]; exact (Below.refl _ _).alloc (Nat.le_refl _) _
  have Z0 : Hid (Bq w.heap.size 0 0 0 0 0 w0) := (by show Bq _ _ _ _ _ _ _; rw [hw0]; exact Bq.new w 0 0 0 0 0)
  have KR : Hid (Rd w0.heap.size (w0.alloc (.cells #[.slice ad n cap, .int .i64 0] 53))) := Rd.new hc hn hb0
  have B0 : Hid (Below w.heap.size w w0) := hb0
  have OP : Hid (Calls Tryd.prog 10 #[.slice ad n cap] w0 fun e w' => e = .returned (.pointer (some ⟨w0.heap.size, 0, none⟩)) ∧ w' = w0.alloc (.cells #[.slice ad n cap, .int .i64 0] 53)) := open_any _ ad n cap rfl w0
  clear hw0 hc hb0
  go_enter Tryd.func5, Tryd.ntmps5
  go_wp2_with fail
  rw [← HW0.out]
  refine OP.out.mono ?_
  rintro e w1 ⟨rfl, hw1⟩
  have K1 : Hid (Rd w0.heap.size w1) := (by show Rd _ _; rw [hw1]; exact KR.out)
  have hb1 : Below w0.heap.size w0 w1 := by rw [hw1]; exact (Below.refl _ _).alloc (Nat.le_refl _) _
  have Z1 : Hid (Bq w.heap.size 0 0 0 0 0 w1) := Z0.out.on hb1
  have B1 : Hid (Below w.heap.size w w1) := B0.out.trans (hb1.mono B0.out.size)
  have zr : Hid (w.heap.size < w0.heap.size) := Z0.out.lt
  clear hw1 KR Z0 B0 hb1 OP HW0
  generalize w0.heap.size = r at *
  have DR : Hid (Calls Tryd.prog 11 #[.pointer (some ⟨r, 0, none⟩)] w1 fun e w' => (∃ a b c d f : Int, e = .returned (sv a b c d f)) ∧ Rd r w' ∧ Turn r w1 w') := draw_any r w1 K1.out
  have BE : Hid (∀ (n : Nat) (u : World), Rd r u → 1 ≤ n → n ≤ 60000 → Calls Tryd.prog 12 #[.pointer (some ⟨r, 0, none⟩), .int .i64 n] u (Drawn r u fun x => 0 ≤ x ∧ x < n)) := fun n u hu h1 h2 => below_all r u hu n h1 h2
  go_wp2_with fail
  refine DR.out.mono ?_
  rintro e w2 ⟨⟨a, b, c, d, f, rfl⟩, k2, t2⟩
  obtain ⟨w3, hw3⟩ : ∃ w3, w3 = w2.alloc (Obj.cells #[.int .i64 a, .int .i64 b, .int .i64 c, .int .i64 d, .int .i64 f] 25) := ⟨_, rfl⟩
  have HW3 : Hid (w3 = w2.alloc (Obj.cells #[.int .i64 a, .int .i64 b, .int .i64 c, .int .i64 d, .int .i64 f] 25)) := hw3
  have T3 : Hid (TD w w3 r w2.heap.size a b c d f) := (by
    show TD _ _ _ _ _ _ _ _ _
    have z1 := zr.out
    have hb : Below w2.heap.size w2 w3 := by rw [hw3]; exact (Below.refl _ _).alloc (Nat.le_refl _) _
    have z2 := k2.lt
    exact ⟨⟨0, 0, 0, 0, 0, (Z1.out.turnAny t2 (by omega)).on hb⟩, by rw [hw3]; exact Bq.new w2 a b c d f, k2.kept hb k2.lt, (B1.out.trans (t2.bel.mono (by omega))).trans (hb.mono (by omega)), z1, z2⟩)
  clear hw3 k2 t2 DR Z1 B1 K1
  go_wp2_with fail
  rw [← HW3.out]
  clear HW3
  generalize w2.heap.size = g at *
  refine (BE.out 600 w3 T3.out.rd (by omega) (by omega)).mono ?_
  rintro e w4 ⟨⟨x, hx, rfl⟩, k4, t4⟩
  have T4 : Hid (TD w w4 r g a b c d f) := T3.out.turn t4 k4
  clear k4 t4 T3
  obtain ⟨t, ht⟩ : ∃ t, IntKind.i64.wrap (x - 250) = t := ⟨_, rfl⟩
  have hx2 : x < 600 := by omega
  have hx3 : 0 ≤ x := by omega
  go_wp2_with fail
  refine (BE.out 900 w4 T4.out.rd (by omega) (by omega)).mono ?_
  rintro e w5 ⟨⟨p, hp, rfl⟩, k5, t5⟩
  have T5 : Hid (TD w w5 r g a b c d f) := T4.out.turn t5 k5
  clear k5 t5 T4
  go_wp2_with fail
  refine (BE.out 14 w5 T5.out.rd (by omega) (by omega)).mono ?_
  rintro e w6 ⟨⟨v, hv, rfl⟩, k6, t6⟩
  have T6 : Hid (TD w w6 r g a b c d f) := T5.out.turn t6 k6
  clear k6 t6 T5
  by_cases h0 : v = 0
  · subst h0
    have T7 : Hid (TD w (w6.alloc (Obj.cells #[.int .i64 (-800), .int .i64 800, .int .i64 801, .int .i64 (-801), .int .i64 0] 2)) r g a b c d f) := T6.out.lit _
    obtain ⟨w7, hw7⟩ : ∃ w7, w7 = w6.alloc (Obj.cells #[.int .i64 (-800), .int .i64 800, .int .i64 801, .int .i64 (-801), .int .i64 0] 2) := ⟨_, rfl⟩
    have HW7 : Hid (w7 = w6.alloc (Obj.cells #[.int .i64 (-800), .int .i64 800, .int .i64 801, .int .i64 (-801), .int .i64 0] 2)) := hw7
    rw [← hw7] at T7
    have LL : Hid (∀ z : Int, 0 ≤ z → z < 5 → ∃ q : Int, w7.cell? ⟨w6.heap.size, z.toNat, none⟩ = some (.int .i64 q)) := fun z z0 z1 => by
      obtain ⟨q, hq⟩ := pk5 z z0 z1
      exact ⟨q, by rw [hw7]; exact hq w6⟩
    have LZ : Hid (w6.heap.size < w7.heap.size ∧ r < w6.heap.size) := ⟨by rw [hw7]; simp, T6.out.rd.lt⟩
    clear hw7 T6
    go_wp2_with fail
    rw [← HW7.out]
    clear HW7
    refine (BE.out 5 w7 T7.out.rd (by omega) (by omega)).mono ?_
    rintro e w8 ⟨⟨j, hj, rfl⟩, k8, t8⟩
    have T8 : Hid (TD w w8 r g a b c d f) := T7.out.turn t8 k8
    obtain ⟨q, hq⟩ := LL.out j hj.1 (by omega)
    have hq8 : w8.cell? ⟨w6.heap.size, j.toNat, none⟩ = some (.int .i64 q) := (t8.cell j.toNat LZ.out.1 (by have := LZ.out.2; omega)).trans hq
    have j0 : 0 ≤ j := hj.1
    have j1 : j < 5 := by omega
    clear k8 t8 T7 hq LL LZ
    go_upto_region 10 with fail
    clear hq8
    obtain ⟨c0, c1, c2, c3, c4⟩ := T8.out.x.r
    obtain ⟨a0, b0, c00, d0, f00, hz⟩ := T8.out.z
    obtain ⟨e0, e1, e2, e3, e4⟩ := hz.r
    have gz := hz.k
    have g0 := gz 0
    have g1 := gz 1
    have g2 := gz 2
    have g3 := gz 3
    have g4 := gz 4
    clear gz hz
    go_wp2_with fail
    have V : Hid (TF w _ a b c d f) := TD.out T8.out
    clear c0 c1 c2 c3 c4 e0 e1 e2 e3 e4 g0 g1 g2 g3 g4
    generalize World.setCell _ _ _ = wz at V ⊢
    obtain ⟨r0, r1, r2, r3, r4⟩ := V.out.x.r
    exact bodyPost_ret (v := .tuple #[sv a b c d f, .int .i64 q, .int .i64 p]) (by simp [results, Tryd.results5, go_sem, r0, r1, r2, r3, r4]) rfl ⟨⟨_, _, _, _, _, _, _, rfl⟩, V.out.bel⟩
  by_cases h1 : v = 1
  · subst h1
    have T7 : Hid (TD w (w6.alloc (Obj.cells #[.int .i64 (-1), .int .i64 5000, .int .i64 5001, .int .i64 0, .int .i64 3000, .int .i64 3001] 2)) r g a b c d f) := T6.out.lit _
    obtain ⟨w7, hw7⟩ : ∃ w7, w7 = w6.alloc (Obj.cells #[.int .i64 (-1), .int .i64 5000, .int .i64 5001, .int .i64 0, .int .i64 3000, .int .i64 3001] 2) := ⟨_, rfl⟩
    have HW7 : Hid (w7 = w6.alloc (Obj.cells #[.int .i64 (-1), .int .i64 5000, .int .i64 5001, .int .i64 0, .int .i64 3000, .int .i64 3001] 2)) := hw7
    rw [← hw7] at T7
    have LL : Hid (∀ z : Int, 0 ≤ z → z < 6 → ∃ q : Int, w7.cell? ⟨w6.heap.size, z.toNat, none⟩ = some (.int .i64 q)) := fun z z0 z1 => by
      obtain ⟨q, hq⟩ := pk6 z z0 z1
      exact ⟨q, by rw [hw7]; exact hq w6⟩
    have LZ : Hid (w6.heap.size < w7.heap.size ∧ r < w6.heap.size) := ⟨by rw [hw7]; simp, T6.out.rd.lt⟩
    clear hw7 T6
    go_wp2_with fail
    rw [← HW7.out]
    clear HW7
    refine (BE.out 6 w7 T7.out.rd (by omega) (by omega)).mono ?_
    rintro e w8 ⟨⟨j, hj, rfl⟩, k8, t8⟩
    have T8 : Hid (TD w w8 r g a b c d f) := T7.out.turn t8 k8
    obtain ⟨q, hq⟩ := LL.out j hj.1 (by omega)
    have hq8 : w8.cell? ⟨w6.heap.size, j.toNat, none⟩ = some (.int .i64 q) := (t8.cell j.toNat LZ.out.1 (by have := LZ.out.2; omega)).trans hq
    have j0 : 0 ≤ j := hj.1
    have j1 : j < 6 := by omega
    clear k8 t8 T7 hq LL LZ
    go_upto_region 10 with fail
    clear hq8
    obtain ⟨c0, c1, c2, c3, c4⟩ := T8.out.x.r
    obtain ⟨a0, b0, c00, d0, f00, hz⟩ := T8.out.z
    obtain ⟨e0, e1, e2, e3, e4⟩ := hz.r
    have gz := hz.k
    have g0 := gz 0
    have g1 := gz 1
    have g2 := gz 2
    have g3 := gz 3
    have g4 := gz 4
    clear gz hz
    go_wp2_with fail
    have V : Hid (TF w _ a b c d f) := TD.out T8.out
    clear c0 c1 c2 c3 c4 e0 e1 e2 e3 e4 g0 g1 g2 g3 g4
    generalize World.setCell _ _ _ = wz at V ⊢
    obtain ⟨r0, r1, r2, r3, r4⟩ := V.out.x.r
    exact bodyPost_ret (v := .tuple #[sv a b c d f, .int .i64 t, .int .i64 q]) (by simp [results, Tryd.results5, go_sem, r0, r1, r2, r3, r4]) rfl ⟨⟨_, _, _, _, _, _, _, rfl⟩, V.out.bel⟩
  have i0 : (v == 0) = false := by simpa using h0
  have i1 : (v == 1) = false := by simpa using h1
  go_upto_region 10 with fail
  clear i0 i1
  obtain ⟨c0, c1, c2, c3, c4⟩ := T6.out.x.r
  obtain ⟨a0, b0, c00, d0, f00, hz⟩ := T6.out.z
  obtain ⟨e0, e1, e2, e3, e4⟩ := hz.r
  have gz := hz.k
  have g0 := gz 0
  have g1 := gz 1
  have g2 := gz 2
  have g3 := gz 3
  have g4 := gz 4
  clear gz hz
  go_wp2_with fail
  have V : Hid (TF w _ a b c d f) := TD.out T6.out
  clear c0 c1 c2 c3 c4 e0 e1 e2 e3 e4 g0 g1 g2 g3 g4
  generalize World.setCell _ _ _ = wz at V ⊢
  obtain ⟨r0, r1, r2, r3, r4⟩ := V.out.x.r
  exact bodyPost_ret (v := .tuple #[sv a b c d f, .int .i64 t, .int .i64 p]) (by simp [results, Tryd.results5, go_sem, r0, r1, r2, r3, r4]) rfl ⟨⟨_, _, _, _, _, _, _, rfl⟩, V.out.bel⟩
end Go.Proofs.YtgimdhdioigmiaaDoor.Ds
