/- A grid and its values drawn of a code. -/
import Derived.Test.YtknkmkhnakcjiaaDg
import Derived.BigRegion
import Derived.Lib.SliceRun
namespace Go.Proofs.Ytknkmkhnakcjiaa.Gd
open Go.ChangeShapes Go.WideShapes Go.ChangeAt Go.RowKit
open Go.Proofs.Ytknkmkhnakcjiaa.Rd Go.Proofs.Ytknkmkhnakcjiaa.Flt Go.Proofs.Ytknkmkhnakcjiaa.Fls
attribute [local go_sem] Fls.run_store_flt
/-- A list of floats that lies at a block or behind. -/
def FR (lo : Nat) (w : World) (v : Value) (L : List Nat) : Prop :=
  (L = [] ∧ ∃ a cap, v = .slice a 0 cap) ∨ ∃ b o cap, v = .slice (some ⟨b, o, none⟩) L.length cap ∧ L.length ≤ cap ∧ cap ≤ maxLen ∧ b < w.heap.size ∧ lo ≤ b ∧ ∀ i, i < L.length → w.cell? ⟨b, o + i, none⟩ = some (.float .f64 (L.getD i 0))
theorem FR.reads {r : Nat} {w : World} {v : Value} {L : List Nat} (h : FR r w v L) : Fls.Reads w v L := by
  rcases h with h | ⟨b, o, cap, h1, h2, h3, h4, _, h5⟩
  · exact Or.inl h
  · exact Or.inr ⟨b, o, cap, h1, h2, h3, h4, h5⟩
theorem FR.down {lo lo' : Nat} {w : World} {v : Value} {L : List Nat} (h : FR lo w v L) (hl : lo' ≤ lo) : FR lo' w v L := by
  rcases h with h | ⟨b, o, cap, h1, h2, h3, h4, h6, h5⟩
  · exact Or.inl h
  · exact Or.inr ⟨b, o, cap, h1, h2, h3, h4, by omega, h5⟩
theorem FR.turn {lo r : Nat} {w w' : World} {v : Value} {L : List Nat} (h : FR lo w v L) (t : Turn r w w') (hr : r < lo) : FR lo w' v L := by
  rcases h with h | ⟨b, o, cap, h1, h2, h3, h4, h6, h5⟩
  · exact Or.inl h
  · exact Or.inr ⟨b, o, cap, h1, h2, h3, Nat.lt_of_lt_of_le h4 t.size, h6, fun i hi => (t.cell (o + i) h4 (by omega)).trans (h5 i hi)⟩
theorem FR.on {lo : Nat} {w w' : World} {v : Value} {L : List Nat} (h : FR lo w v L) (hb : Below w.heap.size w w') : FR lo w' v L := by
  rcases h with h | ⟨b, o, cap, h1, h2, h3, h4, h6, h5⟩
  · exact Or.inl h
  · exact Or.inr ⟨b, o, cap, h1, h2, h3, Nat.lt_of_lt_of_le h4 hb.size, h6, fun i hi => (hb.cell (p := ⟨b, o + i, none⟩) h4).trans (h5 i hi)⟩
theorem FR.set {lo q o' : Nat} {w : World} {v u : Value} {L : List Nat} (h : FR lo w v L) (hq : q < lo) : FR lo (w.setCell ⟨q, o', none⟩ u) v L := by
  rcases h with h | ⟨b, o, cap, h1, h2, h3, h4, h6, h5⟩
  · exact Or.inl h
  · refine Or.inr ⟨b, o, cap, h1, h2, h3, by simpa using h4, h6, fun i hi => ?_⟩
    rw [← h5 i hi]
    unfold World.cell?
    rw [Below.heap_setCell w ⟨q, o', none⟩ u b (by show b ≠ q; omega)]
theorem row_turn {r B n k : Nat} {e : TypeId} {w w' : World} {v : Value} {xs : List Value} (h : w.ownsRow B e k v n xs) (t : Turn r w w') (hr : r < B) : w'.ownsRow B e k v n xs := by
  refine ⟨h.1, ?_⟩
  have hlt := h.lt
  rcases h.2 with h2 | ⟨g, cap, cur, h1, h2, h3, h4⟩
  · exact .inl h2
  · have ho : v.ownBlock = some g := by rw [h1]; rfl
    refine .inr ⟨g, cap, cur, h1, h2, ?_, h4⟩
    rw [← h3]
    by_cases e : g < r
    · exact t.bel.block g e
    · exact t.abv g (by omega) (hlt g ho).2
theorem row_fr {B : Nat} {w : World} {v : Value} {L : List Nat} (h : w.ownsRow B 30 1 v L.length (flts L)) : FR B w v L := by
  rcases Fls.row_cases h with ⟨e, e2⟩ | ⟨g, cap, e, hb, hs, hc, hm⟩
  · exact Or.inl ⟨e, _, _, e2⟩
  · subst e
    exact Or.inr ⟨g, 0, cap, rfl, hc, hm, hs, hb, fun i hi => by rw [Nat.zero_add]; exact Fls.row_cell h i hi⟩
theorem flts_snoc (L : List Nat) (x : Nat) : flts (L ++ [x]) = flts L ++ [.float .f64 x] := by simp [flts]
theorem cell_one (w : World) (v0 : Value) (t : TypeId) : ∀ j u, [v0][j]? = some u → (w.alloc (Obj.cells #[v0] t)).cell? ((⟨w.heap.size, 0, none⟩ : Addr).add j) = some u := by
  intro j u hj
  match j, hj with
  | 0, hj => simp at hj; subst hj; simp [Addr.add]
theorem one_one (x : Nat) : ∀ u ∈ [Value.float .f64 x], u.oneCell' = true := by intro u hu; simp at hu; subst hu; rfl
theorem lit3 {r : Nat} {w w' : World} (a b c z : Int) (t : Turn r (w.alloc (.cells #[.int .i64 a, .int .i64 b, .int .i64 c] 2)) w') (hr : r < w.heap.size) (h0 : 0 ≤ z) (h1 : z < 3) : ∃ q : Int, w'.cell? ⟨w.heap.size, z.toNat, none⟩ = some (.int .i64 q) ∧ (q = a ∨ q = b ∨ q = c) := by
  have h : z = 0 ∨ z = 1 ∨ z = 2 := by omega
  have e := t.cell (b := w.heap.size) z.toNat (by simp) (by omega)
  rw [e]
  rcases h with rfl | rfl | rfl
  · exact ⟨a, by simp [go_sem], .inl rfl⟩
  · exact ⟨b, by simp [go_sem], .inr (.inl rfl)⟩
  · exact ⟨c, by simp [go_sem], .inr (.inr rfl)⟩
theorem lit4 {r : Nat} {w w' : World} (a b c d z : Int) (t : Turn r (w.alloc (.cells #[.int .i64 a, .int .i64 b, .int .i64 c, .int .i64 d] 2)) w') (hr : r < w.heap.size) (h0 : 0 ≤ z) (h1 : z < 4) : ∃ q : Int, w'.cell? ⟨w.heap.size, z.toNat, none⟩ = some (.int .i64 q) ∧ (q = a ∨ q = b ∨ q = c ∨ q = d) := by
  have h : z = 0 ∨ z = 1 ∨ z = 2 ∨ z = 3 := by omega
  have e := t.cell (b := w.heap.size) z.toNat (by simp) (by omega)
  rw [e]
  rcases h with rfl | rfl | rfl | rfl
  · exact ⟨a, by simp [go_sem], .inl rfl⟩
  · exact ⟨b, by simp [go_sem], .inr (.inl rfl)⟩
  · exact ⟨c, by simp [go_sem], .inr (.inr (.inl rfl))⟩
  · exact ⟨d, by simp [go_sem], .inr (.inr (.inr rfl))⟩
theorem slice_h (a : Option Addr) (n cap q : Nat) (h : q ≤ cap) (w : World) : (Instr.slice 26 (.slice a n cap) none (some (.int .i64 (q : Int))) none).run Try.prog w = .ok (.slice a q cap) w := by
  rw [run_slice_h w 26 a n cap Try.underlying26 .i64 (q : Int) (by omega) (by omega)]
  simp [sliced, go_sem]
theorem FR.take {lo n cap : Nat} {a : Option Addr} {w : World} {L : List Nat} (h : FR lo w (.slice a n cap) L) (q : Nat) (hq : q ≤ L.length) : FR lo w (.slice a q cap) (L.take q) := by
  have hl : (L.take q).length = q := by simp; omega
  rcases h with ⟨e, b, c, h⟩ | ⟨b, o, cap', h1, h2, h3, h4, h6, h5⟩
  · subst e
    have : q = 0 := by simpa using hq
    subst this
    exact Or.inl ⟨rfl, _, _, rfl⟩
  · simp at h1
    obtain ⟨rfl, rfl, rfl⟩ := h1
    refine Or.inr ⟨b, o, cap, by rw [hl], by omega, h3, h4, h6, fun i hi => ?_⟩
    rw [hl] at hi
    rw [h5 i (by omega)]
    simp [List.getD_eq_getElem?_getD, hi]
def lenOf : Value → Nat
  | .slice _ n _ => n
  | _ => 0
/-- what the draw keeps: the reader, the answer's box, the grid's -/
structure DK (r A g : Nat) (w wx : World) (x0 x1 x2 x3 x4 : Int) : Prop where
  rd : Rd r wx
  tn : Turn r w wx
  ab : GB wx A 0 0 0 0 0
  gb : GB wx g x0 x1 x2 x3 x4
theorem DK.turn {r A g : Nat} {w wx w' : World} {x0 x1 x2 x3 x4 : Int} (h : DK r A g w wx x0 x1 x2 x3 x4) (t : Turn r wx w') (k : Rd r w') (hA : A ≠ r) (hg : g ≠ r) : DK r A g w w' x0 x1 x2 x3 x4 :=
  ⟨k, h.tn.trans t, h.ab.turn t hA, h.gb.turn t hg⟩
theorem DK.alloc {r A g : Nat} {w wx : World} {x0 x1 x2 x3 x4 : Int} (h : DK r A g w wx x0 x1 x2 x3 x4) (hr : r < w.heap.size) (o : Obj) : DK r A g w (wx.alloc o) x0 x1 x2 x3 x4 :=
  ⟨h.rd.kept ((Below.refl (r + 1) wx).alloc (by have := h.rd.lt; omega) _) (by omega), h.tn.alloc hr _, h.ab.alloc o, h.gb.alloc o⟩
theorem DK.row {r A g q o : Nat} {w wx : World} {x0 x1 x2 x3 x4 : Int} (h : DK r A g w wx x0 x1 x2 x3 x4) (hr : r < w.heap.size) (hq : w.heap.size ≤ q) (hA : A ≠ q) (hg : g ≠ q) (u : Value) : DK r A g w (wx.setCell ⟨q, o, none⟩ u) x0 x1 x2 x3 x4 :=
  ⟨h.rd.kept ((Below.refl (r + 1) wx).setCell (p := ⟨q, o, none⟩) (by show r + 1 ≤ q; omega) _) (by omega), h.tn.setCell (p := ⟨q, o, none⟩) hq hr _, h.ab.keep hA _ _, h.gb.keep hg _ _⟩
theorem DK.below {r A g B : Nat} {w wx w' : World} {x0 x1 x2 x3 x4 : Int} (h : DK r A g w wx x0 x1 x2 x3 x4) (hb : Below B wx w') (hr : r < w.heap.size) (hB : w.heap.size ≤ B) (hA : A < B) (hg : g < B) : DK r A g w w' x0 x1 x2 x3 x4 :=
  ⟨h.rd.kept hb (by omega), turn_below h.tn (hb.mono hB) hr, h.ab.on hb hA, h.gb.on hb hg⟩
theorem DK.s0 {r A g : Nat} {w wx : World} {x0 x1 x2 x3 x4 : Int} (h : DK r A g w wx x0 x1 x2 x3 x4) (hr : r < w.heap.size) (hg : w.heap.size ≤ g) (hA : A ≠ g) (z : Int) : DK r A g w (wx.setCell ⟨g, 0, none⟩ (.int .i64 z)) z x1 x2 x3 x4 :=
  ⟨h.rd.kept ((Below.refl (r + 1) wx).setCell (p := ⟨g, 0, none⟩) (by show r + 1 ≤ g; omega) _) (by omega), h.tn.setCell (p := ⟨g, 0, none⟩) hg hr _, h.ab.keep hA _ _, h.gb.s0 z⟩
theorem DK.s1 {r A g : Nat} {w wx : World} {x0 x1 x2 x3 x4 : Int} (h : DK r A g w wx x0 x1 x2 x3 x4) (hr : r < w.heap.size) (hg : w.heap.size ≤ g) (hA : A ≠ g) (z : Int) : DK r A g w (wx.setCell ⟨g, 1, none⟩ (.int .i64 z)) x0 z x2 x3 x4 :=
  ⟨h.rd.kept ((Below.refl (r + 1) wx).setCell (p := ⟨g, 1, none⟩) (by show r + 1 ≤ g; omega) _) (by omega), h.tn.setCell (p := ⟨g, 1, none⟩) hg hr _, h.ab.keep hA _ _, h.gb.s1 z⟩
theorem DK.s2 {r A g : Nat} {w wx : World} {x0 x1 x2 x3 x4 : Int} (h : DK r A g w wx x0 x1 x2 x3 x4) (hr : r < w.heap.size) (hg : w.heap.size ≤ g) (hA : A ≠ g) (z : Int) : DK r A g w (wx.setCell ⟨g, 2, none⟩ (.int .i64 z)) x0 x1 z x3 x4 :=
  ⟨h.rd.kept ((Below.refl (r + 1) wx).setCell (p := ⟨g, 2, none⟩) (by show r + 1 ≤ g; omega) _) (by omega), h.tn.setCell (p := ⟨g, 2, none⟩) hg hr _, h.ab.keep hA _ _, h.gb.s2 z⟩
theorem DK.s3 {r A g : Nat} {w wx : World} {x0 x1 x2 x3 x4 : Int} (h : DK r A g w wx x0 x1 x2 x3 x4) (hr : r < w.heap.size) (hg : w.heap.size ≤ g) (hA : A ≠ g) (z : Int) : DK r A g w (wx.setCell ⟨g, 3, none⟩ (.int .i64 z)) x0 x1 x2 z x4 :=
  ⟨h.rd.kept ((Below.refl (r + 1) wx).setCell (p := ⟨g, 3, none⟩) (by show r + 1 ≤ g; omega) _) (by omega), h.tn.setCell (p := ⟨g, 3, none⟩) hg hr _, h.ab.keep hA _ _, h.gb.s3 z⟩
theorem DK.s4 {r A g : Nat} {w wx : World} {x0 x1 x2 x3 x4 : Int} (h : DK r A g w wx x0 x1 x2 x3 x4) (hr : r < w.heap.size) (hg : w.heap.size ≤ g) (hA : A ≠ g) (z : Int) : DK r A g w (wx.setCell ⟨g, 4, none⟩ (.int .i64 z)) x0 x1 x2 x3 z :=
  ⟨h.rd.kept ((Below.refl (r + 1) wx).setCell (p := ⟨g, 4, none⟩) (by show r + 1 ≤ g; omega) _) (by omega), h.tn.setCell (p := ⟨g, 4, none⟩) hg hr _, h.ab.keep hA _ _, h.gb.s4 z⟩

set_option maxRecDepth 20000 in
set_option maxHeartbeats 2000000 in
theorem dgrid_any (r : Nat) (w : World) (h : Rd r w) : Calls Try.prog 9 #[.pointer (some ⟨r, 0, none⟩)] w fun e w' => ∃ x0 x1 x2 x3 x4 : Int, ∃ v M, e = .returned (.tuple #[gv x0 x1 x2 x3 x4, v]) ∧ Gq x0 x1 x2 x3 x4 ∧ FR w.heap.size w' v M ∧ (∀ z ∈ M, z < 18446744073709551616) ∧ M.length ≤ 25 ∧ Rd r w' ∧ Turn r w w' := by
  have hr := h.lt
  obtain ⟨wa, hwa⟩ : ∃ wa, wa = w.alloc (.cells #[.int .i64 0, .int .i64 0, .int .i64 0, .int .i64 0, .int .i64 0] 25) := ⟨_, rfl⟩
  have HWA : Hid (wa = w.alloc (.cells #[.int .i64 0, .int .i64 0, .int .i64 0, .int .i64 0, .int .i64 0] 25)) := hwa
  have B0 : Below w.heap.size w wa := by rw [hwa]; exact (Below.refl _ _).alloc (Nat.le_refl _) _
  have ka : Rd r wa := h.kept B0 hr
  have TA : Hid (Turn r w wa) := Turn.of B0 (Nat.le_refl _) (by omega)
  have GA : Hid (GB wa w.heap.size 0 0 0 0 0) := (by show GB _ _ _ _ _ _ _; rw [hwa]; exact GB.new w 0 0 0 0 0)
  have C0 : Hid (Calls Try.prog 20 #[.pointer (some ⟨r, 0, none⟩)] wa fun e w' => ∃ x0 x1 x2 x3 x4 : Int, e = .returned (gv x0 x1 x2 x3 x4) ∧ (2 ≤ x0 ∧ x0 ≤ 5) ∧ Gq x0 x1 x2 x3 x4 ∧ Rd r w' ∧ Turn r wa w') := grid_any r wa ka
  obtain ⟨A, hA⟩ : ∃ A, A = w.heap.size := ⟨_, rfl⟩
  have HA : Hid (A = w.heap.size) := hA
  rw [← hA] at GA
  have hrA : r < A := by omega
  obtain ⟨i0, hi, hz0, hz1, hz2⟩ := info_parts Fls.Try.info30
  clear h B0 ka hwa
  go_enter Try.func9, Try.ntmps9
  go_upto_region 1 with fail
  rw [← HWA.out, ← HA.out]
  clear HWA hA
  go_wp2_with fail
  refine C0.out.mono ?_
  rintro e w1 ⟨x0, x1, x2, x3, x4, rfl, hx0, hq, k1, t1⟩
  have HQ : Hid (Gq x0 x1 x2 x3 x4) := hq
  obtain ⟨_, hx1, _, _, _⟩ := hq
  obtain ⟨w2, hw2⟩ : ∃ w2, w2 = w1.alloc (.cells #[.int .i64 x0, .int .i64 x1, .int .i64 x2, .int .i64 x3, .int .i64 x4] 25) := ⟨_, rfl⟩
  have HW2 : Hid (w2 = w1.alloc (.cells #[.int .i64 x0, .int .i64 x1, .int .i64 x2, .int .i64 x3, .int .i64 x4] 25)) := hw2
  have T1 := TA.out.trans t1
  have zA : A < w1.heap.size := (GA.out.turn t1 (by omega)).lt
  obtain ⟨g, hg⟩ : ∃ g, g = w1.heap.size := ⟨_, rfl⟩
  have HG : Hid (g = w1.heap.size) := hg
  have D2 : Hid (DK r A g w w2 x0 x1 x2 x3 x4) := (by
    show DK _ _ _ _ _ _ _ _ _ _
    rw [hw2, hg]
    exact ⟨k1.kept ((Below.refl (r + 1) w1).alloc (by have := k1.lt; omega) _) (by omega), T1.alloc hr _, (GA.out.turn t1 (by omega)).alloc _, GB.new w1 x0 x1 x2 x3 x4⟩)
  have Ag : A < g := by omega
  have Z2 : Hid (w2.heap.size = g + 1) := (by show _ = _; rw [hw2, hg]; simp)
  clear k1 t1 T1 TA GA C0 hw2
  go_upto_region 2 with fail
  rw [← HW2.out, ← HG.out]
  clear HW2 hg
  have R3 : Hid ((w2.alloc (Obj.cells #[] 30)).ownsRow (g + 1) 30 1 (.slice (some ⟨w2.heap.size, 0, none⟩) 0 0) 0 (flts [])) := World.ownsRow_lit w2 #[] 0 (by rw [Z2.out]; omega) (Nat.zero_le _) rfl
  have D3 : Hid (DK r A g w (w2.alloc (Obj.cells #[] 30)) x0 x1 x2 x3 x4) := D2.out.alloc hr _
  clear D2
  go_wp2_with fail
  refine (below_all r _ D3.out.rd 300 (by omega) (by omega)).mono ?_
  rintro e w4 ⟨⟨u, ⟨hu1, hu2⟩, rfl⟩, k, t⟩
  have R4 : Hid (w4.ownsRow (g + 1) 30 1 (.slice (some ⟨w2.heap.size, 0, none⟩) 0 0) 0 (flts [])) := row_turn R3.out t (by omega)
  have D4 : Hid (DK r A g w w4 x0 x1 x2 x3 x4) := D3.out.turn t k (by omega) (by omega)
  clear k t R3 D3
  have rq : ∀ (a b : Nat) (w : World), (binOp .quo 30 (.float .f64 a) (.float .f64 b)).run Try.prog w = .ok (.float .f64 (opB .quo a b w)) (w.drewN (opD .quo a b)) := fun a b w => run_op Try.prog .quo (by unfold Arith; simp) 30 a b w
  have rp : ∀ (a b : Nat) (w : World), (binOp .add 30 (.float .f64 a) (.float .f64 b)).run Try.prog w = .ok (.float .f64 (opB .add a b w)) (w.drewN (opD .add a b)) := fun a b w => run_op Try.prog .add (by unfold Arith; simp) 30 a b w
  have lq := op_lt .quo (floatOfInt .f64 u) 4621819117588971520 w4
  obtain ⟨p, hp, hp2⟩ : ∃ p : Nat, x0 * x1 = (p : Int) ∧ p ≤ 25 := by
    obtain ⟨m, rfl⟩ : ∃ m : Nat, x0 = (m : Int) := ⟨x0.toNat, by omega⟩
    obtain ⟨k, rfl⟩ : ∃ k : Nat, x1 = (k : Int) := ⟨x1.toNat, by omega⟩
    refine ⟨m * k, by simp, ?_⟩
    have : m * k ≤ 5 * 5 := Nat.mul_le_mul (by omega) (by omega)
    omega
  have ew : IntKind.i64.wrap (x0 * x1) = (p : Int) := by rw [hp]; exact IntWalk.i64_in _ (by omega)
  have p4 : 4 ≤ p := by
    obtain ⟨m, rfl⟩ : ∃ m : Nat, x0 = (m : Int) := ⟨x0.toNat, by omega⟩
    obtain ⟨k, rfl⟩ : ∃ k : Nat, x1 = (k : Int) := ⟨x1.toNat, by omega⟩
    have h2 : 2 * 2 ≤ m * k := Nat.mul_le_mul (by omega) (by omega)
    rw [← Int.natCast_mul] at hp
    omega
  go_wp2_with fail
  generalize opB .quo (floatOfInt .f64 u) 4621819117588971520 w4 = xb at *
  have R5 : Hid ((w4.drewN (opD .quo (floatOfInt .f64 u) 4621819117588971520)).ownsRow (g + 1) 30 1 (.slice (some ⟨w2.heap.size, 0, none⟩) 0 0) 0 (flts [])) := R4.out
  have D5 : Hid (DK r A g w (w4.drewN (opD .quo (floatOfInt .f64 u) 4621819117588971520)) x0 x1 x2 x3 x4) := ⟨D4.out.rd.drewN _, D4.out.tn.drewN _, D4.out.ab, D4.out.gb⟩
  generalize w4.drewN (opD .quo (floatOfInt .f64 u) 4621819117588971520) = w5 at *
  clear R4 D4 hu1 hu2
  go_loopw [5, 6] (fun v q wr => ∃ (k : Nat) (M : List Nat) (b : Nat), k ≤ p ∧ M.length = k ∧ q = .float .f64 b ∧ b < 18446744073709551616 ∧ lenOf v = k ∧ Hid (∀ z ∈ M, z < 18446744073709551616) ∧ Hid (wr.ownsRow (g + 1) 30 1 v k (flts M)) ∧ Hid (DK r A g w wr x0 x1 x2 x3 x4)) (fun v _ _ => p - lenOf v)
  case atStart => exact ⟨0, [], xb, Nat.zero_le _, rfl, rfl, lq, rfl, fun z hz => by simp at hz, R5, D5⟩
  case round =>
    clear R5 D5 lq
    obtain ⟨k, M, b, hk, hM, rfl, hb, hlv, HB, R, D⟩ := hrel
    obtain ⟨v, hv⟩ : ∃ v, v = u5 := ⟨_, rfl⟩
    subst hv
    obtain ⟨sa, sc, hv⟩ : ∃ a c, v = .slice a k c := by
      have := Fls.reads_row (L := M) (by rw [hM]; exact R.out)
      obtain ⟨a, c, e⟩ := this.form
      rw [hM] at e
      exact ⟨a, c, e⟩
    subst hv
    clear hlv
    obtain ⟨c0, c1, c2, c3, c4, cf⟩ := D.out.gb.cells
    clear cf c2 c3 c4
    by_cases hlt : k < p
    · have i2 : (k : Int) < (p : Int) := by omega
      go_wp2_with fail
      clear c0 c1
      refine (below_all r _ D.out.rd 40 (by omega) (by omega)).mono ?_
      rintro e w6 ⟨⟨y, ⟨hy1, hy2⟩, rfl⟩, kk, tt⟩
      replace hy2 : y < 40 := hy2
      have R6 : w6.ownsRow (g + 1) 30 1 (.slice sa k sc) k (flts M) := row_turn R.out tt (by omega)
      have D6 : DK r A g w w6 x0 x1 x2 x3 x4 := D.out.turn tt kk (by omega) (by omega)
      obtain ⟨yb, hyb⟩ : ∃ yb, yb = floatOfInt .f64 (y - 20) := ⟨_, rfl⟩
      have ey : IntKind.i64.wrap (y - 20) = y - 20 := IntWalk.i64_in _ (by omega)
      have nb := op_lt .add b (opB .quo yb 4621819117588971520 w6) (w6.drewN (opD .quo yb 4621819117588971520))
      obtain ⟨w7, hw7⟩ : ∃ w7, w7 = w6.drewN (opD .quo yb 4621819117588971520 + opD .add b (opB .quo yb 4621819117588971520 w6)) := ⟨_, rfl⟩
      have HW7 : Hid (w7 = w6.drewN (opD .quo yb 4621819117588971520 + opD .add b (opB .quo yb 4621819117588971520 w6))) := hw7
      have R7 : Hid (w7.ownsRow (g + 1) 30 1 (.slice sa k sc) k (flts M)) := (by show World.ownsRow _ _ _ _ _ _ _; rw [hw7]; exact R6)
      have D7 : Hid (DK r A g w w7 x0 x1 x2 x3 x4) := (by show DK _ _ _ _ _ _ _ _ _ _; rw [hw7]; exact ⟨D6.rd.drewN _, D6.tn.drewN _, D6.ab, D6.gb⟩)
      have HYB : Hid (yb = floatOfInt .f64 (y - 20)) := hyb
      clear kk tt R D R6 D6 hw7 hyb
      go_upto_region 6 with fail
      rw [← HYB.out, ← HW7.out]
      generalize opB .add b (opB .quo yb 4621819117588971520 w6) (w6.drewN (opD .quo yb 4621819117588971520)) = nx at *
      clear HW7 HYB ey
      have z7 : g + 1 ≤ w7.heap.size := D7.out.gb.lt
      go_wp2_with (at_builtin; refine wpList_append_own _ rfl _ _ 26 rfl (g + 1) 30 i0 (.float .f64 0) 1 8 Try.underlying26 hi hz0 hz1 hz2 rfl (by decide) _ _ _ rfl (R7.out.alloc _) ⟨w7.heap.size, 0, none⟩ 1 1 [.float .f64 nx] rfl rfl (cell_one w7 _ 30) (one_one _) (by unfold maxLen; omega) (by omega) (by simp; omega) ?_)
      intro v' w8 hown hgrow _
      have R8 : Hid (w8.ownsRow (g + 1) 30 1 v' (k + 1) (flts (M ++ [nx]))) := (by show World.ownsRow _ _ _ _ _ _ _; rw [flts_snoc]; exact hown)
      have BG : Below (g + 1) w7 w8 := ((Below.refl (g + 1) w7).alloc z7 _).grown hgrow (by simp; omega) (fun b hb => (R7.out.lt b hb).1)
      have D8 : Hid (DK r A g w w8 x0 x1 x2 x3 x4) := D7.out.below BG hr (by have := HA.out; omega) (by omega) (by omega)
      have HB8 : Hid (∀ z ∈ M ++ [nx], z < 18446744073709551616) := fun z hz => (by
        rcases List.mem_append.1 hz with h | h
        · exact HB.out z h
        · simp at h; subst h; exact nb)
      have hM8 : (M ++ [nx]).length = k + 1 := by simp [hM]
      clear hown hgrow BG R7 D7 HB
      generalize M ++ [nx] = M8 at *
      obtain ⟨va, vc, hv⟩ : ∃ a c, v' = .slice a (k + 1) c := by
        have := Fls.reads_row (L := M8) (by rw [hM8]; exact R8.out)
        obtain ⟨a, c, e⟩ := this.form
        rw [hM8] at e
        exact ⟨a, c, e⟩
      subst hv
      go_wp2_with fail
      refine (once_any r _ D8.out.rd 14 (by omega) (by omega)).mono ?_
      rintro e w9 ⟨⟨uu, rfl⟩, kk, tt⟩
      have R9 : Hid (w9.ownsRow (g + 1) 30 1 (.slice va (k + 1) vc) (k + 1) (flts M8)) := row_turn R8.out tt (by omega)
      have D9 : Hid (DK r A g w w9 x0 x1 x2 x3 x4) := D8.out.turn tt kk (by omega) (by omega)
      clear kk tt R8 D8
      cases uu
      · go_wp2_with fail
        go_roundw
        case rel => exact ⟨k + 1, M8, nx, by omega, hM8, rfl, nb, rfl, HB8, R9, D9⟩
        case measure => simp [lenOf]; omega
      · go_wp2_with fail
        refine (float_any r _ D9.out.rd).mono ?_
        rintro e w10 ⟨⟨nz, hnz, rfl⟩, kk, tt⟩
        have R10 : w10.ownsRow (g + 1) 30 1 (.slice va (k + 1) vc) (k + 1) (flts M8) := row_turn R9.out tt (by omega)
        have D10 : DK r A g w w10 x0 x1 x2 x3 x4 := D9.out.turn tt kk (by omega) (by omega)
        obtain ⟨gb, hva⟩ : ∃ gb, va = some ⟨gb, 0, none⟩ := by
          rcases Fls.row_cases (L := M8) (by rw [hM8]; exact R10) with ⟨e, _⟩ | ⟨gb, cap, e, _⟩
          · rw [e] at hM8; simp at hM8
          · simp at e; exact ⟨gb, e.1⟩
        subst hva
        have hgb := R10.lt gb rfl
        have q1 : w10.cell? ⟨gb, k, none⟩ = some (.float .f64 (M8.getD k 0)) := by
          have := R10.cellAt k (by omega)
          rw [this]
          have hl : k < M8.length := by omega
          simp [flts, List.getElem?_map, List.getElem?_eq_getElem hl]
        have q2 : w10.frozen? ⟨gb, k, none⟩ = false := R10.frozenAt k
        have R11 : Hid ((w10.setCell ⟨gb, k, none⟩ (.float .f64 nz)).ownsRow (g + 1) 30 1 (.slice (some ⟨gb, 0, none⟩) (k + 1) vc) (k + 1) (flts (M8.set k nz))) := (by
          show World.ownsRow _ _ _ _ _ _ _
          rw [← Fls.flts_set]
          exact (R10.stored k _).1)
        have D11 : Hid (DK r A g w (w10.setCell ⟨gb, k, none⟩ (.float .f64 nz)) x0 x1 x2 x3 x4) := D10.row hr (by have := HA.out; omega) (by omega) (by omega) _
        have HB11 : Hid (∀ z ∈ M8.set k nz, z < 18446744073709551616) := fun z hz => (by
          rcases List.mem_or_eq_of_mem_set hz with h | h
          · exact HB8.out z h
          · rw [h]; exact hnz)
        have hM11 : (M8.set k nz).length = k + 1 := by simp [hM8]
        have k1 : ((k + 1 : Nat) : Int) - 1 = (k : Int) := by omega
        have k2 : (0 : Int) ≤ (k : Int) := by omega
        have k3 : (k : Int) < ((k + 1 : Nat) : Int) := by omega
        have k4 : (k : Int) < (k : Int) + 1 := by omega
        clear kk tt R10 D10 R9 D9 HB8
        generalize M8.set k nz = M11 at *
        generalize M8.getD k 0 = oz at *
        go_wp2_with fail
        go_roundw
        case rel => exact ⟨k + 1, M11, nx, by omega, hM11, rfl, nb, rfl, HB11, R11, D11⟩
        case measure => simp [lenOf]; omega
    · have hkp : k = p := by omega
      subst hkp
      have j1 : ¬ (k : Int) < (k : Int) := by omega
      go_wp2_with fail
      clear c0 c1
      refine (below_all r _ D.out.rd 24 (by omega) (by omega)).mono ?_
      rintro e w6 ⟨⟨y, ⟨hy1, hy2⟩, rfl⟩, kk, tt⟩
      replace hy2 : y < 24 := hy2
      have R6 : w6.ownsRow (g + 1) 30 1 (.slice sa k sc) k (flts M) := row_turn R.out tt (by omega)
      have D6 : Hid (DK r A g w w6 x0 x1 x2 x3 x4) := D.out.turn tt kk (by omega) (by omega)
      have F6 : Hid (FR (g + 1) w6 (.slice sa k sc) M) := row_fr (L := M) (by rw [hM]; exact R6)
      have n6 : r < w6.heap.size := kk.lt
      have FIN : Hid (∀ (wf : World) (z0 z1 z2 z3 z4 : Int), DK r A g w wf z0 z1 z2 z3 z4 → ∀ (v : Value) (L : List Nat), FR (g + 1) wf v L → ∀ (y0 y1 y2 y3 y4 : Value), FR w.heap.size (((((wf.setCell ⟨A, 0, none⟩ y0).setCell ⟨A, 1, none⟩ y1).setCell ⟨A, 2, none⟩ y2).setCell ⟨A, 3, none⟩ y3).setCell ⟨A, 4, none⟩ y4) v L ∧ Rd r (((((wf.setCell ⟨A, 0, none⟩ y0).setCell ⟨A, 1, none⟩ y1).setCell ⟨A, 2, none⟩ y2).setCell ⟨A, 3, none⟩ y3).setCell ⟨A, 4, none⟩ y4) ∧ Turn r w (((((wf.setCell ⟨A, 0, none⟩ y0).setCell ⟨A, 1, none⟩ y1).setCell ⟨A, 2, none⟩ y2).setCell ⟨A, 3, none⟩ y3).setCell ⟨A, 4, none⟩ y4)) := fun wf z0 z1 z2 z3 z4 d v L f y0 y1 y2 y3 y4 => (by
        have hA := HA.out
        exact ⟨(((((f.set (by omega)).set (by omega)).set (by omega)).set (by omega)).set (by omega)).down (by omega), rd_five d.rd hrA _ _ _ _ _, turn_five d.tn hr (by omega) _ _ _ _ _⟩)
      clear kk tt R D R6
      by_cases y5 : 5 ≤ y
      · have e0 : (y == 0) = false := by simp; omega
        have e1 : (y == 1) = false := by simp; omega
        have e2 : (y == 2) = false := by simp; omega
        have e3 : (y == 3) = false := by simp; omega
        have e4 : (y == 4) = false := by simp; omega
        have DD : Hid (DK r A g w w6 x0 x1 x2 x3 x4) := D6.out
        have FF : Hid (FR (g + 1) w6 (.slice sa k sc) M) := F6.out
        clear D6 F6
        obtain ⟨y0, y1, y2, y3, y4, yf⟩ := DD.out.gb.cells
        obtain ⟨a0, a1, a2, a3, a4, af⟩ := DD.out.ab.cells
        have f0 := af 0; have f1 := af 1; have f2 := af 2; have f3 := af 3; have f4 := af 4
        have HF := FIN.out _ _ _ _ _ _ DD.out _ _ FF.out (.int .i64 (x0)) (.int .i64 (x1)) (.int .i64 (x2)) (.int .i64 (x3)) (.int .i64 (x4))
        have HFF : Hid (_ ∧ _ ∧ _) := HF
        clear yf af HF DD FF
        go_wp2_with fail
        exact bodyPost_ret (v := .tuple #[gv (x0) (x1) (x2) (x3) (x4), .slice sa k sc]) (by simp [results, Try.results9, go_sem, a0, a1, a2, a3, a4]) rfl ⟨x0, x1, x2, x3, x4, .slice sa k sc, M, rfl, HQ.out, HFF.out.1, HB.out, by omega, HFF.out.2.1, HFF.out.2.2⟩
      obtain ⟨qb0, qb1, qb2, qb3, qb4⟩ := HQ.out
      by_cases y1 : y = 1
      · subst y1
        have DB : Hid (DK r A g w (w6.alloc (.cells #[.int .i64 (-9000), .int .i64 9000, .int .i64 (-9001)] 2)) x0 x1 x2 x3 x4) := D6.out.alloc hr _
        have FB : Hid (FR (g + 1) (w6.alloc (.cells #[.int .i64 (-9000), .int .i64 9000, .int .i64 (-9001)] 2)) (.slice sa k sc) M) := F6.out.on ((Below.refl _ _).alloc (Nat.le_refl _) _)
        go_wp2_with fail
        refine (below_all r _ DB.out.rd 3 (by omega) (by omega)).mono ?_
        rintro e w7 ⟨⟨z, ⟨hz1', hz2'⟩, rfl⟩, kk, tt⟩
        replace hz2' : z < 3 := hz2'
        obtain ⟨q, cq, hq⟩ := lit3 (-9000) (9000) (-9001) z tt n6 hz1' hz2'
        have D7 := DB.out.turn tt kk (by omega) (by omega)
        have DD : Hid (DK r A g w (w7.setCell ⟨g, 2, none⟩ (.int .i64 q)) x0 x1 q x3 x4) := D7.s2 hr (by have := HA.out; omega) (by omega) q
        have FF : Hid (FR (g + 1) (w7.setCell ⟨g, 2, none⟩ (.int .i64 q)) (.slice sa k sc) M) := (FB.out.turn tt (by omega)).set (by omega)
        obtain ⟨o0, o1, o2, o3, o4, of⟩ := D7.gb.cells
        have of2 := of 2
        clear of kk tt D7 DB FB D6 F6
        go_upto_region 20 with fail
        clear o0 o1 o2 o3 o4 of2 cq
        generalize w7.setCell ⟨g, 2, none⟩ (.int .i64 q) = w8 at *
        obtain ⟨y0, y1, y2, y3, y4, yf⟩ := DD.out.gb.cells
        obtain ⟨a0, a1, a2, a3, a4, af⟩ := DD.out.ab.cells
        have f0 := af 0; have f1 := af 1; have f2 := af 2; have f3 := af 3; have f4 := af 4
        have HF := FIN.out _ _ _ _ _ _ DD.out _ _ FF.out (.int .i64 (x0)) (.int .i64 (x1)) (.int .i64 (q)) (.int .i64 (x3)) (.int .i64 (x4))
        have HFF : Hid (_ ∧ _ ∧ _) := HF
        clear yf af HF DD FF
        go_wp2_with fail
        exact bodyPost_ret (v := .tuple #[gv (x0) (x1) (q) (x3) (x4), .slice sa k sc]) (by simp [results, Try.results9, go_sem, a0, a1, a2, a3, a4]) rfl ⟨x0, x1, q, x3, x4, .slice sa k sc, M, rfl, ⟨by omega, by omega, by omega, by omega, by omega⟩, HFF.out.1, HB.out, by omega, HFF.out.2.1, HFF.out.2.2⟩
      by_cases y2 : y = 2
      · subst y2
        have DB : Hid (DK r A g w (w6.alloc (.cells #[.int .i64 0, .int .i64 3000, .int .i64 3001] 2)) x0 x1 x2 x3 x4) := D6.out.alloc hr _
        have FB : Hid (FR (g + 1) (w6.alloc (.cells #[.int .i64 0, .int .i64 3000, .int .i64 3001] 2)) (.slice sa k sc) M) := F6.out.on ((Below.refl _ _).alloc (Nat.le_refl _) _)
        go_wp2_with fail
        refine (below_all r _ DB.out.rd 3 (by omega) (by omega)).mono ?_
        rintro e w7 ⟨⟨z, ⟨hz1', hz2'⟩, rfl⟩, kk, tt⟩
        replace hz2' : z < 3 := hz2'
        obtain ⟨q, cq, hq⟩ := lit3 (0) (3000) (3001) z tt n6 hz1' hz2'
        have D7 := DB.out.turn tt kk (by omega) (by omega)
        have DD : Hid (DK r A g w (w7.setCell ⟨g, 4, none⟩ (.int .i64 q)) x0 x1 x2 x3 q) := D7.s4 hr (by have := HA.out; omega) (by omega) q
        have FF : Hid (FR (g + 1) (w7.setCell ⟨g, 4, none⟩ (.int .i64 q)) (.slice sa k sc) M) := (FB.out.turn tt (by omega)).set (by omega)
        obtain ⟨o0, o1, o2, o3, o4, of⟩ := D7.gb.cells
        have of4 := of 4
        clear of kk tt D7 DB FB D6 F6
        go_upto_region 20 with fail
        clear o0 o1 o2 o3 o4 of4 cq
        generalize w7.setCell ⟨g, 4, none⟩ (.int .i64 q) = w8 at *
        obtain ⟨y0, y1, y2, y3, y4, yf⟩ := DD.out.gb.cells
        obtain ⟨a0, a1, a2, a3, a4, af⟩ := DD.out.ab.cells
        have f0 := af 0; have f1 := af 1; have f2 := af 2; have f3 := af 3; have f4 := af 4
        have HF := FIN.out _ _ _ _ _ _ DD.out _ _ FF.out (.int .i64 (x0)) (.int .i64 (x1)) (.int .i64 (x2)) (.int .i64 (x3)) (.int .i64 (q))
        have HFF : Hid (_ ∧ _ ∧ _) := HF
        clear yf af HF DD FF
        go_wp2_with fail
        exact bodyPost_ret (v := .tuple #[gv (x0) (x1) (x2) (x3) (q), .slice sa k sc]) (by simp [results, Try.results9, go_sem, a0, a1, a2, a3, a4]) rfl ⟨x0, x1, x2, x3, q, .slice sa k sc, M, rfl, ⟨by omega, by omega, by omega, by omega, by omega⟩, HFF.out.1, HB.out, by omega, HFF.out.2.1, HFF.out.2.2⟩
      by_cases y3 : y = 3
      · subst y3
        have DB : Hid (DK r A g w (w6.alloc (.cells #[.int .i64 (-18000), .int .i64 18000, .int .i64 18001] 2)) x0 x1 x2 x3 x4) := D6.out.alloc hr _
        have FB : Hid (FR (g + 1) (w6.alloc (.cells #[.int .i64 (-18000), .int .i64 18000, .int .i64 18001] 2)) (.slice sa k sc) M) := F6.out.on ((Below.refl _ _).alloc (Nat.le_refl _) _)
        go_wp2_with fail
        refine (below_all r _ DB.out.rd 3 (by omega) (by omega)).mono ?_
        rintro e w7 ⟨⟨z, ⟨hz1', hz2'⟩, rfl⟩, kk, tt⟩
        replace hz2' : z < 3 := hz2'
        obtain ⟨q, cq, hq⟩ := lit3 (-18000) (18000) (18001) z tt n6 hz1' hz2'
        have D7 := DB.out.turn tt kk (by omega) (by omega)
        have DD : Hid (DK r A g w (w7.setCell ⟨g, 3, none⟩ (.int .i64 q)) x0 x1 x2 q x4) := D7.s3 hr (by have := HA.out; omega) (by omega) q
        have FF : Hid (FR (g + 1) (w7.setCell ⟨g, 3, none⟩ (.int .i64 q)) (.slice sa k sc) M) := (FB.out.turn tt (by omega)).set (by omega)
        obtain ⟨o0, o1, o2, o3, o4, of⟩ := D7.gb.cells
        have of3 := of 3
        clear of kk tt D7 DB FB D6 F6
        go_upto_region 20 with fail
        clear o0 o1 o2 o3 o4 of3 cq
        generalize w7.setCell ⟨g, 3, none⟩ (.int .i64 q) = w8 at *
        obtain ⟨y0, y1, y2, y3, y4, yf⟩ := DD.out.gb.cells
        obtain ⟨a0, a1, a2, a3, a4, af⟩ := DD.out.ab.cells
        have f0 := af 0; have f1 := af 1; have f2 := af 2; have f3 := af 3; have f4 := af 4
        have HF := FIN.out _ _ _ _ _ _ DD.out _ _ FF.out (.int .i64 (x0)) (.int .i64 (x1)) (.int .i64 (x2)) (.int .i64 (q)) (.int .i64 (x4))
        have HFF : Hid (_ ∧ _ ∧ _) := HF
        clear yf af HF DD FF
        go_wp2_with fail
        exact bodyPost_ret (v := .tuple #[gv (x0) (x1) (x2) (q) (x4), .slice sa k sc]) (by simp [results, Try.results9, go_sem, a0, a1, a2, a3, a4]) rfl ⟨x0, x1, x2, q, x4, .slice sa k sc, M, rfl, ⟨by omega, by omega, by omega, by omega, by omega⟩, HFF.out.1, HB.out, by omega, HFF.out.2.1, HFF.out.2.2⟩
      by_cases y4 : y = 4
      · subst y4
        have hcap : k ≤ sc := by
          rcases F6.out with ⟨e, _⟩ | ⟨b', o', cap, e, h2, _⟩
          · rw [e] at hM; simp at hM; omega
          · simp at e; omega
        obtain ⟨k', hk'⟩ : ∃ k', k = k' + 1 := ⟨k - 1, by omega⟩
        have sl := slice_h sa k sc k' (by omega)
        have e1 : (k : Int) - 1 = (k' : Int) := by omega
        have DD : Hid (DK r A g w w6 x0 x1 x2 x3 x4) := D6.out
        have FF : Hid (FR (g + 1) w6 (.slice sa k' sc) (M.take k')) := F6.out.take k' (by omega)
        have HBT : Hid (∀ z ∈ M.take k', z < 18446744073709551616) := fun z hz => HB.out z (List.mem_of_mem_take hz)
        have lT : (M.take k').length ≤ 25 := by simp; omega
        clear D6 F6
        clear hk'
        obtain ⟨y0, y1, y2, y3, y4, yf⟩ := DD.out.gb.cells
        obtain ⟨a0, a1, a2, a3, a4, af⟩ := DD.out.ab.cells
        have f0 := af 0; have f1 := af 1; have f2 := af 2; have f3 := af 3; have f4 := af 4
        have HF := FIN.out _ _ _ _ _ _ DD.out _ _ FF.out (.int .i64 (x0)) (.int .i64 (x1)) (.int .i64 (x2)) (.int .i64 (x3)) (.int .i64 (x4))
        have HFF : Hid (_ ∧ _ ∧ _) := HF
        clear yf af HF DD FF
        go_wp2_with fail
        exact bodyPost_ret (v := .tuple #[gv (x0) (x1) (x2) (x3) (x4), .slice sa k' sc]) (by simp [results, Try.results9, go_sem, a0, a1, a2, a3, a4]) rfl ⟨x0, x1, x2, x3, x4, .slice sa k' sc, M.take k', rfl, HQ.out, HFF.out.1, HBT.out, lT, HFF.out.2.1, HFF.out.2.2⟩
      have y0 : y = 0 := by omega
      subst y0
      obtain ⟨o0, o1, o2, o3, o4, of⟩ := D6.out.gb.cells
      have of0 := of 0
      clear of o1 o2 o3 o4
      have ex : IntKind.i64.wrap (x0 + 1) = x0 + 1 := IntWalk.i64_in _ (by omega)
      have D6d : Hid (DK r A g w w6.drew x0 x1 x2 x3 x4) := ⟨D6.out.rd.drewN 1, D6.out.tn.drewN 1, D6.out.ab, D6.out.gb⟩
      have F6d : Hid (FR (g + 1) w6.drew (.slice sa k sc) M) := F6.out.on ((Below.refl _ _).drew)
      have DL0 := D6.out.alloc hr (.cells #[.int .i64 1, .int .i64 (x0 + 1), .int .i64 64, .int .i64 65] 2)
      have DL : Hid (DK r A g w (w6.alloc (.cells #[.int .i64 1, .int .i64 (x0 + 1), .int .i64 64, .int .i64 65] 2)).drew x0 x1 x2 x3 x4) := ⟨DL0.rd.drewN 1, DL0.tn.drewN 1, DL0.ab, DL0.gb⟩
      have FL : Hid (FR (g + 1) (w6.alloc (.cells #[.int .i64 1, .int .i64 (x0 + 1), .int .i64 64, .int .i64 65] 2)).drew (.slice sa k sc) M) := (F6.out.on ((Below.refl _ _).alloc (Nat.le_refl _) _)).on ((Below.refl _ _).drew)
      have HS : Hid (∀ (wx : World) (q : Int), DK r A g w wx x0 x1 x2 x3 x4 → FR (g + 1) wx (.slice sa k sc) M → DK r A g w (wx.setCell ⟨g, 0, none⟩ (.int .i64 q)) q x1 x2 x3 x4 ∧ FR (g + 1) (wx.setCell ⟨g, 0, none⟩ (.int .i64 q)) (.slice sa k sc) M) := fun wx q d f => ⟨d.s0 hr (by have := HA.out; omega) (by omega) q, f.set (by omega)⟩
      have qbq : ∀ q : Int, (q = 1 ∨ q = x0 + 1 ∨ q = 64 ∨ q = 65) → 1 ≤ q ∧ q ≤ 65 := fun q h => by omega
      have HQB : Hid (∀ q : Int, (q = 1 ∨ q = x0 + 1 ∨ q = 64 ∨ q = 65) → 1 ≤ q ∧ q ≤ 65) := qbq
      clear DL0 D6 F6 qbq
      go_upto_region 11 with fail
      go_region_with (go_at_call 10; first
        | (refine (below_all r _ DL.out.rd 4 (by omega) (by omega)).mono ?_
           rintro e w7 ⟨⟨z, ⟨hz1', hz2'⟩, rfl⟩, kk, tt⟩
           replace hz2' : z < 4 := hz2'
           obtain ⟨q, cq, hq⟩ := lit4 1 (x0 + 1) 64 65 z (((Turn.refl r _).drewN 1).trans tt) n6 hz1' hz2'
           have D7 := DL.out.turn tt kk (by omega) (by omega)
           have F7 := FL.out.turn tt (show r < g + 1 by omega)
           have DF := HS.out w7 q D7 F7
           have DD : Hid (DK r A g w (w7.setCell ⟨g, 0, none⟩ (.int .i64 q)) q x1 x2 x3 x4) := DF.1
           have FF : Hid (FR (g + 1) (w7.setCell ⟨g, 0, none⟩ (.int .i64 q)) (.slice sa k sc) M) := DF.2
           have HQ' := HQB.out q hq
           obtain ⟨r0, _, _, _, _, rf⟩ := D7.gb.cells
           have rf0 := rf 0
           clear rf DF D7 F7 kk tt hq)
        | (refine (below_all r _ D6d.out.rd 4 (by omega) (by omega)).mono ?_
           rintro e w7 ⟨⟨z, ⟨hz1', hz2'⟩, rfl⟩, kk, tt⟩
           replace hz2' : z < 4 := hz2'
           have nw : r < w7.heap.size := kk.lt
           obtain ⟨q, cq, hq⟩ := lit4 1 (x0 + 1) 64 65 z (Turn.refl r (w7.alloc (.cells #[.int .i64 1, .int .i64 (x0 + 1), .int .i64 64, .int .i64 65] 2))) nw hz1' hz2'
           have D7 := D6d.out.turn tt kk (by omega) (by omega)
           have F7 := F6d.out.turn tt (show r < g + 1 by omega)
           have D8 := D7.alloc hr (.cells #[.int .i64 1, .int .i64 (x0 + 1), .int .i64 64, .int .i64 65] 2)
           have F8 := F7.on ((Below.refl _ _).alloc (Nat.le_refl _) (.cells #[.int .i64 1, .int .i64 (x0 + 1), .int .i64 64, .int .i64 65] 2))
           have DF := HS.out (w7.alloc (.cells #[.int .i64 1, .int .i64 (x0 + 1), .int .i64 64, .int .i64 65] 2)) q D8 F8
           have DD : Hid (DK r A g w ((w7.alloc (.cells #[.int .i64 1, .int .i64 (x0 + 1), .int .i64 64, .int .i64 65] 2)).setCell ⟨g, 0, none⟩ (.int .i64 q)) q x1 x2 x3 x4) := DF.1
           have FF : Hid (FR (g + 1) ((w7.alloc (.cells #[.int .i64 1, .int .i64 (x0 + 1), .int .i64 64, .int .i64 65] 2)).setCell ⟨g, 0, none⟩ (.int .i64 q)) (.slice sa k sc) M) := DF.2
           have HQ' := HQB.out q hq
           obtain ⟨r0, _, _, _, _, rf⟩ := D7.gb.cells
           have rf0 := rf 0
           obtain ⟨s0', _, _, _, _, sf⟩ := D8.gb.cells
           have sf0 := sf 0
           clear rf sf DF D7 F7 D8 F8 kk tt hq nw))
      all_goals
        clear cq r0 rf0
        obtain ⟨y0, y1, y2, y3, y4, yf⟩ := DD.out.gb.cells
        obtain ⟨a0, a1, a2, a3, a4, af⟩ := DD.out.ab.cells
        have f0 := af 0; have f1 := af 1; have f2 := af 2; have f3 := af 3; have f4 := af 4
        have HF := FIN.out _ _ _ _ _ _ DD.out _ _ FF.out (.int .i64 q) (.int .i64 x1) (.int .i64 x2) (.int .i64 x3) (.int .i64 x4)
        have HFF : Hid (_ ∧ _ ∧ _) := HF
        clear yf af HF DD FF
        go_wp2_with fail
        exact bodyPost_ret (v := .tuple #[gv q x1 x2 x3 x4, .slice sa k sc]) (by simp [results, Try.results9, go_sem, a0, a1, a2, a3, a4]) rfl ⟨q, x1, x2, x3, x4, .slice sa k sc, M, rfl, ⟨HQ', qb1, qb2, qb3, qb4⟩, HFF.out.1, HB.out, by omega, HFF.out.2.1, HFF.out.2.2⟩
end Go.Proofs.Ytknkmkhnakcjiaa.Gd
