/- A box drawn and now and then spoilt. -/
import Derived.Test.YtagkbglgdmajhaaDr
namespace Go.Proofs.Ytagkbglgdmajhaa.Dr
open Go.ChangeShapes Go.WideShapes Go.ChangeAt Go.RowKit
open Go.Proofs.Ytagkbglgdmajhaa.Lists Go.Proofs.Ytagkbglgdmajhaa.Rd Go.Proofs.Ytagkbglgdmajhaa.Wn

def Lies (r : Nat) (w : World) (v : Value) (L : List Int) : Prop := Lists.Reads w v L ∧ ∀ g o l c, v = .slice (some ⟨g, o, none⟩) l c → 0 < l → g ≠ r
theorem Lies.turn {r : Nat} {w w' : World} {v : Value} {L : List Int} (h : Lies r w v L) (t : Turn r w w') : Lies r w' v L := by
  obtain ⟨h1, h2⟩ := h
  refine ⟨?_, h2⟩
  rcases h1 with h1 | ⟨b, o, cap, rfl, e1, e2, e3, e4⟩
  · exact .inl h1
  · refine .inr ⟨b, o, cap, rfl, e1, e2, Nat.lt_of_lt_of_le e3 t.size, fun i hi => ?_⟩
    rw [t.cell (o + i) e3 (h2 b o _ cap rfl (by omega))]
    exact e4 i hi
theorem lies_row {r B : Nat} {w : World} {v : Value} {L : List Int} (R : w.ownsRow B 2 1 v L.length (ints L)) (hr : r < B) : Lies r w v L := by
  refine ⟨Lists.reads_row R, fun g o l c e h0 => ?_⟩
  subst e
  rcases R.2 with ⟨h, _⟩ | ⟨g', cap, cur, h, hb, _⟩
  · cases h
  · simp at h
    obtain ⟨⟨rfl, _⟩, _⟩ := h
    omega
/-- A drawn box at B, to be told at R. -/
structure FS (w : World) (r R B : Nat) (wx : World) (a b : Int) (v : Value) (L : List Int) : Prop where
  rd : Rd.Rd r wx
  tn : Turn r w wx
  bx : Bo.Box wx B (.int .i64 a) (.int .i64 b) v
  fz : ∀ i, wx.frozen? ⟨B, i, none⟩ = false
  rc : (∃ u0 u1 u2, Bo.Box wx R u0 u1 u2) ∧ ∀ i, wx.frozen? ⟨R, i, none⟩ = false
  lt : w.heap.size ≤ R ∧ R < B ∧ B < wx.heap.size
  li : Lies r wx v L
  le : L.length ≤ 90
theorem FS.turn {w : World} {r R B : Nat} {wx w2 : World} {a b : Int} {v : Value} {L : List Int} (h : FS w r R B wx a b v L) (hr : r < w.heap.size) (k : Rd.Rd r w2) (t : Turn r wx w2) : FS w r R B w2 a b v L := by
  obtain ⟨l1, l2, l3⟩ := h.lt
  have o := turn_out t
  have eB := o.block B l3 (by omega)
  have eR := o.block R (by omega) (by omega)
  obtain ⟨b0, b1, b2⟩ := h.bx
  obtain ⟨⟨u0, u1, u2, c0, c1, c2⟩, cf⟩ := h.rc
  exact ⟨k, h.tn.trans t, ⟨(World.cell?_of_block eB).trans b0, (World.cell?_of_block eB).trans b1, (World.cell?_of_block eB).trans b2⟩, fun i => (World.frozen?_of_block eB).trans (h.fz i),
    ⟨⟨u0, u1, u2, (World.cell?_of_block eR).trans c0, (World.cell?_of_block eR).trans c1, (World.cell?_of_block eR).trans c2⟩, fun i => (World.frozen?_of_block eR).trans (cf i)⟩, ⟨l1, l2, Nat.lt_of_lt_of_le l3 o.size⟩, h.li.turn t, h.le⟩
theorem FS.drew {w : World} {r R B : Nat} {wx : World} {a b : Int} {v : Value} {L : List Int} (h : FS w r R B wx a b v L) (hr : r < w.heap.size) : FS w r R B wx.drew a b v L :=
  h.turn hr (h.rd.drewN 1) ((Turn.refl r wx).drewN 1)
theorem FS.alloc {w : World} {r R B : Nat} {wx : World} {a b : Int} {v : Value} {L : List Int} (h : FS w r R B wx a b v L) (hr : r < w.heap.size) (o : Obj) : FS w r R B (wx.alloc o) a b v L := by
  have hx : r < wx.heap.size := h.rd.lt
  exact h.turn hr (h.rd.kept ((Below.refl wx.heap.size wx).alloc (Nat.le_refl _) o) hx) ((Turn.refl r wx).alloc hx o)
theorem lies_put {r g : Nat} {w : World} {v : Value} {L : List Int} (h : Lies r w v L) (o : Nat) (u : Value) (hg : ∀ g' o l c, v = .slice (some ⟨g', o, none⟩) l c → 0 < l → g' ≠ g) : Lies r (w.setCell ⟨g, o, none⟩ u) v L := by
  obtain ⟨h1, h2⟩ := h
  refine ⟨?_, h2⟩
  rcases h1 with h1 | ⟨b, p, cap, rfl, e1, e2, e3, e4⟩
  · exact .inl h1
  · refine .inr ⟨b, p, cap, rfl, e1, e2, by simpa using e3, fun i hi => ?_⟩
    rw [World.cell?_of_block (Below.heap_setCell w ⟨g, o, none⟩ u b (hg b p _ cap rfl (by omega)))]
    exact e4 i hi
theorem FS.put {w : World} {r R B : Nat} {wx : World} {a b : Int} {v : Value} {L : List Int} (h : FS w r R B wx a b v L) (hr : r < w.heap.size) (i : Nat) (u : Value) (a' b' : Int) (v' : Value) (L' : List Int)
    (hb : Bo.Box (wx.setCell ⟨B, i, none⟩ u) B (.int .i64 a') (.int .i64 b') v') (hl : Lies r (wx.setCell ⟨B, i, none⟩ u) v' L') (hn : L'.length ≤ 90) : FS w r R B (wx.setCell ⟨B, i, none⟩ u) a' b' v' L' := by
  obtain ⟨l1, l2, l3⟩ := h.lt
  have eR := Below.heap_setCell wx ⟨B, i, none⟩ u R (by show R ≠ B; omega)
  obtain ⟨⟨u0, u1, u2, c0, c1, c2⟩, cf⟩ := h.rc
  exact ⟨h.rd.kept ((Below.refl (r + 1) wx).setCell (p := ⟨B, i, none⟩) (by show r + 1 ≤ B; omega) u) (Nat.lt_succ_self r), h.tn.setCell (p := ⟨B, i, none⟩) (by show w.heap.size ≤ B; omega) hr u, hb, fun j => by rw [World.frozen?_setCell]; exact h.fz j,
    ⟨⟨u0, u1, u2, (World.cell?_of_block eR).trans c0, (World.cell?_of_block eR).trans c1, (World.cell?_of_block eR).trans c2⟩, fun j => (World.frozen?_of_block eR).trans (cf j)⟩, ⟨l1, l2, by simpa using l3⟩, hl, hn⟩
/-- A mark set into the list itself. -/
theorem gds (O : List Int) (d x : Nat) (v : Int) (hd : d < O.length) : (O.set d v).getD x 0 = if x = d then v else O.getD x 0 := by
  simp only [List.getD_eq_getElem?_getD, List.getElem?_set]
  by_cases e : d = x
  · subst e; simp [hd]
  · rw [if_neg e, if_neg (by omega)]
theorem FS.poke {w : World} {r R B : Nat} {wx : World} {a b : Int} {g cap : Nat} {L : List Int} (h : FS w r R B wx a b (.slice (some ⟨g, 0, none⟩) L.length cap) L) (hr : r < w.heap.size) (hg : w.heap.size ≤ g) (hR : R ≠ g) (hB : B ≠ g) (x : Nat) (z : Int) (hx : x < L.length) : FS w r R B (wx.setCell ⟨g, x, none⟩ (.int .i64 z)) a b (.slice (some ⟨g, 0, none⟩) L.length cap) (L.set x z) := by
  obtain ⟨l1, l2, l3⟩ := h.lt
  have eR := Below.heap_setCell wx ⟨g, x, none⟩ (.int .i64 z) R hR
  have eB := Below.heap_setCell wx ⟨g, x, none⟩ (.int .i64 z) B hB
  obtain ⟨b0, b1, b2⟩ := h.bx
  obtain ⟨⟨u0, u1, u2, c0, c1, c2⟩, cf⟩ := h.rc
  refine ⟨h.rd.kept ((Below.refl (r + 1) wx).setCell (p := ⟨g, x, none⟩) (by show r + 1 ≤ g; omega) _) (Nat.lt_succ_self r), h.tn.setCell (p := ⟨g, x, none⟩) hg hr _,
    ⟨(World.cell?_of_block eB).trans b0, (World.cell?_of_block eB).trans b1, (World.cell?_of_block eB).trans b2⟩, fun i => (World.frozen?_of_block eB).trans (h.fz i),
    ⟨⟨u0, u1, u2, (World.cell?_of_block eR).trans c0, (World.cell?_of_block eR).trans c1, (World.cell?_of_block eR).trans c2⟩, fun j => (World.frozen?_of_block eR).trans (cf j)⟩, ⟨l1, l2, by simpa using l3⟩, ⟨?_, h.li.2⟩, by rw [List.length_set]; exact h.le⟩
  rcases h.li.1 with ⟨h1, _⟩ | ⟨b', p, cap', e0, e1, e2, e3, e4⟩
  · rw [h1] at hx; simp at hx
  · simp at e0
    obtain ⟨⟨rfl, rfl⟩, rfl⟩ := e0
    refine .inr ⟨g, 0, cap, by rw [List.length_set], by rw [List.length_set]; exact e1, e2, by simpa using e3, fun i hi => ?_⟩
    rw [List.length_set] at hi
    rw [gds L x i z hx]
    have c := e4 x hx
    rw [Nat.zero_add] at c ⊢
    by_cases e : i = x
    · subst e
      rw [if_pos rfl]
      exact World.cell?_setCell_same' _ _ _ (by rw [c]; rfl)
    · rw [if_neg e, World.cell?_setCell_other _ _ _ _ (fun q => by simp at q)]
      have := e4 i hi
      rwa [Nat.zero_add] at this
theorem three (u : Int) (h0 : 0 ≤ u) (h1 : u < 3) : u = 0 ∨ u = 1 ∨ u = 2 := by omega
theorem four (u : Int) (h0 : 0 ≤ u) (h1 : u < 4) : u = 0 ∨ u = 1 ∨ u = 2 ∨ u = 3 := by omega
end Go.Proofs.Ytagkbglgdmajhaa.Dr
