/- A box and a level drawn of a code. -/
import Derived.Test.YtimbghigjfioeaaDrC
import Derived.Test.YtimbghigjfioeaaRdJ
namespace Go.Proofs.Ytimbghigjfioeaa.Dr
open Go.ChangeShapes Go.WideShapes Go.ChangeAt Go.RowKit
open Go.Proofs.Ytimbghigjfioeaa.Lists Go.Proofs.Ytimbghigjfioeaa.Rd Go.Proofs.Ytimbghigjfioeaa.Wn

/-- A box at B, to be told at R; the reader lies between. -/
structure GS (w : World) (r R B : Nat) (wx : World) (a b : Int) (v : Value) (L : List Int) : Prop where
  rd : Rd.Rd r wx
  bel : Below w.heap.size w wx
  bx : Bo.Box wx B (.int .i64 a) (.int .i64 b) v
  rc : (∃ u0 u1 u2, Bo.Box wx R u0 u1 u2) ∧ ∀ i, wx.frozen? ⟨R, i, none⟩ = false
  lt : w.heap.size ≤ R ∧ R < r ∧ r < B ∧ B < wx.heap.size
  li : Lies r wx v L
theorem GS.turn {w : World} {r R B : Nat} {wx w2 : World} {a b : Int} {v : Value} {L : List Int} (h : GS w r R B wx a b v L) (k : Rd.Rd r w2) (t : Turn r wx w2) : GS w r R B w2 a b v L := by
  obtain ⟨l1, l2, l3, l4⟩ := h.lt
  have o := turn_out t
  have eB := o.block B l4 (by omega)
  have eR := o.block R (by omega) (by omega)
  obtain ⟨b0, b1, b2⟩ := h.bx
  obtain ⟨⟨u0, u1, u2, c0, c1, c2⟩, cf⟩ := h.rc
  exact ⟨k, h.bel.trans (t.bel.mono (by omega)), ⟨(World.cell?_of_block eB).trans b0, (World.cell?_of_block eB).trans b1, (World.cell?_of_block eB).trans b2⟩,
    ⟨⟨u0, u1, u2, (World.cell?_of_block eR).trans c0, (World.cell?_of_block eR).trans c1, (World.cell?_of_block eR).trans c2⟩, fun i => (World.frozen?_of_block eR).trans (cf i)⟩, ⟨l1, l2, l3, Nat.lt_of_lt_of_le l4 o.size⟩, h.li.turn t⟩
theorem GS.drew {w : World} {r R B : Nat} {wx : World} {a b : Int} {v : Value} {L : List Int} (h : GS w r R B wx a b v L) : GS w r R B wx.drew a b v L :=
  h.turn (h.rd.drewN 1) ((Turn.refl r wx).drewN 1)
/-- The box told. -/
def told (wx : World) (R : Nat) (a b : Int) (v : Value) : World := ((wx.setCell ⟨R, 0, none⟩ (.int .i64 a)).setCell ⟨R, 1, none⟩ (.int .i64 b)).setCell ⟨R, 2, none⟩ v
theorem GS.told {w : World} {r R B : Nat} {wx : World} {a b : Int} {v : Value} {L : List Int} (h : GS w r R B wx a b v L) (hv : ∀ g' o l c, v = .slice (some ⟨g', o, none⟩) l c → R < g') : Lists.Reads (told wx R a b v) v L ∧ Below w.heap.size w (told wx R a b v) := by
  obtain ⟨l1, l2, l3, l4⟩ := h.lt
  have nb : ∀ g' o l c, v = .slice (some ⟨g', o, none⟩) l c → 0 < l → g' ≠ R := fun g' o l c e _ => Nat.ne_of_gt (hv g' o l c e)
  exact ⟨(lies_put (lies_put (lies_put h.li 0 _ nb) 1 _ nb) 2 _ nb).1, ((h.bel.setCell (p := ⟨R, 0, none⟩) l1 _).setCell (p := ⟨R, 1, none⟩) l1 _).setCell (p := ⟨R, 2, none⟩) l1 _⟩

set_option maxRecDepth 20000 in
set_option maxHeartbeats 1000000 in
theorem cont_any (a : Option Addr) (n cap : Nat) (w : World) (h : Rd.Code w a n cap) (hn : n ≤ 1048576) :
    Calls Try.prog 9 #[.slice a n cap] w fun e w' => (∃ (x y lv : Int) (v : Value) (L : List Int), e = .returned (.tuple #[Bx.sv x y v, .int .i64 lv]) ∧ L.length ≤ 90 ∧ (∀ g' o l c, v = .slice (some ⟨g', o, none⟩) l c → w.heap.size < g') ∧ Lists.Reads w' v L) ∧ Below w.heap.size w w' := by
  have H : Hid (Rd.Code w a n cap) := h
  have HN : Hid (n ≤ 1048576) := hn
  clear h hn
  go_enter Try.func9, Try.ntmps9
  go_wp2_with fail
  refine (open_any _ a n cap rfl _).mono ?_
  rintro e w1 ⟨rfl, hw1⟩
  have B0 : Below w.heap.size w (w.alloc (Obj.cells #[.int .i64 0, .int .i64 0, .slice none 0 0] 26)) := (Below.refl _ _).alloc (Nat.le_refl _) _
  have K1 : Hid (Rd.Rd (w.heap.size + 1) w1) := (by show Rd.Rd _ _; rw [hw1]; have := Rd.new H.out HN.out B0; simpa using this)
  have B1 : Hid (Below w.heap.size w w1) := (by show Below _ _ _; rw [hw1]; exact B0.alloc (by simp) _)
  have E1 : Hid (w1.heap[w.heap.size]? = some (Obj.cells #[.int .i64 0, .int .i64 0, .slice none 0 0] 26) ∧ w1.heap.size = w.heap.size + 1 + 1) := (by
    show _ ∧ _
    rw [hw1]
    refine ⟨?_, by simp⟩
    rw [Below.heap_alloc _ _ _ (by simp)]
    exact World.alloc_heap_new w _)
  clear hw1 B0 H HN
  simp only [World.size_alloc]
  go_wp2_with fail
  refine (draw_any _ _ K1.out).mono ?_
  rintro e w2 ⟨⟨x, y, v, L, rfl, hl, hv, li⟩, k2, t2⟩
  obtain ⟨sa, sc, hv'⟩ := li.1.form
  subst hv'
  obtain ⟨V, hV⟩ : ∃ V, V = Value.slice sa L.length sc := ⟨_, rfl⟩
  have HV : Hid (V = Value.slice sa L.length sc) := hV
  go_upto_region 3 with fail
  rw [← hV] at hv li ⊢
  obtain ⟨w3, hw3⟩ : ∃ w3, w3 = w2.alloc (Obj.cells #[.int .i64 x, .int .i64 y, V] 26) := ⟨_, rfl⟩
  obtain ⟨B, hB⟩ : ∃ B, w2.heap.size = B := ⟨_, rfl⟩
  have S0 : Hid (GS w (w.heap.size + 1) w.heap.size B w3 x y V L) := (by
    show GS _ _ _ _ _ _ _ _ _
    obtain ⟨e1, e2⟩ := E1.out
    have o2 := turn_out t2
    have s2 := o2.size
    have hr : w.heap.size + 1 < w2.heap.size := by omega
    have eR := (o2.block w.heap.size (by omega) (by omega)).trans e1
    have hba : Below w2.heap.size w2 w3 := by rw [hw3]; exact (Below.refl _ _).alloc (Nat.le_refl _) _
    have eR3 := (hba.block w.heap.size (by omega)).trans eR
    subst hB
    refine ⟨k2.kept hba hr, (B1.out.trans (t2.bel.mono (by omega))).trans (hba.mono (by omega)), ?_, ⟨⟨.int .i64 0, .int .i64 0, .slice none 0 0, ?_⟩, fun i => ?_⟩, ⟨Nat.le_refl _, by omega, by omega, ?_⟩, li.turn (by rw [hw3]; exact (Turn.refl _ w2).alloc hr _)⟩
    · rw [hw3]; unfold Bo.Box; simp [go_sem]
    · unfold Bo.Box
      simp only [World.cell?, eR3]
      exact ⟨rfl, rfl, rfl⟩
    · simp [World.frozen?, eR3]
    · rw [hw3]; simp)
  rw [← hw3]
  rw [hB]
  have VR : Hid (∀ g' o l c, V = .slice (some ⟨g', o, none⟩) l c → w.heap.size < g') := fun g' o l c e => (by have := hv g' o l c e; have := E1.out.2; omega)
  have HL : Hid (L.length ≤ 90) := hl
  clear hw3 hB k2 t2 li hv hl B1 K1 E1 hV
  go_wp2_with fail
  refine (once_any _ _ S0.out.rd 12 (by omega) (by omega)).mono ?_
  rintro e w4 ⟨⟨u, rfl⟩, k4, t4⟩
  have S1 : Hid (GS w (w.heap.size + 1) w.heap.size B w4 x y V L) := S0.out.turn k4 t4
  clear S0 k4 t4
  obtain ⟨g0, g1, g2⟩ := id S1.out.bx
  obtain ⟨⟨c0, c1, c2, r0, r1, r2⟩, rf⟩ := S1.out.rc
  have f0 := rf 0
  have f1 := rf 1
  have f2 := rf 2
  have gg := S1.out.lt
  rw [HV.out] at g2
  cases u
  · go_upto_region 5 with fail
    go_region_with (go_at_call 18; refine (below_any _ _ S1.out.drew.rd 10 (by omega) (by omega)).mono ?_; rintro e w5 ⟨⟨z, _, rfl⟩, k6, t5⟩; have T1 : Hid (GS w (w.heap.size + 1) w.heap.size B w5 x y V L) := S1.out.drew.turn k6 t5; obtain ⟨o0, o1, o2⟩ := id T1.out.bx; rw [HV.out] at o2; obtain ⟨⟨d0, d1, d2, p0, p1, p2⟩, pf⟩ := T1.out.rc; have h0 := pf 0; have h1 := pf 1; have h2 := pf 2)
    all_goals
      go_wp2_with fail
      refine bodyPost_ret (v := .tuple #[Bx.sv x y (.slice sa L.length sc), .int .i64 z]) (by simp [results, Try.results9, go_sem, p0, p1, p2]) rfl ⟨⟨x, y, z, .slice sa L.length sc, L, rfl, HL.out, (by rw [← HV.out]; exact VR.out), ?_⟩, ?_⟩
      · have := (T1.out.told VR.out).1; rw [HV.out] at this; exact this
      · have := (T1.out.told VR.out).2; rw [HV.out] at this; exact this
  · go_upto_region 4 with fail
    go_region_with (go_at_call 17; refine (number_any _ _ S1.out.drew.rd).mono ?_; rintro e w5 ⟨⟨z, _, rfl⟩, k6, t5⟩; have T1 : Hid (GS w (w.heap.size + 1) w.heap.size B w5 x y V L) := S1.out.drew.turn k6 t5; obtain ⟨o0, o1, o2⟩ := id T1.out.bx; rw [HV.out] at o2; obtain ⟨⟨d0, d1, d2, p0, p1, p2⟩, pf⟩ := T1.out.rc; have h0 := pf 0; have h1 := pf 1; have h2 := pf 2)
    all_goals
      go_wp2_with fail
      refine bodyPost_ret (v := .tuple #[Bx.sv x y (.slice sa L.length sc), .int .i64 z]) (by simp [results, Try.results9, go_sem, p0, p1, p2]) rfl ⟨⟨x, y, z, .slice sa L.length sc, L, rfl, HL.out, (by rw [← HV.out]; exact VR.out), ?_⟩, ?_⟩
      · have := (T1.out.told VR.out).1; rw [HV.out] at this; exact this
      · have := (T1.out.told VR.out).2; rw [HV.out] at this; exact this

set_option maxRecDepth 20000 in
set_option maxHeartbeats 1000000 in
theorem cells_any (a : Option Addr) (n cap : Nat) (w : World) (h : Rd.Code w a n cap) (hn : n ≤ 1048576) :
    Calls Try.prog 5 #[.slice a n cap] w fun e w' => (∃ (x y lv : Int) (v : Value) (L : List Int), e = .returned (.tuple #[Bx.sv x y v, .int .i64 lv]) ∧ L.length ≤ 90 ∧ Lists.Reads w' v L) ∧ Below w.heap.size w w' := by
  obtain ⟨w0, hw0⟩ : ∃ w0, w0 = w.alloc (Obj.cells #[.int .i64 0, .int .i64 0, .slice none 0 0] 26) := ⟨_, rfl⟩
  have HW0 : Hid (w0 = w.alloc (Obj.cells #[.int .i64 0, .int .i64 0, .slice none 0 0] 26)) := hw0
  have B0 : Below w.heap.size w w0 := by rw [hw0]; exact (Below.refl _ _).alloc (Nat.le_refl _) _
  have z0 : w0.heap.size = w.heap.size + 1 := by rw [hw0]; simp
  have H0 : Rd.Code w0 a n cap := by
    rcases h with h | ⟨b, o, h1, h2, h3, h4, h5⟩
    · exact .inl h
    · refine .inr ⟨b, o, h1, by omega, h3, h4, fun i hi => ?_⟩
      obtain ⟨u, q1, q2⟩ := h5 i hi
      exact ⟨u, q1, (B0.cell (p := ⟨b, o + i, none⟩) h2).trans q2⟩
  have C : Hid (Calls Try.prog 9 #[.slice a n cap] w0 fun e w' => (∃ (x y lv : Int) (v : Value) (L : List Int), e = .returned (.tuple #[Bx.sv x y v, .int .i64 lv]) ∧ L.length ≤ 90 ∧ (∀ g' o l c, v = .slice (some ⟨g', o, none⟩) l c → w0.heap.size < g') ∧ Lists.Reads w' v L) ∧ Below w0.heap.size w0 w') := cont_any a n cap w0 H0 hn
  have E0 : Hid (w0.heap[w.heap.size]? = some (Obj.cells #[.int .i64 0, .int .i64 0, .slice none 0 0] 26)) := (by show _ = _; rw [hw0]; exact World.alloc_heap_new w _)
  have BB : Hid (Below w.heap.size w w0 ∧ w0.heap.size = w.heap.size + 1) := ⟨B0, z0⟩
  clear hw0 B0 z0 H0 h hn
  go_enter Try.func5, Try.ntmps5
  go_wp2_with fail
  rw [← HW0.out]
  refine Calls.mono C.out ?_
  rintro e w1 ⟨⟨x, y, lv, v, L, rfl, hl, hv, li⟩, b1⟩
  obtain ⟨sa, sc, hv'⟩ := li.form
  subst hv'
  have eR := (b1.block w.heap.size (by have := BB.out.2; omega)).trans E0.out
  have r0 : w1.cell? ⟨w.heap.size, 0, none⟩ = some (.int .i64 0) := by simp only [World.cell?, eR]; rfl
  have r1 : w1.cell? ⟨w.heap.size, 1, none⟩ = some (.int .i64 0) := by simp only [World.cell?, eR]; rfl
  have r2 : w1.cell? ⟨w.heap.size, 2, none⟩ = some (.slice none 0 0) := by simp only [World.cell?, eR]; rfl
  have rf : ∀ i, w1.frozen? ⟨w.heap.size, i, none⟩ = false := fun i => by simp [World.frozen?, eR]
  have f0 := rf 0
  have f1 := rf 1
  have f2 := rf 2
  have LI : Hid (Lies w1.heap.size w1 (.slice sa L.length sc) L) := ⟨li, fun g o l c e h0 => by
    rcases li with ⟨h1, _⟩ | ⟨b', p, cap', e0, _, _, e3, _⟩
    · rw [h1] at e; simp at e; omega
    · rw [e] at e0; simp at e0; omega⟩
  have HV : Hid (∀ g' o l c, Value.slice sa L.length sc = .slice (some ⟨g', o, none⟩) l c → 0 < l → g' ≠ w.heap.size) := fun g' o l c e _ => (by have := hv g' o l c e; have := BB.out.2; omega)
  have B1 : Hid (Below w.heap.size w w1) := BB.out.1.trans (b1.mono (by have := BB.out.2; omega))
  have HL : Hid (L.length ≤ 90) := hl
  clear eR rf li hv b1 hl E0 C HW0
  go_wp2_with fail
  refine bodyPost_ret (v := .tuple #[Bx.sv x y (.slice sa L.length sc), .int .i64 lv]) (by simp [results, Try.results5, go_sem, r0, r1, r2]) rfl ⟨⟨x, y, lv, .slice sa L.length sc, L, rfl, HL.out, ?_⟩, ?_⟩
  · exact (lies_put (lies_put (lies_put LI.out 0 _ HV.out) 1 _ HV.out) 2 _ HV.out).1
  · exact ((B1.out.setCell (p := ⟨w.heap.size, 0, none⟩) (Nat.le_refl _) _).setCell (p := ⟨w.heap.size, 1, none⟩) (Nat.le_refl _) _).setCell (p := ⟨w.heap.size, 2, none⟩) (Nat.le_refl _) _
end Go.Proofs.Ytimbghigjfioeaa.Dr
