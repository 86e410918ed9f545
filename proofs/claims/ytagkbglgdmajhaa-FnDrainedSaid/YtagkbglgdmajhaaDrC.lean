/- A box drawn and now and then spoilt: the draw. -/
import Derived.Test.YtagkbglgdmajhaaDrB
import Derived.Deep.CutBlock
namespace Go.Proofs.Ytagkbglgdmajhaa.Dr
open Go.ChangeShapes Go.WideShapes Go.ChangeAt Go.RowKit
open Go.Proofs.Ytagkbglgdmajhaa.Lists Go.Proofs.Ytagkbglgdmajhaa.Rd Go.Proofs.Ytagkbglgdmajhaa.Wn

theorem lies_win {r : Nat} {w : World} {P : Nat → Prop} {v : Value} {T : List Int} (h : Win w P v T) (hP : ¬ P r) : Lies r w v T := by
  obtain ⟨g, off, cap, rfl, h1, h2, h3, h4, h5, _⟩ := h
  refine ⟨.inr ⟨g, off, cap, rfl, h3, h4, h2, h5⟩, fun g' o l c e _ => ?_⟩
  simp at e
  obtain ⟨⟨rfl, _⟩, _⟩ := e
  intro q
  rw [q] at h1
  exact hP h1
theorem pick3 (x z : Int) (h0 : 0 ≤ z) (h1 : z < 3) : ∃ q, ∀ W : World, (W.alloc (Obj.cells #[.int .i64 0, .int .i64 25, .int .i64 x] 2)).cell? ⟨W.heap.size, z.toNat, none⟩ = some (.int .i64 q) := by
  rcases three z h0 h1 with rfl | rfl | rfl
  · exact ⟨0, fun W => by simp [go_sem]⟩
  · exact ⟨25, fun W => by simp [go_sem]⟩
  · exact ⟨x, fun W => by simp [go_sem]⟩
theorem pick4 (z : Int) (h0 : 0 ≤ z) (h1 : z < 4) : ∃ q, ∀ W : World, (W.alloc (Obj.cells #[.int .i64 1000000000, .int .i64 1000000001, .int .i64 (-1000000000), .int .i64 (-1000000001)] 2)).cell? ⟨W.heap.size, z.toNat, none⟩ = some (.int .i64 q) := by
  rcases four z h0 h1 with rfl | rfl | rfl | rfl
  · exact ⟨1000000000, fun W => by simp [go_sem]⟩
  · exact ⟨1000000001, fun W => by simp [go_sem]⟩
  · exact ⟨-1000000000, fun W => by simp [go_sem]⟩
  · exact ⟨-1000000001, fun W => by simp [go_sem]⟩

set_option maxRecDepth 20000 in
set_option maxHeartbeats 1000000 in
theorem draw_any (r : Nat) (w : World) (h : Rd.Rd r w) :
    Calls Try.prog 28 #[.pointer (some ⟨r, 0, none⟩)] w fun e w' => (∃ (a b : Int) (v : Value) (L : List Int), e = .returned (Bx.sv a b v) ∧ L.length ≤ 90 ∧ (∀ g' o l c, v = .slice (some ⟨g', o, none⟩) l c → w.heap.size < g') ∧ Lies r w' v L) ∧ Rd.Rd r w' ∧ Turn r w w' := by
  have hr := h.lt
  have K0 : Hid (Rd.Rd r (w.alloc (Obj.cells #[.int .i64 0, .int .i64 0, .slice none 0 0] 28)) ∧ Turn r w (w.alloc (Obj.cells #[.int .i64 0, .int .i64 0, .slice none 0 0] 28))) := ⟨h.kept ((Below.refl w.heap.size w).alloc (Nat.le_refl _) _) hr, (Turn.refl r w).alloc hr _⟩
  go_enter Try.func28, Try.ntmps28
  go_wp2_with fail
  refine (box_any r _ K0.out.1).mono ?_
  rintro e w1 ⟨⟨x, y, v, L, rfl, hx, hy, hl, row⟩, k1, t1⟩
  obtain ⟨P, hP, p1, p2⟩ := mul90 hx hy
  obtain ⟨g, cap, hv, hg1, hg2, hg3, hg4⟩ : ∃ g cap, v = .slice (some ⟨g, 0, none⟩) L.length cap ∧ w.heap.size + 1 ≤ g ∧ g < w1.heap.size ∧ L.length ≤ cap ∧ cap ≤ maxLen := by
    rcases row_cases row with ⟨h1, _⟩ | ⟨g, cap, h1, h2, h3, h4, h5⟩
    · rw [h1] at hl; simp at hl; omega
    · simp at h2; exact ⟨g, cap, h1, h2, h3, h4, h5⟩
  have l1 : 1 ≤ L.length := by omega
  have l2 : L.length ≤ 90 := by omega
  subst hv
  go_upto_region 2 with fail
  obtain ⟨V, hV⟩ : ∃ V, V = Value.slice (some ⟨g, 0, none⟩) L.length cap := ⟨_, rfl⟩
  have HV : Hid (V = Value.slice (some ⟨g, 0, none⟩) L.length cap) := hV
  rw [← hV] at row ⊢
  obtain ⟨w3, hw3⟩ : ∃ w3, w3 = w1.alloc (Obj.cells #[.int .i64 x, .int .i64 y, V] 28) := ⟨_, rfl⟩
  obtain ⟨B, hB⟩ : ∃ B, w1.heap.size = B := ⟨_, rfl⟩
  have hba : Below w1.heap.size w1 w3 := by rw [hw3]; exact (Below.refl _ _).alloc (Nat.le_refl _) _
  have ROW : Hid (w3.ownsRow (w.heap.size + 1) 2 1 V L.length (ints L)) := (by show World.ownsRow _ _ _ _ _ _ _; have := Bo.row_on row hba; simpa using this)
  have S0 : Hid (FS w r w.heap.size B w3 x y V L) := (by
    show FS _ _ _ _ _ _ _ _ _
    have o1 := turn_out t1
    have s1 := o1.size
    simp at s1
    have eR : w1.heap[w.heap.size]? = some (Obj.cells #[.int .i64 0, .int .i64 0, .slice none 0 0] 28) := by
      rw [o1.block w.heap.size (by simp) (by omega)]
      exact World.alloc_heap_new w _
    have eR3 := (hba.block w.heap.size (by omega)).trans eR
    subst hB
    refine ⟨k1.kept hba k1.lt, by rw [hw3]; exact (K0.out.2.trans t1).alloc hr _, ?_, fun i => ?_, ⟨⟨.int .i64 0, .int .i64 0, .slice none 0 0, ?_⟩, fun i => ?_⟩, ⟨Nat.le_refl _, by omega, ?_⟩, lies_row ROW.out (by omega), l2⟩
    · rw [hw3]; unfold Bo.Box; simp [go_sem]
    · rw [hw3]; simp [go_sem]
    · unfold Bo.Box
      simp only [World.cell?, eR3]
      exact ⟨rfl, rfl, rfl⟩
    · simp [World.frozen?, eR3]
    · rw [hw3]; simp)
  rw [← hw3]
  rw [hB] at hg2 ⊢
  have HG : Hid (w.heap.size + 1 ≤ g ∧ g < B) := ⟨hg1, hg2⟩
  have HCAP : Hid (L.length ≤ cap ∧ cap ≤ maxLen) := ⟨hg3, hg4⟩
  clear hw3 hB k1 t1 K0 hba row hP p1 p2 hl hg1 hg2 hg3 hg4 hV
  go_wp2_with fail
  refine (below_any r _ S0.out.rd 24 (by omega) (by omega)).mono ?_
  rintro e w4 ⟨⟨u, ⟨hu1, hu2⟩, rfl⟩, k4, t4⟩
  have S1 : Hid (FS w r w.heap.size B w4 x y V L) := S0.out.turn hr k4 t4
  have ROW4 : Hid (w4.ownsRow (w.heap.size + 1) 2 1 V L.length (ints L)) := (turn_out t4).row ROW.out (fun k hk => by have := (ROW.out.lt k hk).1; omega)
  clear S0 ROW k4 t4
  obtain ⟨g0, g1, g2⟩ := id S1.out.bx
  have bs := S1.out.lt.2.2
  have NB : Hid (∀ g' o l c, V = .slice (some ⟨g', o, none⟩) l c → 0 < l → g' ≠ B) := fun g' o l c e _ => (by rw [HV.out] at e; simp at e; have := HG.out.2; omega)
  have NV : Hid (∀ g' o l c, V = .slice (some ⟨g', o, none⟩) l c → w.heap.size < g') := fun g' o l c e => (by rw [HV.out] at e; simp at e; have := HG.out.1; omega)
  have NG : Hid (∀ p l0 c0 g' o l c, Value.slice (some ⟨g, p, none⟩) l0 c0 = .slice (some ⟨g', o, none⟩) l c → w.heap.size < g') := fun p l0 c0 g' o l c e => (by simp at e; have := HG.out.1; omega)
  go_upto_block 0 with fail
  go_cut [] (fun wx => ∃ (a' : Int) (v' : Value) (L' : List Int), Hid (FS w r w.heap.size B wx a' y v' L') ∧ Hid (∀ g' o l c, v' = .slice (some ⟨g', o, none⟩) l c → w.heap.size < g'))
  case first =>
    by_cases u0 : u = 0
    · subst u0
      have f0 := S1.out.fz 0
      have KA : Hid (FS w r w.heap.size B (w4.alloc (Obj.cells #[.int .i64 0, .int .i64 25, .int .i64 (IntKind.i64.wrap (x + 1))] 2)).drew x y V L) := (S1.out.alloc hr _).drew hr
      have rb : r < w4.heap.size := S1.out.rd.lt
      go_upto_region 4 with fail
      go_region_with (go_at_call 38; first
        | (refine (below_any r _ KA.out.rd 3 (by omega) (by omega)).mono ?_; rintro e w5 ⟨⟨z, ⟨hz1, hz2⟩, rfl⟩, k6, t5⟩; have hz3 : z < 3 := hz2; obtain ⟨q, hq⟩ := pick3 (IntKind.i64.wrap (x + 1)) z hz1 hz3; have T1 : Hid (FS w r w.heap.size B w5 x y V L) := KA.out.turn hr k6 t5; have c0 : w5.cell? ⟨w4.heap.size, z.toNat, none⟩ = some (.int .i64 q) := (t5.cell _ (by simp) (by omega)).trans (hq w4); obtain ⟨o0, o1, o2⟩ := id T1.out.bx; have o3 := T1.out.fz 0; have o5 := T1.out.lt.2.2; clear hq hz2)
        | (refine (below_any r _ (S1.out.drew hr).rd 3 (by omega) (by omega)).mono ?_; rintro e w5 ⟨⟨z, ⟨hz1, hz2⟩, rfl⟩, k6, t5⟩; have hz3 : z < 3 := hz2; obtain ⟨q, hq⟩ := pick3 (IntKind.i64.wrap (x + 1)) z hz1 hz3; have c0 := hq w5; have T0 : Hid (FS w r w.heap.size B w5 x y V L) := (S1.out.drew hr).turn hr k6 t5; have T1 : Hid (FS w r w.heap.size B (w5.alloc (Obj.cells #[.int .i64 0, .int .i64 25, .int .i64 (IntKind.i64.wrap (x + 1))] 2)) x y V L) := T0.out.alloc hr _; obtain ⟨o0, o1, o2⟩ := id T0.out.bx; have o3 := T0.out.fz 0; have o5 := T0.out.lt.2.2; clear hq hz2))
      all_goals
        go_wp2_with fail
        go_meet
        first
          | exact ⟨q, V, L, T1.out.put hr 0 _ _ y V L (box_set0 T1.out.bx _) (lies_put T1.out.li 0 _ (NB.out)) T1.out.le, NV⟩
          | exact ⟨q, V, L, (T0.out.put hr 0 _ _ y V L (box_set0 T0.out.bx _) (lies_put T0.out.li 0 _ (NB.out)) T0.out.le).alloc hr _, NV⟩
    · by_cases u1 : u = 1
      · subst u1
        have f2 := S1.out.fz 2
        have W0 : Win w4 (fun k => w.heap.size + 1 ≤ k) V L := win_row ROW4.out (by omega)
        have NR : Hid (¬ (w.heap.size + 1 ≤ r)) := (by show ¬ _; omega)
        rw [HV.out] at g2 W0
        rcases L with _ | ⟨y0, T⟩
        · simp at l1
        · have hc := HCAP.out
          have tl : (y0 :: T).length = T.length + 1 := by simp
          have NB2 : Hid (g ≠ B) := (by show _ ≠ _; have := HG.out.2; omega)
          by_cases c1 : cap = 1
          · subst c1
            obtain ⟨hT, W1⟩ := W0.tail1
            have LI : Hid (Lies r w4 (.slice (some ⟨g, 0, none⟩) 0 0) []) := lies_win W1 NR.out
            subst hT
            have g3 : w4.cell? ⟨B, 2, none⟩ = some (.slice (some ⟨g, 0, none⟩) 1 1) := g2
            clear W0 W1 tl g2 l1 l2 hc
            go_wp2_with fail
            go_meet
            exact ⟨x, .slice (some ⟨g, 0, none⟩) 0 0, [], S1.out.put hr 2 _ x y _ [] (box_set2 S1.out.bx _) (lies_put LI.out 2 _ (fun g' o l c e h0 => by simp at e; omega)) (by simp), fun g' o l c e => NG.out _ _ _ g' o l c e⟩
          · have W1 := W0.tail
            rw [Nat.zero_add] at W1
            have LI : Hid (Lies r w4 (.slice (some ⟨g, 1, none⟩) T.length (cap - 1)) T) := lies_win W1 NR.out
            have LN : Hid (T.length ≤ 90) := (by show _ ≤ _; simp at l2; omega)
            rw [tl] at g2 l1 l2 hc
            have c2 : ¬ cap - 1 = 0 := by omega
            have c3 : 1 ≤ cap := by omega
            have c4 : (1 : Int) ≤ (cap : Int) := by omega
            clear W0 W1 tl
            obtain ⟨n, hn⟩ : ∃ n, T.length = n := ⟨_, rfl⟩
            rw [hn] at g2 l1 l2 hc LI
            clear hn
            go_wp2_with fail
            go_meet
            exact ⟨x, .slice (some ⟨g, 1, none⟩) n (cap - 1), T, S1.out.put hr 2 _ x y _ T (box_set2 S1.out.bx _) (lies_put LI.out 2 _ (fun g' o l c e h0 => by simp at e; obtain ⟨⟨rfl, _⟩, _⟩ := e; exact NB2.out)) LN.out, fun g' o l c e => NG.out _ _ _ g' o l c e⟩
      · by_cases u2 : u = 2
        · subst u2
          obtain ⟨hg1, hg2⟩ := HG.out
          have KA : Hid (FS w r w.heap.size B (w4.alloc (Obj.cells #[.int .i64 1000000000, .int .i64 1000000001, .int .i64 (-1000000000), .int .i64 (-1000000001)] 2)).drew x y V L) := (S1.out.alloc hr _).drew hr
          have rb : r < w4.heap.size := S1.out.rd.lt
          have PK : Hid (∀ wx, FS w r w.heap.size B wx x y V L → ∀ q : Int, FS w r w.heap.size B (wx.setCell ⟨g, 0, none⟩ (.int .i64 q)) x y V (L.set 0 q)) := fun wx hf q => (by
            rw [HV.out] at hf ⊢
            exact hf.poke hr (by omega) (by omega) (by omega) 0 q (by omega))
          have CG : Hid (w4.cell? ⟨g, 0, none⟩ = some (.int .i64 (L.getD 0 0)) ∧ w4.frozen? ⟨g, 0, none⟩ = false) := (by
            have R := ROW4.out
            rw [HV.out] at R
            exact ⟨row_cell R 0 (by omega), R.frozenAt 0⟩)
          rw [HV.out] at g2
          have gw : g < w4.heap.size := by have := S1.out.lt.2.2; omega
          have gr : g ≠ r := by omega
          go_upto_region 8 with fail
          go_region_with (go_at_call 38; first
            | (refine (below_any r _ KA.out.rd 4 (by omega) (by omega)).mono ?_; rintro e w5 ⟨⟨z, ⟨hz1, hz2⟩, rfl⟩, k6, t5⟩; have hz3 : z < 4 := hz2; obtain ⟨q, hq⟩ := pick4 z hz1 hz3; have T1 : Hid (FS w r w.heap.size B w5 x y V L) := KA.out.turn hr k6 t5; have c0 : w5.cell? ⟨w4.heap.size, z.toNat, none⟩ = some (.int .i64 q) := (t5.cell _ (by simp) (by omega)).trans (hq w4); have c5 : w5.cell? ⟨g, 0, none⟩ = some (.int .i64 (L.getD 0 0)) := (t5.cell 0 (by simp; omega) gr).trans (by have := CG.out.1; simp [go_sem, gw, this]); have c6 : w5.frozen? ⟨g, 0, none⟩ = false := (t5.frozen 0 (by simp; omega) gr).trans (by have := CG.out.2; simp [go_sem, gw, this]); obtain ⟨o0, o1, o2⟩ := id T1.out.bx; rw [HV.out] at o2; have o5 := T1.out.lt.2.2; have g5 : g < w5.heap.size := (by omega); clear hq hz2)
            | (refine (below_any r _ (S1.out.drew hr).rd 4 (by omega) (by omega)).mono ?_; rintro e w5 ⟨⟨z, ⟨hz1, hz2⟩, rfl⟩, k6, t5⟩; have hz3 : z < 4 := hz2; obtain ⟨q, hq⟩ := pick4 z hz1 hz3; have c0 := hq w5; have T0 : Hid (FS w r w.heap.size B w5 x y V L) := (S1.out.drew hr).turn hr k6 t5; have T1 : Hid (FS w r w.heap.size B (w5.alloc (Obj.cells #[.int .i64 1000000000, .int .i64 1000000001, .int .i64 (-1000000000), .int .i64 (-1000000001)] 2)) x y V L) := T0.out.alloc hr _; have c5 : w5.cell? ⟨g, 0, none⟩ = some (.int .i64 (L.getD 0 0)) := (t5.cell 0 (by simp; omega) gr).trans (by have := CG.out.1; simp [go_sem, this]); have c6 : w5.frozen? ⟨g, 0, none⟩ = false := (t5.frozen 0 (by simp; omega) gr).trans (by have := CG.out.2; simp [go_sem, this]); obtain ⟨o0, o1, o2⟩ := id T0.out.bx; rw [HV.out] at o2; have o5 := T0.out.lt.2.2; have g5 : g < w5.heap.size := (by omega); clear hq hz2))
          all_goals
            go_wp2_with fail
            go_meet
            first
              | exact ⟨x, V, L.set 0 q, PK.out _ T1.out q, NV⟩
              | exact ⟨x, V, L.set 0 q, (PK.out _ T0.out q).alloc hr _, NV⟩
        · go_wp2_with fail
          go_meet
          exact ⟨x, V, L, S1, NV⟩
  case rest =>
    clear S1 g0 g1 g2 bs ROW4 NB
    obtain ⟨x', v', L', S, NR2⟩ := hcut
    obtain ⟨sa, sc, hv⟩ := S.out.li.1.form
    subst hv
    obtain ⟨g0, g1, g2⟩ := id S.out.bx
    obtain ⟨⟨c0, c1, c2, r0, r1, r2⟩, rf⟩ := S.out.rc
    have f0 := rf 0
    have f1 := rf 1
    have f2 := rf 2
    have l4 := S.out.lt.2.1
    go_wp2_with fail
    refine bodyPost_ret (v := Bx.sv x' y (.slice sa L'.length sc)) (by simp [results, Try.results28, go_sem, r0, r1, r2]) rfl ⟨⟨x', y, .slice sa L'.length sc, L', rfl, S.out.le, NR2.out, ?_⟩, ?_, ?_⟩
    · have nb : ∀ g' o l c, Value.slice sa L'.length sc = .slice (some ⟨g', o, none⟩) l c → 0 < l → g' ≠ w.heap.size := fun g' o l c e _ => Nat.ne_of_gt (NR2.out g' o l c e)
      exact lies_put (lies_put (lies_put S.out.li 0 _ nb) 1 _ nb) 2 _ nb
    · exact S.out.rd.kept ((((Below.refl (r + 1) wc).setCell (p := ⟨w.heap.size, 0, none⟩) hr _).setCell (p := ⟨w.heap.size, 1, none⟩) hr _).setCell (p := ⟨w.heap.size, 2, none⟩) hr _) (Nat.lt_succ_self r)
    · exact ((S.out.tn.setCell (p := ⟨w.heap.size, 0, none⟩) (Nat.le_refl _) hr _).setCell (p := ⟨w.heap.size, 1, none⟩) (Nat.le_refl _) hr _).setCell (p := ⟨w.heap.size, 2, none⟩) (Nat.le_refl _) hr _
end Go.Proofs.Ytagkbglgdmajhaa.Dr
