/- The law FnExactMulPair walked: it returns true, whatever the two pairs. -/
import Derived.Test.YtlibkdamfhlceaaMulI
namespace Go.Proofs.Ytlibkdamfhlceaa.Flt
open Go.ChangeShapes Go.WideShapes Go.ChangeAt Go.RowKit
attribute [local go_sem] run_store_float
namespace Mul

theorem blk {W w' : World} {k : Nat} (hb : Below W.heap.size W w') (hk : k < W.heap.size) (h0 : W.cell? ⟨k, 0, none⟩ = some (.float .f64 0)) (h1 : W.cell? ⟨k, 1, none⟩ = some (.float .f64 0)) (f0 : W.frozen? ⟨k, 0, none⟩ = false) (f1 : W.frozen? ⟨k, 1, none⟩ = false) :
    w'.cell? ⟨k, 0, none⟩ = some (.float .f64 0) ∧ w'.cell? ⟨k, 1, none⟩ = some (.float .f64 0) ∧ w'.frozen? ⟨k, 0, none⟩ = false ∧ w'.frozen? ⟨k, 1, none⟩ = false ∧ k < w'.heap.size :=
  ⟨(hb.cell (p := ⟨k, 0, none⟩) hk).trans h0, (hb.cell (p := ⟨k, 1, none⟩) hk).trans h1, (hb.frozen (p := ⟨k, 0, none⟩) hk).trans f0, (hb.frozen (p := ⟨k, 1, none⟩) hk).trans f1, Nat.lt_of_lt_of_le hk hb.size⟩

theorem blk_new {W w' : World} (hb : Below (W.alloc (.cells #[.float .f64 0, .float .f64 0] 32)).heap.size (W.alloc (.cells #[.float .f64 0, .float .f64 0] 32)) w') :
    w'.cell? ⟨W.heap.size, 0, none⟩ = some (.float .f64 0) ∧ w'.cell? ⟨W.heap.size, 1, none⟩ = some (.float .f64 0) ∧ w'.frozen? ⟨W.heap.size, 0, none⟩ = false ∧ w'.frozen? ⟨W.heap.size, 1, none⟩ = false ∧ W.heap.size < w'.heap.size :=
  blk hb (by simp) (by simp [go_sem]) (by simp [go_sem]) (by simp [go_sem]) (by simp [go_sem])

theorem blk_newd {W w' : World} (hb : Below (W.alloc (.cells #[.float .f64 0, .float .f64 0] 32)).drew.heap.size (W.alloc (.cells #[.float .f64 0, .float .f64 0] 32)).drew w') :
    w'.cell? ⟨W.heap.size, 0, none⟩ = some (.float .f64 0) ∧ w'.cell? ⟨W.heap.size, 1, none⟩ = some (.float .f64 0) ∧ w'.frozen? ⟨W.heap.size, 0, none⟩ = false ∧ w'.frozen? ⟨W.heap.size, 1, none⟩ = false ∧ W.heap.size < w'.heap.size :=
  blk hb (by simp) (by simp [go_sem]) (by simp [go_sem]) (by simp [go_sem]) (by simp [go_sem])

theorem blk_first {w w' : World} {a b c d : Nat} (hb : Below (((w.alloc (.cells #[.float .f64 a, .float .f64 b] 31)).alloc (.cells #[.float .f64 c, .float .f64 d] 31)).alloc (.cells #[.float .f64 0, .float .f64 0] 32)).drew.heap.size (((w.alloc (.cells #[.float .f64 a, .float .f64 b] 31)).alloc (.cells #[.float .f64 c, .float .f64 d] 31)).alloc (.cells #[.float .f64 0, .float .f64 0] 32)).drew w') :
    w'.cell? ⟨w.heap.size + 1 + 1, 0, none⟩ = some (.float .f64 0) ∧ w'.cell? ⟨w.heap.size + 1 + 1, 1, none⟩ = some (.float .f64 0) ∧ w'.frozen? ⟨w.heap.size + 1 + 1, 0, none⟩ = false ∧ w'.frozen? ⟨w.heap.size + 1 + 1, 1, none⟩ = false ∧ w.heap.size + 1 + 1 < w'.heap.size :=
  blk hb (by simp) (by simp [go_sem]) (by simp [go_sem]) (by simp [go_sem]) (by simp [go_sem])

theorem keep4 {w W w' : World} {a b c d : Nat} (hb : Below W.heap.size W w') (hz : w.heap.size + 1 < W.heap.size) (h0 : W.cell? ⟨w.heap.size, 0, none⟩ = some (.float .f64 a)) (h1 : W.cell? ⟨w.heap.size, 1, none⟩ = some (.float .f64 b)) (h2 : W.cell? ⟨w.heap.size + 1, 0, none⟩ = some (.float .f64 c)) (h3 : W.cell? ⟨w.heap.size + 1, 1, none⟩ = some (.float .f64 d)) :
    w'.cell? ⟨w.heap.size, 0, none⟩ = some (.float .f64 a) ∧ w'.cell? ⟨w.heap.size, 1, none⟩ = some (.float .f64 b) ∧ w'.cell? ⟨w.heap.size + 1, 0, none⟩ = some (.float .f64 c) ∧ w'.cell? ⟨w.heap.size + 1, 1, none⟩ = some (.float .f64 d) ∧ w.heap.size + 1 < w'.heap.size ∧ w.heap.size < w'.heap.size :=
  ⟨(hb.cell (p := ⟨w.heap.size, 0, none⟩) (by show w.heap.size < _; omega)).trans h0, (hb.cell (p := ⟨w.heap.size, 1, none⟩) (by show w.heap.size < _; omega)).trans h1, (hb.cell (p := ⟨w.heap.size + 1, 0, none⟩) hz).trans h2, (hb.cell (p := ⟨w.heap.size + 1, 1, none⟩) hz).trans h3, Nat.lt_of_lt_of_le hz hb.size, Nat.lt_of_lt_of_le (by omega) hb.size⟩

theorem boxes {w wc : World} {a b c d : Nat} (hb : Below (w.heap.size + 2) ((w.alloc (.cells #[.float .f64 a, .float .f64 b] 31)).alloc (.cells #[.float .f64 c, .float .f64 d] 31)) wc) :
    wc.cell? ⟨w.heap.size, 0, none⟩ = some (.float .f64 a) ∧ wc.cell? ⟨w.heap.size, 1, none⟩ = some (.float .f64 b) ∧ wc.cell? ⟨w.heap.size + 1, 0, none⟩ = some (.float .f64 c) ∧ wc.cell? ⟨w.heap.size + 1, 1, none⟩ = some (.float .f64 d) ∧ w.heap.size + 1 < wc.heap.size ∧ w.heap.size < wc.heap.size := by
  have hs := hb.size
  simp at hs
  refine ⟨?_, ?_, ?_, ?_, by omega, by omega⟩
  · rw [hb.cell (by show w.heap.size < _; omega)]; simp [go_sem]
  · rw [hb.cell (by show w.heap.size < _; omega)]; simp [go_sem]
  · rw [hb.cell (by show w.heap.size + 1 < _; omega)]; simp [go_sem]
  · rw [hb.cell (by show w.heap.size + 1 < _; omega)]; simp [go_sem]

attribute [local go_sem ↓] Go.wp_at_zero Go.wp_at_succ

set_option maxHeartbeats 1000000 in
theorem mulLaw (a b c d : Nat) (w : World) :
    Calls Try.prog 7 #[.agg #[.float .f64 a, .float .f64 b], .agg #[.float .f64 c, .float .f64 d]] w fun e w' => e = .returned (.bool true) ∧ Below w.heap.size w w' := by
  have hn1 : w.heap.size ≠ w.heap.size + 1 + 1 := by omega
  have hn2 : w.heap.size + 1 + 1 ≠ w.heap.size := by omega
  have hs1 : w.heap.size < w.heap.size + 1 + 1 := by omega
  have hs2 : w.heap.size < w.heap.size + 1 + 1 + 1 := by omega
  have hs3 : w.heap.size + 1 < w.heap.size + 1 + 1 + 1 := by omega
  go_enter Try.func7, Try.ntmps7
  go_upto_region 1 with fail
  go_cut [5] (fun p wx => ∃ k F T : Nat, p = .pointer (some ⟨k, 0, none⟩) ∧ Hid (cn F = mRe (cn a) (cn b) (cn c) (cn d) ∧ cn T = mIm (cn a) (cn b) (cn c) (cn d)) ∧ w.heap.size + 1 < k ∧ k < wx.heap.size ∧ wx.cell? ⟨k, 0, none⟩ = some (.float .f64 F) ∧ wx.cell? ⟨k, 1, none⟩ = some (.float .f64 T) ∧ Below (w.heap.size + 2) ((w.alloc (.cells #[.float .f64 a, .float .f64 b] 31)).alloc (.cells #[.float .f64 c, .float .f64 d] 31)) wx)
  case first =>
    go_region_held3 (fun w' => w'.cell? ⟨w.heap.size, 0, none⟩ = some (.float .f64 a) ∧ w'.cell? ⟨w.heap.size, 1, none⟩ = some (.float .f64 b) ∧ w'.cell? ⟨w.heap.size + 1, 0, none⟩ = some (.float .f64 c) ∧ w'.cell? ⟨w.heap.size + 1, 1, none⟩ = some (.float .f64 d))
      (go_keep)
      (first
      | (go_at_call_of 19 (Value.agg #[Value.float FloatKind.f64 a, Value.float FloatKind.f64 b]); refine (toPair_any _ _ _).mono ?_; rintro e w1 ⟨rfl, hb1⟩; obtain ⟨p0, p1, p2, p3, p4, p5⟩ := keep4 (w := w) (a := a) (b := b) (c := c) (d := d) hb1 (by simp) (by go_simp) (by go_simp) (by go_simp) (by go_simp); have n1a : w.heap.size ≠ w1.heap.size := (by omega); have n1b : w.heap.size + 1 ≠ w1.heap.size := (by omega); have n1c := n1a.symm; have n1d := n1b.symm; (try (have tt := blk_first hb1; obtain ⟨b10a, b10b, b10c, b10d, b10e⟩ := tt)); have hz1 := hb1.size; simp at hz1)
      | (go_at_call_of 19 (Value.agg #[Value.float FloatKind.f64 c, Value.float FloatKind.f64 d]); refine (toPair_any _ _ _).mono ?_; rintro e w2 ⟨rfl, hb2⟩; obtain ⟨q0, q1, q2, q3, q4, q5⟩ := keep4 (w := w) (a := a) (b := b) (c := c) (d := d) hb2 (by first | omega | (simp; omega)) (by go_simp) (by go_simp) (by go_simp) (by go_simp); have n2a : w.heap.size ≠ w2.heap.size := (by omega); have n2b : w.heap.size + 1 ≠ w2.heap.size := (by omega); have n2c := n2a.symm; have n2d := n2b.symm; (try (have tt := blk hb2 b10e b10a b10b b10c b10d; obtain ⟨b20a, b20b, b20c, b20d, b20e⟩ := tt)); (try (have tt := blk_new hb2; obtain ⟨b21a, b21b, b21c, b21d, b21e⟩ := tt)); have hz2 := hb2.size; (try simp at hz2))
      | (go_at_call 18; refine (smul_any _ _ _ _ _).mono ?_; rintro e w3 ⟨x, y, rfl, hx, hy, hb3⟩; obtain ⟨r0, r1, r2, r3, r4, r5⟩ := keep4 (w := w) (a := a) (b := b) (c := c) (d := d) hb3 (by first | omega | (simp; omega)) (by go_simp) (by go_simp) (by go_simp) (by go_simp); have n3a : w.heap.size ≠ w3.heap.size := (by omega); have n3b : w.heap.size + 1 ≠ w3.heap.size := (by omega); have n3c := n3a.symm; have n3d := n3b.symm; (try (have tt := blk hb3 b20e b20a b20b b20c b20d; obtain ⟨b30a, b30b, b30c, b30d, b30e⟩ := tt)); (try (have tt := blk hb3 b21e b21a b21b b21c b21d; obtain ⟨b31a, b31b, b31c, b31d, b31e⟩ := tt)); (try (have tt := blk_new hb3; obtain ⟨b32a, b32b, b32c, b32d, b32e⟩ := tt)); have hz3 := hb3.size; (try simp at hz3)))
    all_goals
      have B1 : Below (w.heap.size + 2) ((w.alloc (.cells #[.float .f64 a, .float .f64 b] 31)).alloc (.cells #[.float .f64 c, .float .f64 d] 31)) w1 := by
        refine Below.trans ?_ (Below.mono hb1 ?_)
        · first
          | exact (Below.refl _ _).drew
          | exact ((Below.refl _ _).alloc (by simp) _).drew
        · simp
      have B2 : Below (w.heap.size + 2) ((w.alloc (.cells #[.float .f64 a, .float .f64 b] 31)).alloc (.cells #[.float .f64 c, .float .f64 d] 31)) w2 := by
        refine B1.trans (Below.trans ?_ (Below.mono hb2 ?_))
        · first
          | exact Below.refl _ _
          | exact (Below.refl _ _).alloc (by omega) _
        · first
          | omega
          | (simp; omega)
      have B3 : Below (w.heap.size + 2) ((w.alloc (.cells #[.float .f64 a, .float .f64 b] 31)).alloc (.cells #[.float .f64 c, .float .f64 d] 31)) w3 := by
        refine B2.trans (Below.trans ?_ (Below.mono hb3 ?_))
        · first
          | exact Below.refl _ _
          | exact (Below.refl _ _).alloc (by omega) _
        · first
          | omega
          | (simp; omega)
      go_wp2_with fail
      go_meet
    · exact ⟨_, x, y, rfl, ⟨hx, hy⟩, by omega, by simp, by simp [go_sem], by simp [go_sem], B3.alloc (by omega) _⟩
    · exact ⟨_, x, y, rfl, ⟨hx, hy⟩, by omega, by simp [go_sem]; omega, by simp [go_sem, b32a], by simp [go_sem, b32b], (B3.setCell (by show w.heap.size + 2 ≤ w2.heap.size; omega) _).setCell (by show w.heap.size + 2 ≤ w2.heap.size; omega) _⟩
    · exact ⟨_, x, y, rfl, ⟨hx, hy⟩, by omega, by simp [go_sem]; omega, by simp [go_sem, b31a], by simp [go_sem, b31b], (B3.setCell (by show w.heap.size + 2 ≤ w1.heap.size; omega) _).setCell (by show w.heap.size + 2 ≤ w1.heap.size; omega) _⟩
    · exact ⟨_, x, y, rfl, ⟨hx, hy⟩, by omega, by simp [go_sem]; omega, by simp [go_sem, b30a], by simp [go_sem, b30b], (B3.setCell (by show w.heap.size + 2 ≤ w.heap.size + 1 + 1; omega) _).setCell (by show w.heap.size + 2 ≤ w.heap.size + 1 + 1; omega) _⟩
  case rest =>
    obtain ⟨wo, hwo⟩ : ∃ x : World, x = wc := ⟨_, rfl⟩
    subst hwo
    obtain ⟨k, F, T, rfl, HFT, hk1, hk2, hkF, hkT, hbc⟩ := hcut
    obtain ⟨c0, c1, c2, c3, c4, c5⟩ := boxes hbc
    have m1 : w.heap.size ≠ wo.heap.size := by omega
    have m2 : w.heap.size + 1 ≠ wo.heap.size := by omega
    have m3 := m1.symm
    have m4 := m2.symm
    clear hs1 hs2 hs3 hn1 hn2
    go_upto_region 2 with fail
    go_cut [6] (fun p wx => ∃ j F T : Nat, p = .pointer (some ⟨j, 0, none⟩) ∧ Hid (cn F = mRe (cn a) (cn b) (cn c) (cn d) ∧ cn T = mIm (cn a) (cn b) (cn c) (cn d)) ∧ wx.cell? ⟨j, 0, none⟩ = some (.float .f64 F) ∧ wx.cell? ⟨j, 1, none⟩ = some (.float .f64 T) ∧ Below wo.heap.size wo wx)
    case first =>
      go_region_held3 (fun w' => w'.cell? ⟨w.heap.size, 0, none⟩ = some (.float .f64 a) ∧ w'.cell? ⟨w.heap.size, 1, none⟩ = some (.float .f64 b) ∧ w'.cell? ⟨w.heap.size + 1, 0, none⟩ = some (.float .f64 c) ∧ w'.cell? ⟨w.heap.size + 1, 1, none⟩ = some (.float .f64 d))
        (go_keep)
        (first
        | (go_at_call_of 19 (Value.agg #[Value.float FloatKind.f64 a, Value.float FloatKind.f64 b]); refine (toPair_any _ _ _).mono ?_; rintro e w1 ⟨rfl, hb1⟩; obtain ⟨p0, p1, p2, p3, p4, p5⟩ := keep4 (w := w) (a := a) (b := b) (c := c) (d := d) hb1 (by first | (simp; omega) | (show _ < wo.heap.size; omega)) (by go_simp) (by go_simp) (by go_simp) (by go_simp); have n1a : w.heap.size ≠ w1.heap.size := (by omega); have n1b : w.heap.size + 1 ≠ w1.heap.size := (by omega); have n1c := n1a.symm; have n1d := n1b.symm; (try (have tt := blk_newd hb1; obtain ⟨b10a, b10b, b10c, b10d, b10e⟩ := tt)); have hz1 := hb1.size; (try simp at hz1))
        | (go_at_call_of 19 (Value.agg #[Value.float FloatKind.f64 c, Value.float FloatKind.f64 d]); refine (toPair_any _ _ _).mono ?_; rintro e w2 ⟨rfl, hb2⟩; obtain ⟨q0, q1, q2, q3, q4, q5⟩ := keep4 (w := w) (a := a) (b := b) (c := c) (d := d) hb2 (by first | omega | (simp; omega)) (by go_simp) (by go_simp) (by go_simp) (by go_simp); have n2a : w.heap.size ≠ w2.heap.size := (by omega); have n2b : w.heap.size + 1 ≠ w2.heap.size := (by omega); have n2c := n2a.symm; have n2d := n2b.symm; (try (have tt := blk hb2 b10e b10a b10b b10c b10d; obtain ⟨b20a, b20b, b20c, b20d, b20e⟩ := tt)); (try (have tt := blk_new hb2; obtain ⟨b21a, b21b, b21c, b21d, b21e⟩ := tt)); have hz2 := hb2.size; (try simp at hz2))
        | (go_at_call 20; refine (imul_any _ _ _ _ _).mono ?_; rintro e w3 ⟨x, y, rfl, hx, hy, hb3⟩; obtain ⟨r0, r1, r2, r3, r4, r5⟩ := keep4 (w := w) (a := a) (b := b) (c := c) (d := d) hb3 (by first | omega | (simp; omega)) (by go_simp) (by go_simp) (by go_simp) (by go_simp); have n3a : w.heap.size ≠ w3.heap.size := (by omega); have n3b : w.heap.size + 1 ≠ w3.heap.size := (by omega); have n3c := n3a.symm; have n3d := n3b.symm; (try (have tt := blk hb3 b20e b20a b20b b20c b20d; obtain ⟨b30a, b30b, b30c, b30d, b30e⟩ := tt)); (try (have tt := blk hb3 b21e b21a b21b b21c b21d; obtain ⟨b31a, b31b, b31c, b31d, b31e⟩ := tt)); (try (have tt := blk_new hb3; obtain ⟨b32a, b32b, b32c, b32d, b32e⟩ := tt)); have hz3 := hb3.size; (try simp at hz3)))
      all_goals
        have B1 : Below wo.heap.size wo w1 := by
          refine Below.trans ?_ (Below.mono hb1 ?_)
          · first
            | exact (Below.refl _ _).drew
            | exact ((Below.refl _ _).alloc (Nat.le_refl _) _).drew
          · simp
        have B2 : Below wo.heap.size wo w2 := by
          have := B1.size
          refine B1.trans (Below.trans ?_ (Below.mono hb2 ?_))
          · first
            | exact Below.refl _ _
            | exact (Below.refl _ _).alloc (by omega) _
          · first
            | omega
            | (simp; omega)
        have B3 : Below wo.heap.size wo w3 := by
          have := B2.size
          refine B2.trans (Below.trans ?_ (Below.mono hb3 ?_))
          · first
            | exact Below.refl _ _
            | exact (Below.refl _ _).alloc (by omega) _
          · first
            | omega
            | (simp; omega)
        have z1 := B1.size
        have z2 := B2.size
        have z3 := B3.size
        go_wp2_with fail
        go_meet
      · exact ⟨_, x, y, rfl, ⟨hx, hy⟩, by simp [go_sem], by simp [go_sem], B3.alloc (by omega) _⟩
      · exact ⟨_, x, y, rfl, ⟨hx, hy⟩, by simp [go_sem, b32a], by simp [go_sem, b32b], (B3.setCell (by show wo.heap.size ≤ w2.heap.size; omega) _).setCell (by show wo.heap.size ≤ w2.heap.size; omega) _⟩
      · exact ⟨_, x, y, rfl, ⟨hx, hy⟩, by simp [go_sem, b31a], by simp [go_sem, b31b], (B3.setCell (by show wo.heap.size ≤ w1.heap.size; omega) _).setCell (by show wo.heap.size ≤ w1.heap.size; omega) _⟩
      · exact ⟨_, x, y, rfl, ⟨hx, hy⟩, by simp [go_sem, b30a], by simp [go_sem, b30b], (B3.setCell (Nat.le_refl _) _).setCell (Nat.le_refl _) _⟩
    case rest =>
      obtain ⟨j, G, U, rfl, HGU, hjF, hjT, hbd⟩ := hcut
      have kF : wc.cell? ⟨k, 0, none⟩ = some (.float .f64 F) := (hbd.cell (p := ⟨k, 0, none⟩) hk2).trans hkF
      have kT : wc.cell? ⟨k, 1, none⟩ = some (.float .f64 T) := (hbd.cell (p := ⟨k, 1, none⟩) hk2).trans hkT
      have bel : Below w.heap.size w wc := ((((Below.refl w.heap.size w).alloc (Nat.le_refl _) _).alloc (by simp) _).trans (hbc.mono (by omega))).trans (hbd.mono (by omega))
      go_wp2_with (go_at_call 21; refine (eqPair_any _ _ _ _ _ (HGU.out.1.trans HFT.out.1.symm) (HGU.out.2.trans HFT.out.2.symm)).mono ?_; rintro e w4 ⟨rfl, hb4⟩)
      go_ret
      exact ⟨rfl, bel.trans (hb4.mono bel.size)⟩
end Mul
end Go.Proofs.Ytlibkdamfhlceaa.Flt
