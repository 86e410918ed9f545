/- What may be there at a time: the program. -/
import Derived.Test.YtmbhlmpdkkjedaaSz
namespace Go.Proofs.Ytmbhlmpdkkjedaa.To
open Go.ChangeShapes Go.WideShapes Go.ChangeAt Go.RowKit
open Go.Proofs.Ytmbhlmpdkkjedaa.Al

theorem Row.down {w : World} {B B' : Nat} {v : Value} {L : Sy.Ls} (h : Sy.Row w B v L) (hb : B' ≤ B) : Sy.Row w B' v L := by
  obtain ⟨xs, ⟨h0, h⟩, hg⟩ := h
  refine ⟨xs, ⟨h0, ?_⟩, hg⟩
  rcases h with h | ⟨g, cap, cur, h1, h2, h3⟩
  · exact .inl h
  · exact .inr ⟨g, cap, cur, h1, Nat.le_trans hb h2, h3⟩
theorem Row.none (w : World) (B : Nat) : Sy.Row w B (.slice none 0 0) [] := ⟨[], ⟨rfl, .inl ⟨rfl, rfl⟩⟩, fun _ hi => absurd hi (Nat.not_lt_zero _)⟩
theorem Try.infoS : (Try.prog.info? 32).map (fun i => (i.zero, i.size, i.bytes)) = some (some (.agg #[.int .i64 0, .int .i64 0, .int .i64 0, .string ⟨#[]⟩, .string ⟨#[]⟩, .int .i64 0]), 6, 64) := by kernel_rfl
theorem one_six (a b c : Int) (d e : ByteArray) (f : Int) : ∀ u ∈ [Value.int .i64 a, Value.int .i64 b, Value.int .i64 c, Value.string d, Value.string e, Value.int .i64 f], u.oneCell' = true := by intro u hu; simp at hu; rcases hu with rfl | rfl | rfl | rfl | rfl | rfl <;> rfl
set_option maxRecDepth 20000 in
set_option maxHeartbeats 4000000 in
theorem imay_any (C : ByteArray) (I f t d p v : Int) (W O : ByteArray) (b : Int) (u : Value) (x0 x1 x2 : Int) (x3 x4 : ByteArray) (x5 : Int) (L : Ch.Ls) (x : Int) (w : World) (hL : Ch.Reads w u L) (hl : L.length ≤ 1048576) :
    Calls Try.prog 47 #[Tf.tv C I f t d p v W O b u, .int .i64 x, Sk.sk x0 x1 x2 x3 x4 x5] w fun e w' => ∃ v', e = .returned v' ∧ Sy.Row w' w.heap.size v' (my (x0, x1, x2, x3, x4, x5) L x L.length) ∧ Below w.heap.size w w' := by
  obtain ⟨i0, hi, hz0, hz1, hz2⟩ := info_parts Try.infoS
  have hfit := hL.fits
  have hcell : ∃ bb o, (∀ w', Below w.heap.size w w' → ∀ i, i < L.length → Ch.Cs w' bb o L i) ∧ (0 < L.length → bb < w.heap.size ∧ ∃ cap, u = .slice (some ⟨bb, o, none⟩) L.length cap) := by
    rcases hL with ⟨rfl, _⟩ | ⟨bb, o, cap, h1, h2, h3, h4, h5⟩
    · exact ⟨0, 0, fun _ _ i hi => by simp at hi, fun hi => by simp at hi⟩
    · exact ⟨bb, o, fun w' hb i hi => (h5 i hi).below hb h4, fun _ => ⟨h4, cap, h1⟩⟩
  obtain ⟨bb, o, hc, hvv⟩ := hcell
  obtain ⟨sa, sc, hu⟩ := hL.form
  subst hu
  have HC : Hid (∀ w', Below w.heap.size w w' → ∀ i, i < L.length → Ch.Cs w' bb o L i) := hc
  have HB : Hid (0 < L.length → bb < w.heap.size ∧ sa = some ⟨bb, o, none⟩) := fun hi => by
    obtain ⟨h1, c, h2⟩ := hvv hi
    simp at h2
    exact ⟨h1, h2.1⟩
  obtain ⟨n, hn⟩ : ∃ n, n = L.length := ⟨_, rfl⟩
  rw [← hn] at hfit HC HB hl ⊢
  have HN : Hid (n = L.length) := hn
  clear hL hc hvv hn
  obtain ⟨wb, hwb⟩ : ∃ wb, wb = (w.alloc (.cells #[.string C, .int .i64 I, .int .i64 f, .int .i64 t, .int .i64 d, .int .i64 p, .int .i64 v, .string W, .string O, .int .i64 b, (.slice sa n sc)] 35)).alloc (.cells #[.int .i64 x0, .int .i64 x1, .int .i64 x2, .string x3, .string x4, .int .i64 x5] 32) := ⟨_, rfl⟩
  have HW : Hid (wb = (w.alloc (.cells #[.string C, .int .i64 I, .int .i64 f, .int .i64 t, .int .i64 d, .int .i64 p, .int .i64 v, .string W, .string O, .int .i64 b, (.slice sa n sc)] 35)).alloc (.cells #[.int .i64 x0, .int .i64 x1, .int .i64 x2, .string x3, .string x4, .int .i64 x5] 32)) := hwb
  have BW : Hid (Below w.heap.size w wb) := (by show Below _ _ _; rw [hwb]; exact ((Below.refl _ _).alloc (Nat.le_refl _) _).alloc (by simp) _)
  have ZW : Hid (wb.heap.size = w.heap.size + 2) := (by show _ = _; rw [hwb]; simp)
  have KT : Hid (Tf.TB wb w.heap.size C I f t d p v W O b (.slice sa n sc)) := (by show Tf.TB _ _ _ _ _ _ _ _ _ _ _ _ _; rw [hwb]; exact (Tf.TB.new w C I f t d p v W O b (.slice sa n sc)).on ((Below.refl _ _).alloc (Nat.le_refl _) _) (by simp))
  have K1 : Hid (Sk.SB wb (w.heap.size + 1) x0 x1 x2 x3 x4 x5) := (by
    show Sk.SB _ _ _ _ _ _ _ _
    rw [hwb]
    have := Sk.SB.new (w.alloc (.cells #[.string C, .int .i64 I, .int .i64 f, .int .i64 t, .int .i64 d, .int .i64 p, .int .i64 v, .string W, .string O, .int .i64 b, (.slice sa n sc)] 35)) x0 x1 x2 x3 x4 x5
    simpa using this)
  clear hwb
  have CW : Hid (∀ w', Below wb.heap.size wb w' → Sk.SB w' (w.heap.size + 1) x0 x1 x2 x3 x4 x5 ∧ Below w.heap.size w w') := fun w' hb => ⟨K1.out.on hb (by rw [ZW.out]; omega), BW.out.trans (hb.mono BW.out.size)⟩
  obtain ⟨c0, c1, c2, c3, c4, c5, c6, c7, c8, c9, c10, _⟩ := KT.out.cells
  go_enter Try.func47, Try.ntmps47
  go_wp2_with fail
  rw [← HW.out]
  clear c0 c1 c2 c3 c4 c5 c6 c7 c8 c9 c10 HW KT
  go_loopw [7, 13] (fun q i wr => ∃ (k : Nat) (sv : Value), k ≤ n ∧ i = .int .i64 k ∧ sv = q ∧ Hid (Sy.Row wr wb.heap.size sv (my (x0, x1, x2, x3, x4, x5) L x k)) ∧ Hid (Below wb.heap.size wb wr)) (fun _ i _ => n - (intOf i).toNat)
  case atStart => exact ⟨0, _, Nat.zero_le _, rfl, rfl, Row.none _ _, Below.refl _ _⟩
  case round =>
    obtain ⟨k, sv, hk, rfl, hq, RR, BB⟩ := hrel
    subst hq
    obtain ⟨m1, m2⟩ := CW.out wr BB.out
    have S1 : Hid (Sk.SB wr (w.heap.size + 1) x0 x1 x2 x3 x4 x5) := m1
    have B0 : Hid (Below w.heap.size w wr) := m2
    clear m1 m2
    by_cases hlt : k < n
    · obtain ⟨hb0, hx⟩ := HB.out (by omega)
      subst hx
      obtain ⟨q0, q1, q2, q3, q4, q5, q6, q7, q8⟩ := HC.out wr B0.out k hlt
      have i1 : (0 : Int) ≤ (k : Int) := by omega
      have i2 : (k : Int) < (n : Int) := by omega
      have HM : Hid ((my (x0, x1, x2, x3, x4, x5) L x k).length ≤ k) := my_len _ L x k
      have HY1 : Hid (my (x0, x1, x2, x3, x4, x5) L x (k + 1) = if ((Ch.c0 L k != 1) && (decide (Ch.c1 L k ≤ x) && decide (x < Ch.c2 L k))) = true then my (x0, x1, x2, x3, x4, x5) L x k ++ [Sk.laid (x0, x1, x2, x3, x4, x5) (Ch.c3 L k, Ch.c4 L k, Ch.c5 L k, Ch.c6 L k, Ch.c7 L k, Ch.c8 L k)] else my (x0, x1, x2, x3, x4, x5) L x k) := rfl
      generalize my (x0, x1, x2, x3, x4, x5) L x k = D at *
      generalize Ch.c0 L k = y0 at *
      generalize Ch.c1 L k = y1 at *
      generalize Ch.c2 L k = y2 at *
      generalize Ch.c3 L k = y3 at *
      generalize Ch.c4 L k = y4 at *
      generalize Ch.c5 L k = y5 at *
      generalize Ch.c6 L k = y6 at *
      generalize Ch.c7 L k = y7 at *
      generalize Ch.c8 L k = y8 at *
      have C1 : Hid (∀ w, Calls Try.prog 45 #[sp y1 y2, .int .i64 x] w fun e w' => e = .returned (.bool (decide (y1 ≤ x) && decide (x < y2))) ∧ Below w.heap.size w w') := fun w => holds_any y1 y2 x w
      have C2 : Hid (∀ w, Calls Try.prog 68 #[Sk.sk x0 x1 x2 x3 x4 x5, Sk.sk y3 y4 y5 y6 y7 y8] w fun e w' => e = .returned (Sk.sv (Sk.laid (x0, x1, x2, x3, x4, x5) (y3, y4, y5, y6, y7, y8))) ∧ Below w.heap.size w w') := fun w => Sk.ilaid_any x0 x1 x2 x3 x4 x5 y3 y4 y5 y6 y7 y8 w
      generalize (decide (y1 ≤ x) && decide (x < y2)) = b2 at *
      obtain ⟨z0, z1, z2, z3, z4, z5, hz⟩ : ∃ z0 z1 z2 z3 z4 z5, Sk.laid (x0, x1, x2, x3, x4, x5) (y3, y4, y5, y6, y7, y8) = (z0, z1, z2, z3, z4, z5) := ⟨_, _, _, _, _, _, rfl⟩
      rw [hz] at C2 HY1
      have C3 : Hid (∀ w, Calls Try.prog 68 #[Sk.sk x0 x1 x2 x3 x4 x5, Sk.sk y3 y4 y5 y6 y7 y8] w fun e w' => e = .returned (Sk.sk z0 z1 z2 z3 z4 z5) ∧ Below w.heap.size w w') := C2
      clear hz C2
      obtain ⟨wy, hwy⟩ : ∃ wy, wy = wr.alloc (.cells #[.int .i64 y0, .int .i64 y1, .int .i64 y2, .int .i64 y3, .int .i64 y4, .int .i64 y5, .string y6, .string y7, .int .i64 y8] 60) := ⟨_, rfl⟩
      have HY : Hid (wy = wr.alloc (.cells #[.int .i64 y0, .int .i64 y1, .int .i64 y2, .int .i64 y3, .int .i64 y4, .int .i64 y5, .string y6, .string y7, .int .i64 y8] 60)) := hwy
      have KY : Hid (Ch.CB wy wr.heap.size y0 y1 y2 y3 y4 y5 y6 y7 y8) := (by show Ch.CB _ _ _ _ _ _ _ _ _ _ _; rw [hwy]; exact Ch.CB.new wr y0 y1 y2 y3 y4 y5 y6 y7 y8)
      have QY : Hid (Below wr.heap.size wr wy) := (by show Below _ _ _; rw [hwy]; exact (Below.refl _ _).alloc (Nat.le_refl _) _)
      clear hwy
      have BY : Hid (Below wb.heap.size wb wy) := BB.out.trans (QY.out.mono BB.out.size)
      have RY : Hid (Sy.Row wy wb.heap.size sv D) := RR.out.on QY.out
      cases h1 : (y0 == 1)
      rotate_left 1
      · have e1 := eq_of_beq h1
        subst e1
        clear h1
        go_wp2_with fail
        rw [← HY.out]
        go_roundw
        case rel => exact ⟨k + 1, _, by omega, by go_num, rfl, by rw [HY1.out]; exact RY, BY⟩
        case measure => simp [intOf]; omega
      have h1' : (y0 != 1) = true := by unfold bne; rw [h1]; rfl
      rw [h1'] at HY1
      go_upto_region 5 with fail
      rw [← HY.out]
      obtain ⟨g0, g1, g2, g3, g4, g5, g6, g7, g8, _⟩ := KY.out.cells
      clear q0 q1 q2 q3 q4 q5 q6 q7 q8 HY
      go_wp2_with fail
      refine (C1.out _).mono ?_
      rintro e w1 ⟨rfl, hb⟩
      have R1 : Hid (Sy.Row w1 wb.heap.size sv D) := RY.out.on hb
      have B1 : Hid (Below wb.heap.size wb w1) := BY.out.trans (hb.mono BY.out.size)
      have K1' : Hid (Ch.CB w1 wr.heap.size y0 y1 y2 y3 y4 y5 y6 y7 y8) := KY.out.on hb KY.out.lt
      clear g0 g1 g2 g3 g4 g5 g6 g7 g8 hb
      cases b2
      · go_wp2_with fail
        go_roundw
        case rel => exact ⟨k + 1, _, by omega, by go_num, rfl, by rw [HY1.out]; exact R1, B1⟩
        case measure => simp [intOf]; omega
      obtain ⟨g0, g1, g2, g3, g4, g5, g6, g7, g8, _⟩ := K1'.out.cells
      obtain ⟨a0, a1, a2, a3, a4, a5, _⟩ := (CW.out w1 B1.out).1.cells
      go_wp2_with fail
      refine (C3.out _).mono ?_
      rintro e w2 ⟨rfl, hb⟩
      have B2 : Hid (Below wb.heap.size wb w2) := B1.out.trans (hb.mono B1.out.size)
      obtain ⟨xs, O, G⟩ := R1.out.on hb
      have O' : Hid (w2.ownsRow wb.heap.size 32 6 sv D.length xs) := O
      have G' : Hid (Sy.Good xs D D.length) := G
      clear g0 g1 g2 g3 g4 g5 g6 g7 g8 a0 a1 a2 a3 a4 a5 hb O G RR R1 RY
      have hm := HM.out
      obtain ⟨m, hmm⟩ : ∃ m, m = D.length := ⟨_, rfl⟩
      rw [← hmm] at hm O'
      have HMM : Hid (m = D.length) := hmm
      have hsz : wb.heap.size ≤ w2.heap.size := B2.out.size
      clear hmm
      go_wp2_with (at_builtin; refine wpList_append_own _ rfl _ _ 39 rfl wb.heap.size 32 i0 (.agg #[.int .i64 0, .int .i64 0, .int .i64 0, .string ⟨#[]⟩, .string ⟨#[]⟩, .int .i64 0]) 6 64 Try.underlying39 hi hz0 hz1 hz2 rfl (by decide) _ _ _ rfl (O'.out.alloc _) ⟨w2.heap.size, 0, none⟩ 1 1 [.int .i64 z0, .int .i64 z1, .int .i64 z2, .string z3, .string z4, .int .i64 z5] rfl rfl (Sy.cell_news w2 _ _ _ _ _ _ 32) (one_six _ _ _ _ _ _) (by unfold maxLen; omega) (by omega) (by simp; omega) ?_)
      intro v' w3 hown hgrow _
      have R2 : Hid (Sy.Row w3 wb.heap.size v' (my (x0, x1, x2, x3, x4, x5) L x (k + 1))) := (by
        show Sy.Row _ _ _ _
        rw [HY1.out]
        exact ⟨_, by simpa [HMM.out] using hown, Sy.good_snoc G'.out (by rw [← HMM.out]; exact O'.out.1)⟩)
      have B3 : Hid (Below wb.heap.size wb w3) := (B2.out.alloc B2.out.size _).grown hgrow (by simp; have := B2.out.size; omega) (fun b hb => (O'.out.lt b hb).1)
      clear hown hgrow O' G'
      go_wp2_with fail
      go_roundw
      case rel => exact ⟨k + 1, _, by omega, by go_num, rfl, R2, B3⟩
      case measure => simp [intOf]; omega
    · have ek : k = n := by omega
      subst ek
      go_wp2_with fail
      go_ret
      exact ⟨_, rfl, Row.down RR.out BW.out.size, B0.out⟩
end Go.Proofs.Ytmbhlmpdkkjedaa.To
