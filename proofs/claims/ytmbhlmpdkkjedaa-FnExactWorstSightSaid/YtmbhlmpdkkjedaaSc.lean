/- StateAt of the model once more: where its list lies. -/
import Derived.Test.YtmbhlmpdkkjedaaSb
namespace Go.Proofs.Ytmbhlmpdkkjedaa.To
open Go.ChangeShapes Go.WideShapes Go.ChangeAt Go.RowKit
open Go.Proofs.Ytmbhlmpdkkjedaa.Al

theorem sy_off {w : World} {v : Value} {M : Sy.Ls} {r : Nat} (h : Sy.Reads w v M) (hr : 0 < M.length → ∀ g, v.ownBlock = some g → g ≠ r) (v0 v1 v2 v3 v4 v5 : Value) : Sy.Reads ((((((w.setCell ⟨r, 0, none⟩ v0).setCell ⟨r, 1, none⟩ v1).setCell ⟨r, 2, none⟩ v2).setCell ⟨r, 3, none⟩ v3).setCell ⟨r, 4, none⟩ v4).setCell ⟨r, 5, none⟩ v5) v M := by
  rcases h with h | ⟨b, o, cap, h1, h2, h3, h4, h5⟩
  · exact Or.inl h
  · refine Or.inr ⟨b, o, cap, h1, h2, h3, by simpa using h4, fun i hi => ?_⟩
    have hne : b ≠ r := hr (by omega) b (by rw [h1]; rfl)
    have K : ∀ j, ((((((w.setCell ⟨r, 0, none⟩ v0).setCell ⟨r, 1, none⟩ v1).setCell ⟨r, 2, none⟩ v2).setCell ⟨r, 3, none⟩ v3).setCell ⟨r, 4, none⟩ v4).setCell ⟨r, 5, none⟩ v5).cell? ⟨b, j, none⟩ = w.cell? ⟨b, j, none⟩ := fun j => by
      refine World.cell?_of_block (a := ⟨b, j, none⟩) ?_
      rw [Below.heap_setCell _ _ _ b hne, Below.heap_setCell _ _ _ b hne, Below.heap_setCell _ _ _ b hne, Below.heap_setCell _ _ _ b hne, Below.heap_setCell _ _ _ b hne, Below.heap_setCell _ _ _ b hne]
    have := h5 i hi
    unfold Sy.Cs at this ⊢
    simp only [K]
    exact this

set_option maxRecDepth 20000 in
set_option maxHeartbeats 4000000 in
theorem sstate2_any (C : ByteArray) (I f t d p v : Int) (W O : ByteArray) (b : Int) (u : Value) (L : Ch.Ls) (x : Int) (w : World) (hL : Ch.Reads w u L) (hl : L.length ≤ 1048576) :
    Calls Try.prog 12 #[Tf.tv C I f t d p v W O b u, .int .i64 x] w fun e w' => ∃ v', e = .returned (.tuple #[Sk.sv (sA C I f t d p v W O b L x), v', .bool (sok C I f t d p v W O b L x)]) ∧ Sy.Reads w' v' (sM C I f t d p v W O b L x) ∧ (0 < (sM C I f t d p v W O b L x).length → ∀ g, v'.ownBlock = some g → w.heap.size ≤ g) ∧ Below w.heap.size w w' := by
  obtain ⟨i0, hi, hz0, hz1, hz2⟩ := info_parts Try.infoS
  have C1 : Hid (∀ w', Below w.heap.size w w' → Calls Try.prog 8 #[Tf.tv C I f t d p v W O b u] w' fun e w'' => e = .returned (.bool (tok C I f t d p v W O b L)) ∧ Below w'.heap.size w' w'') := fun w' hb => staf_any C I f t d p v W O b u L w' (hL.on hb)
  have HSO : Hid (sok C I f t d p v W O b L x = (tok C I f t d p v W O b L && (decide (f ≤ x) && decide (x < t)))) := rfl
  have HA : Hid (sok C I f t d p v W O b L x = true → sA C I f t d p v W O b L x = hs (d, p, v, W, O, b) L x L.length ∧ sM C I f t d p v W O b L x = my (hs (d, p, v, W, O, b) L x L.length) L x L.length) := fun h => by unfold sA sM; rw [h]; exact ⟨rfl, rfl⟩
  have HZ : Hid (sok C I f t d p v W O b L x = false → sA C I f t d p v W O b L x = Z6 ∧ sM C I f t d p v W O b L x = []) := fun h => by unfold sA sM; rw [h]; exact ⟨rfl, rfl⟩
  have HP : Hid (tok C I f t d p v W O b L = true → fu (d, p, v, W, O, b) = true ∧ (∀ j, j < L.length → cj f t L j = true) ∧ L.length ≤ 10) := fun h => tok_parts h
  generalize sok C I f t d p v W O b L x = q at *
  generalize sA C I f t d p v W O b L x = A at *
  generalize sM C I f t d p v W O b L x = M at *
  generalize tok C I f t d p v W O b L = b1 at *
  have hfit := hL.fits
  have hcell : ∃ bb o, (∀ w', Below w.heap.size w w' → ∀ i, i < L.length → Ch.Cs w' bb o L i) ∧ (0 < L.length → bb < w.heap.size ∧ ∃ cap, u = .slice (some ⟨bb, o, none⟩) L.length cap) := by
    rcases hL with ⟨rfl, _⟩ | ⟨bb, o, cap, h1, h2, h3, h4, h5⟩
    · exact ⟨0, 0, fun _ _ i hi => by simp at hi, fun hi => by simp at hi⟩
    · exact ⟨bb, o, fun w' hb i hi => (h5 i hi).below hb h4, fun _ => ⟨h4, cap, h1⟩⟩
  obtain ⟨bb, o, hc, hvv⟩ := hcell
  obtain ⟨sa, sc, hu⟩ := hL.form
  subst hu
  have HC : Hid (∀ w', Below w.heap.size w w' → ∀ i, i < L.length → Ch.Cs w' bb o L i) := hc
  have HB : Hid (0 < L.length → bb < w.heap.size ∧ sa = some ⟨bb, o, none⟩) := fun hi => by
    obtain ⟨h1, c, h2⟩ := hvv hi
    simp at h2
    exact ⟨h1, h2.1⟩
  obtain ⟨n, hn⟩ : ∃ n, n = L.length := ⟨_, rfl⟩
  rw [← hn] at hfit HC HB C1 HA HP hl ⊢
  have HN : Hid (n = L.length) := hn
  clear hL hc hvv hn
  obtain ⟨wb, hwb⟩ : ∃ wb, wb = ((w.alloc (.cells #[.string C, .int .i64 I, .int .i64 f, .int .i64 t, .int .i64 d, .int .i64 p, .int .i64 v, .string W, .string O, .int .i64 b, (.slice sa n sc)] 35)).alloc (.cells #[.int .i64 0, .int .i64 0, .int .i64 0, .string ⟨#[]⟩, .string ⟨#[]⟩, .int .i64 0] 32)).alloc (.cells #[] 32) := ⟨_, rfl⟩
  have HW : Hid (wb = ((w.alloc (.cells #[.string C, .int .i64 I, .int .i64 f, .int .i64 t, .int .i64 d, .int .i64 p, .int .i64 v, .string W, .string O, .int .i64 b, (.slice sa n sc)] 35)).alloc (.cells #[.int .i64 0, .int .i64 0, .int .i64 0, .string ⟨#[]⟩, .string ⟨#[]⟩, .int .i64 0] 32)).alloc (.cells #[] 32)) := hwb
  have BW : Hid (Below w.heap.size w wb) := (by show Below _ _ _; rw [hwb]; exact (((Below.refl _ _).alloc (Nat.le_refl _) _).alloc (by simp) _).alloc (by simp; omega) _)
  have KT : Hid (Tf.TB wb w.heap.size C I f t d p v W O b (.slice sa n sc)) := (by show Tf.TB _ _ _ _ _ _ _ _ _ _ _ _ _; rw [hwb]; exact ((Tf.TB.new w C I f t d p v W O b (.slice sa n sc)).on ((Below.refl _ _).alloc (Nat.le_refl _) _) (by simp)).on ((Below.refl _ _).alloc (Nat.le_refl _) _) (by simp; omega))
  have K0 : Hid (Sk.SB wb (w.heap.size + 1) 0 0 0 Sk.E Sk.E 0) := (by
    show Sk.SB _ _ _ _ _ _ _ _
    rw [hwb]
    have := (Sk.SB.new (w.alloc (.cells #[.string C, .int .i64 I, .int .i64 f, .int .i64 t, .int .i64 d, .int .i64 p, .int .i64 v, .string W, .string O, .int .i64 b, (.slice sa n sc)] 35)) 0 0 0 ⟨#[]⟩ ⟨#[]⟩ 0).on ((Below.refl _ _).alloc (Nat.le_refl _) (.cells #[] 32)) (by simp)
    simpa using this)
  have KR : Hid (Sy.Row wb (w.heap.size + 2) (.slice (some ⟨w.heap.size + 2, 0, none⟩) 0 0) []) := (by
    show Sy.Row _ _ _ _
    rw [hwb]
    have := World.ownsRow_lit (base := w.heap.size + 2) (e := 32) (size := 6) ((w.alloc (.cells #[.string C, .int .i64 I, .int .i64 f, .int .i64 t, .int .i64 d, .int .i64 p, .int .i64 v, .string W, .string O, .int .i64 b, (.slice sa n sc)] 35)).alloc (.cells #[.int .i64 0, .int .i64 0, .int .i64 0, .string ⟨#[]⟩, .string ⟨#[]⟩, .int .i64 0] 32)) #[] 0 (by simp) (Nat.zero_le _) rfl
    exact ⟨[], by simpa using this, fun i hi => absurd hi (by simp)⟩)
  clear hwb
  obtain ⟨c0, c1, c2, c3, c4, c5, c6, c7, c8, c9, c10, _⟩ := KT.out.cells
  go_enter Try.func12, Try.ntmps12
  go_wp2_with fail
  rw [← HW.out]
  refine (C1.out _ BW.out).mono ?_
  rintro e w1 ⟨rfl, hb⟩
  have T1 : Hid (Tf.TB w1 w.heap.size C I f t d p v W O b (.slice sa n sc)) := KT.out.on hb KT.out.lt
  have U1 : Hid (Sk.SB w1 (w.heap.size + 1) 0 0 0 Sk.E Sk.E 0) := K0.out.on hb K0.out.lt
  have R1 : Hid (Sy.Row w1 (w.heap.size + 2) (.slice (some ⟨w.heap.size + 2, 0, none⟩) 0 0) []) := KR.out.on hb
  have B1 : Hid (Below w.heap.size w w1) := BW.out.trans (hb.mono BW.out.size)
  clear c0 c1 c2 c3 c4 c5 c6 c7 c8 c9 c10 hb HW
  cases b1
  · have hq : q = false := by rw [HSO.out]; rfl
    obtain ⟨d0, d1, d2, d3, d4, d5, fr⟩ := U1.out.cells
    have f0 := fr 0
    have f1 := fr 1
    have f2 := fr 2
    have f3 := fr 3
    have f4 := fr 4
    have f5 := fr 5
    clear fr
    go_wp2_with fail
    obtain ⟨hA, hM⟩ := HZ.out hq
    rw [hA, hM, hq]
    exact bodyPost_ret (results_cell3 Try.results12 _ _ (w.heap.size + 1) 32 _ (0, 0) _ rfl (U1.out.all 0 0 0 ⟨#[]⟩ ⟨#[]⟩ 0) Try.underlying32 rfl Sk.size26) rfl ⟨_, rfl, Or.inl ⟨rfl, _, _, rfl⟩, fun h => absurd h (by simp), Sk.below_all B1.out (by omega) _ _ _ _ _ _⟩
  obtain ⟨c0, c1, c2, c3, c4, c5, c6, c7, c8, c9, c10, _⟩ := T1.out.cells
  by_cases hf : x < f
  · have hq : q = false := by rw [HSO.out, decide_eq_false (show ¬ f ≤ x by omega)]; rfl
    obtain ⟨d0, d1, d2, d3, d4, d5, fr⟩ := U1.out.cells
    have f0 := fr 0
    have f1 := fr 1
    have f2 := fr 2
    have f3 := fr 3
    have f4 := fr 4
    have f5 := fr 5
    clear fr
    go_wp2_with fail
    obtain ⟨hA, hM⟩ := HZ.out hq
    rw [hA, hM, hq]
    exact bodyPost_ret (results_cell3 Try.results12 _ _ (w.heap.size + 1) 32 _ (0, 0) _ rfl (U1.out.all 0 0 0 ⟨#[]⟩ ⟨#[]⟩ 0) Try.underlying32 rfl Sk.size26) rfl ⟨_, rfl, Or.inl ⟨rfl, _, _, rfl⟩, fun h => absurd h (by simp), Sk.below_all B1.out (by omega) _ _ _ _ _ _⟩
  by_cases ht : t ≤ x
  · have hq : q = false := by rw [HSO.out, decide_eq_true (show f ≤ x by omega), decide_eq_false (show ¬ x < t by omega)]; rfl
    obtain ⟨d0, d1, d2, d3, d4, d5, fr⟩ := U1.out.cells
    have f0 := fr 0
    have f1 := fr 1
    have f2 := fr 2
    have f3 := fr 3
    have f4 := fr 4
    have f5 := fr 5
    clear fr
    go_wp2_with fail
    obtain ⟨hA, hM⟩ := HZ.out hq
    rw [hA, hM, hq]
    exact bodyPost_ret (results_cell3 Try.results12 _ _ (w.heap.size + 1) 32 _ (0, 0) _ rfl (U1.out.all 0 0 0 ⟨#[]⟩ ⟨#[]⟩ 0) Try.underlying32 rfl Sk.size26) rfl ⟨_, rfl, Or.inl ⟨rfl, _, _, rfl⟩, fun h => absurd h (by simp), Sk.below_all B1.out (by omega) _ _ _ _ _ _⟩
  have hq : q = true := by rw [HSO.out, decide_eq_true (show f ≤ x by omega), decide_eq_true (show x < t by omega)]; rfl
  obtain ⟨hA, hM⟩ := HA.out hq
  obtain ⟨p1, p2, p3⟩ := HP.out (by first | trivial | rfl)
  subst hq
  subst hA
  subst hM
  have HFU : Hid (∀ k, k ≤ n → fu (hs (d, p, v, W, O, b) L x k) = true) := fun k hk => hs_full p1 k (fun j hj => p2 j (by have := HN.out; omega))
  have HCJ : Hid (∀ j, j < n → cj f t L j = true) := fun j hj => p2 j (by have := HN.out; omega)
  have H10 : Hid (n ≤ 10) := p3
  clear HA HZ HSO HP p1 p2 p3
  obtain ⟨r8, hr8⟩ : ∃ r8, r8 = w1.heap.size := ⟨_, rfl⟩
  obtain ⟨w2, hw2⟩ : ∃ w2, w2 = w1.alloc (.cells #[.int .i64 d, .int .i64 p, .int .i64 v, .string W, .string O, .int .i64 b] 32) := ⟨_, rfl⟩
  have HW2 : Hid (w2 = w1.alloc (.cells #[.int .i64 d, .int .i64 p, .int .i64 v, .string W, .string O, .int .i64 b] 32)) := hw2
  have Q2 : Hid (Below w1.heap.size w1 w2) := (by show Below _ _ _; rw [hw2]; exact (Below.refl _ _).alloc (Nat.le_refl _) _)
  have S2 : Hid (Sk.SB w2 r8 d p v W O b) := (by show Sk.SB _ _ _ _ _ _ _ _; rw [hw2, hr8]; exact Sk.SB.new w1 d p v W O b)
  clear hw2
  have T2 : Hid (Tf.TB w2 w.heap.size C I f t d p v W O b (.slice sa n sc)) := T1.out.on Q2.out T1.out.lt
  have U2 : Hid (Sk.SB w2 (w.heap.size + 1) 0 0 0 Sk.E Sk.E 0) := U1.out.on Q2.out U1.out.lt
  have R2 : Hid (Sy.Row w2 (w.heap.size + 2) (.slice (some ⟨w.heap.size + 2, 0, none⟩) 0 0) []) := R1.out.on Q2.out
  have B2 : Hid (Below w.heap.size w w2) := B1.out.trans (Q2.out.mono B1.out.size)
  have H8 : Hid (w.heap.size + 2 < r8) := (by have := (R1.out.lt (w.heap.size + 2) rfl).2; show w.heap.size + 2 < r8; omega)
  have HR8 : Hid (r8 = w1.heap.size) := hr8
  clear hr8
  go_upto_region 5 with fail
  rw [← HW2.out, ← HR8.out]
  clear c0 c1 c2 c3 c4 c5 c6 c7 c8 c9 c10 HW2 hf ht
  go_wp2_with fail
  go_loopw [9] (fun i wr => ∃ k : Nat, k ≤ n ∧ i = .int .i64 k ∧ Hid (Tf.TB wr w.heap.size C I f t d p v W O b (.slice sa n sc)) ∧ Hid (Sk.SB wr (w.heap.size + 1) 0 0 0 Sk.E Sk.E 0) ∧ Hid (Sy.Row wr (w.heap.size + 2) (.slice (some ⟨w.heap.size + 2, 0, none⟩) 0 0) []) ∧ Hid (∃ x0 x1 x2 x3 x4 x5, hs (d, p, v, W, O, b) L x k = (x0, x1, x2, x3, x4, x5) ∧ Sk.SB wr r8 x0 x1 x2 x3 x4 x5) ∧ Hid (Below w.heap.size w wr)) (fun i _ => n - (intOf i).toNat)
  case atStart => exact ⟨0, Nat.zero_le _, rfl, T2, U2, R2, ⟨_, _, _, _, _, _, rfl, S2.out⟩, B2⟩
  case round =>
    obtain ⟨k, hk, rfl, T0, S0, R0, S1, BB⟩ := hrel
    obtain ⟨x0, x1, x2, x3, x4, x5, hx, s1⟩ := S1.out
    have HX : Hid (hs (d, p, v, W, O, b) L x k = (x0, x1, x2, x3, x4, x5)) := hx
    have S1' : Hid (Sk.SB wr r8 x0 x1 x2 x3 x4 x5) := s1
    clear hx s1 S1
    obtain ⟨c0, c1, c2, c3, c4, c5, c6, c7, c8, c9, c10, _⟩ := T0.out.cells
    by_cases hlt : k < n
    · obtain ⟨hb0, hx⟩ := HB.out (by omega)
      subst hx
      obtain ⟨q0, q1, q2, q3, q4, q5, q6, q7, q8⟩ := HC.out wr BB.out k hlt
      have i1 : (0 : Int) ≤ (k : Int) := by omega
      have i2 : (k : Int) < (n : Int) := by omega
      have HS : Hid (hs (d, p, v, W, O, b) L x (k + 1) = if (lst (Ch.c0 L k) && decide (stl (Ch.c0 L k) (Ch.c1 L k) (Ch.c2 L k) ≤ x)) = true then Sk.laid (x0, x1, x2, x3, x4, x5) (Ch.c3 L k, Ch.c4 L k, Ch.c5 L k, Ch.c6 L k, Ch.c7 L k, Ch.c8 L k) else (x0, x1, x2, x3, x4, x5)) := (by rw [← HX.out]; rfl)
      have HF1 : Hid (Ch.c0 L k = 1 → Sk.laid (x0, x1, x2, x3, x4, x5) (Ch.c3 L k, Ch.c4 L k, Ch.c5 L k, Ch.c6 L k, Ch.c7 L k, Ch.c8 L k) = (Ch.c3 L k, Ch.c4 L k, Ch.c5 L k, Ch.c6 L k, Ch.c7 L k, Ch.c8 L k)) := fun h => by
        have h1 := HFU.out k hk
        rw [HX.out] at h1
        have h2 := HCJ.out k hlt
        exact (laid_ok h1 (cj_ok h2)).trans (lay_full _ _ (cj_full h2 h))
      generalize Ch.c0 L k = y0 at *
      generalize Ch.c1 L k = y1 at *
      generalize Ch.c2 L k = y2 at *
      generalize Ch.c3 L k = y3 at *
      generalize Ch.c4 L k = y4 at *
      generalize Ch.c5 L k = y5 at *
      generalize Ch.c6 L k = y6 at *
      generalize Ch.c7 L k = y7 at *
      generalize Ch.c8 L k = y8 at *
      have C2 : Hid (∀ w, Calls Try.prog 44 #[Sk.sk x0 x1 x2 x3 x4 x5, Sk.sk y3 y4 y5 y6 y7 y8] w fun e w' => e = .returned (Sk.sv (Sk.laid (x0, x1, x2, x3, x4, x5) (y3, y4, y5, y6, y7, y8))) ∧ Below w.heap.size w w') := fun w => Sk.slaid_any x0 x1 x2 x3 x4 x5 y3 y4 y5 y6 y7 y8 w
      obtain ⟨z0, z1, z2, z3, z4, z5, hz⟩ : ∃ z0 z1 z2 z3 z4 z5, Sk.laid (x0, x1, x2, x3, x4, x5) (y3, y4, y5, y6, y7, y8) = (z0, z1, z2, z3, z4, z5) := ⟨_, _, _, _, _, _, rfl⟩
      rw [hz] at C2 HS HF1
      have C3 : Hid (∀ w, Calls Try.prog 44 #[Sk.sk x0 x1 x2 x3 x4 x5, Sk.sk y3 y4 y5 y6 y7 y8] w fun e w' => e = .returned (Sk.sk z0 z1 z2 z3 z4 z5) ∧ Below w.heap.size w w') := C2
      clear hz C2
      obtain ⟨wy, hwy⟩ : ∃ wy, wy = wr.alloc (.cells #[.int .i64 y0, .int .i64 y1, .int .i64 y2, .int .i64 y3, .int .i64 y4, .int .i64 y5, .string y6, .string y7, .int .i64 y8] 60) := ⟨_, rfl⟩
      have HY : Hid (wy = wr.alloc (.cells #[.int .i64 y0, .int .i64 y1, .int .i64 y2, .int .i64 y3, .int .i64 y4, .int .i64 y5, .string y6, .string y7, .int .i64 y8] 60)) := hwy
      have KY : Hid (Ch.CB wy wr.heap.size y0 y1 y2 y3 y4 y5 y6 y7 y8) := (by show Ch.CB _ _ _ _ _ _ _ _ _ _ _; rw [hwy]; exact Ch.CB.new wr y0 y1 y2 y3 y4 y5 y6 y7 y8)
      have QY : Hid (Below wr.heap.size wr wy) := (by show Below _ _ _; rw [hwy]; exact (Below.refl _ _).alloc (Nat.le_refl _) _)
      clear hwy
      have TY : Hid (Tf.TB wy w.heap.size C I f t d p v W O b (.slice (some ⟨bb, o, none⟩) n sc)) := T0.out.on QY.out T0.out.lt
      have UY : Hid (Sk.SB wy (w.heap.size + 1) 0 0 0 Sk.E Sk.E 0) := S0.out.on QY.out S0.out.lt
      have RY : Hid (Sy.Row wy (w.heap.size + 2) (.slice (some ⟨w.heap.size + 2, 0, none⟩) 0 0) []) := R0.out.on QY.out
      have SY : Hid (Sk.SB wy r8 x0 x1 x2 x3 x4 x5) := S1'.out.on QY.out S1'.out.lt
      have BY : Hid (Below w.heap.size w wy) := BB.out.trans (QY.out.mono BB.out.size)
      have HNE : Hid (wr.heap.size ≠ r8) := (by have := S1'.out.lt; show _ ≠ _; omega)
      go_upto_region 9 with fail
      rw [← HY.out]
      clear q0 q1 q2 q3 q4 q5 q6 q7 q8 HY c0 c1 c2 c3 c4 c5 c6 c7 c8 c9 c10 T0 S0 R0 S1' QY
      obtain ⟨g0, g1, g2, g3, g4, g5, g6, g7, g8, _⟩ := KY.out.cells
      cases h1 : (y0 == 1)
      · cases h2 : (y0 == 2)
        · have hb2 : lst y0 = false := by unfold lst; rw [h1, h2]; rfl
          go_wp2_with fail
          go_roundw
          case rel => exact ⟨k + 1, by omega, by go_num, TY, UY, RY, ⟨_, _, _, _, _, _, by rw [HS.out, hb2]; rfl, SY.out⟩, BY⟩
          case measure => simp [intOf]; omega
        have e2 := eq_of_beq h2
        subst e2
        clear h1 h2
        by_cases hz : y2 ≤ x
        rotate_left 1
        · go_wp2_with fail
          go_roundw
          case rel => exact ⟨k + 1, by omega, by go_num, TY, UY, RY, ⟨_, _, _, _, _, _, by rw [HS.out]; exact if_neg (fun h => absurd (of_decide_eq_true h : y2 ≤ x) (by omega)), SY.out⟩, BY⟩
          case measure => simp [intOf]; omega
        obtain ⟨a0, a1, a2, a3, a4, a5, _⟩ := SY.out.cells
        go_wp2_with fail
        refine (C3.out _).mono ?_
        rintro e w3 ⟨rfl, hb⟩
        have T3 : Hid (Tf.TB w3 w.heap.size C I f t d p v W O b (.slice (some ⟨bb, o, none⟩) n sc)) := TY.out.on hb TY.out.lt
        have U3 : Hid (Sk.SB w3 (w.heap.size + 1) 0 0 0 Sk.E Sk.E 0) := UY.out.on hb UY.out.lt
        have R3 : Hid (Sy.Row w3 (w.heap.size + 2) (.slice (some ⟨w.heap.size + 2, 0, none⟩) 0 0) []) := RY.out.on hb
        have S3 : Hid (Sk.SB w3 r8 x0 x1 x2 x3 x4 x5) := SY.out.on hb SY.out.lt
        have B3 : Hid (Below w.heap.size w w3) := BY.out.trans (hb.mono BY.out.size)
        clear g0 g1 g2 g3 g4 g5 g6 g7 g8 a0 a1 a2 a3 a4 a5 hb
        obtain ⟨a0, a1, a2, a3, a4, a5, fr⟩ := S3.out.cells
        have f0 := fr 0
        have f1 := fr 1
        have f2 := fr 2
        have f3 := fr 3
        have f4 := fr 4
        have f5 := fr 5
        clear fr
        go_wp2_with fail
        go_roundw
        case rel => exact ⟨k + 1, by omega, by go_num, TB.keep6 T3.out (by have := H8.out; omega) _ _ _ _ _ _, SB.keep6 U3.out (by have := H8.out; omega) _ _ _ _ _ _, row_keep6 R3.out (fun g hg => by have := H8.out; simp [Value.ownBlock] at hg; omega) _ _ _ _ _ _, ⟨_, _, _, _, _, _, by rw [HS.out]; exact if_pos (decide_eq_true hz), S3.out.all z0 z1 z2 z3 z4 z5⟩, Sk.below_all B3.out (by have := H8.out; omega) _ _ _ _ _ _⟩
        case measure => simp [intOf]; omega
      have e2 := eq_of_beq h1
      subst e2
      clear h1
      by_cases hz : y1 ≤ x
      rotate_left 1
      · go_wp2_with fail
        go_roundw
        case rel => exact ⟨k + 1, by omega, by go_num, TY, UY, RY, ⟨_, _, _, _, _, _, by rw [HS.out]; exact if_neg (fun h => absurd (of_decide_eq_true h : y1 ≤ x) (by omega)), SY.out⟩, BY⟩
        case measure => simp [intOf]; omega
      obtain ⟨w3, hw3⟩ : ∃ w3, w3 = ((((((wy.setCell ⟨r8, 0, none⟩ (.int .i64 y3)).setCell ⟨r8, 1, none⟩ (.int .i64 y4)).setCell ⟨r8, 2, none⟩ (.int .i64 y5)).setCell ⟨r8, 3, none⟩ (.string y6)).setCell ⟨r8, 4, none⟩ (.string y7)).setCell ⟨r8, 5, none⟩ (.int .i64 y8)) := ⟨_, rfl⟩
      have HW3 : Hid (w3 = ((((((wy.setCell ⟨r8, 0, none⟩ (.int .i64 y3)).setCell ⟨r8, 1, none⟩ (.int .i64 y4)).setCell ⟨r8, 2, none⟩ (.int .i64 y5)).setCell ⟨r8, 3, none⟩ (.string y6)).setCell ⟨r8, 4, none⟩ (.string y7)).setCell ⟨r8, 5, none⟩ (.int .i64 y8))) := hw3
      have T3 : Hid (Tf.TB w3 w.heap.size C I f t d p v W O b (.slice (some ⟨bb, o, none⟩) n sc)) := (by show Tf.TB _ _ _ _ _ _ _ _ _ _ _ _ _; rw [hw3]; exact TB.keep6 TY.out (by have := H8.out; omega) _ _ _ _ _ _)
      have U3 : Hid (Sk.SB w3 (w.heap.size + 1) 0 0 0 Sk.E Sk.E 0) := (by show Sk.SB _ _ _ _ _ _ _ _; rw [hw3]; exact SB.keep6 UY.out (by have := H8.out; omega) _ _ _ _ _ _)
      have R3 : Hid (Sy.Row w3 (w.heap.size + 2) (.slice (some ⟨w.heap.size + 2, 0, none⟩) 0 0) []) := (by show Sy.Row _ _ _ _; rw [hw3]; exact row_keep6 RY.out (fun g hg => by have := H8.out; simp [Value.ownBlock] at hg; omega) _ _ _ _ _ _)
      have S3 : Hid (Sk.SB w3 r8 y3 y4 y5 y6 y7 y8) := (by show Sk.SB _ _ _ _ _ _ _ _; rw [hw3]; exact SY.out.all y3 y4 y5 y6 y7 y8)
      have K3 : Hid (Ch.CB w3 wr.heap.size 1 y1 y2 y3 y4 y5 y6 y7 y8) := (by show Ch.CB _ _ _ _ _ _ _ _ _ _ _; rw [hw3]; exact CB.keep6 KY.out HNE.out _ _ _ _ _ _)
      have B3 : Hid (Below w.heap.size w w3) := (by show Below _ _ _; rw [hw3]; exact Sk.below_all BY.out (by have := H8.out; omega) _ _ _ _ _ _)
      clear hw3
      obtain ⟨a0, a1, a2, a3, a4, a5, fr⟩ := SY.out.cells
      have f0 := fr 0
      have f1 := fr 1
      have f2 := fr 2
      have f3 := fr 3
      have f4 := fr 4
      have f5 := fr 5
      clear fr
      go_upto_region 11 with fail
      rw [← HW3.out]
      clear g0 g1 g2 g3 g4 g5 g6 g7 g8 a0 a1 a2 a3 a4 a5 f0 f1 f2 f3 f4 f5 HW3
      obtain ⟨g0, g1, g2, g3, g4, g5, g6, g7, g8, _⟩ := K3.out.cells
      have hzz : (z0, z1, z2, z3, z4, z5) = (y3, y4, y5, y6, y7, y8) := HF1.out rfl
      have HS2 : Hid (hs (d, p, v, W, O, b) L x (k + 1) = (y3, y4, y5, y6, y7, y8)) := (by rw [HS.out, ← hzz]; exact if_pos (decide_eq_true hz))
      clear hzz HS HF1
      go_wp2_with fail
      go_roundw
      case rel => exact ⟨k + 1, by omega, by go_num, T3, U3, R3, ⟨_, _, _, _, _, _, HS2.out, S3.out⟩, B3⟩
      case measure => simp [intOf]; omega
    · have ek : k = n := by omega
      have HXN : Hid (hs (d, p, v, W, O, b) L x n = (x0, x1, x2, x3, x4, x5)) := (by rw [← ek]; exact HX.out)
      clear HX ek
      go_wp2_with fail
      clear hlt hk
      clear c0 c1 c2 c3 c4 c5 c6 c7 c8 c9 c10
      go_loopw [7, 11] (fun q i ws => ∃ (k : Nat) (sv : Value), k ≤ n ∧ i = .int .i64 k ∧ sv = q ∧ Hid (Tf.TB ws w.heap.size C I f t d p v W O b (.slice sa n sc)) ∧ Hid (Sk.SB ws (w.heap.size + 1) 0 0 0 Sk.E Sk.E 0) ∧ Hid (Sy.Row ws (w.heap.size + 2) sv (my (x0, x1, x2, x3, x4, x5) L x k) ∧ sv.ownBlock ≠ some r8) ∧ Hid (Sk.SB ws r8 x0 x1 x2 x3 x4 x5) ∧ Hid (Below w.heap.size w ws)) (fun _ i _ => n - (intOf i).toNat)
      case atStart => exact ⟨0, _, Nat.zero_le _, rfl, rfl, T0, S0, ⟨R0.out, by have := H8.out; simp [Value.ownBlock]; omega⟩, S1', BB⟩
      case round =>
        clear T0 S0 R0 S1' BB
        obtain ⟨k, sv, hk, rfl, hq, T0, S0, R0, S1', BB⟩ := hrel
        subst hq
        obtain ⟨c0, c1, c2, c3, c4, c5, c6, c7, c8, c9, c10, _⟩ := T0.out.cells
        by_cases hlt : k < n
        · obtain ⟨hb0, hx⟩ := HB.out (by omega)
          subst hx
          obtain ⟨q0, q1, q2, q3, q4, q5, q6, q7, q8⟩ := HC.out _ BB.out k hlt
          have i1 : (0 : Int) ≤ (k : Int) := by omega
          have i2 : (k : Int) < (n : Int) := by omega
          have HM : Hid ((my (x0, x1, x2, x3, x4, x5) L x k).length ≤ k) := my_len _ L x k
          have HY1 : Hid (my (x0, x1, x2, x3, x4, x5) L x (k + 1) = if ((Ch.c0 L k != 1) && (decide (Ch.c1 L k ≤ x) && decide (x < Ch.c2 L k))) = true then my (x0, x1, x2, x3, x4, x5) L x k ++ [Sk.laid (x0, x1, x2, x3, x4, x5) (Ch.c3 L k, Ch.c4 L k, Ch.c5 L k, Ch.c6 L k, Ch.c7 L k, Ch.c8 L k)] else my (x0, x1, x2, x3, x4, x5) L x k) := rfl
          generalize my (x0, x1, x2, x3, x4, x5) L x k = D at *
          generalize Ch.c0 L k = y0 at *
          generalize Ch.c1 L k = y1 at *
          generalize Ch.c2 L k = y2 at *
          generalize Ch.c3 L k = y3 at *
          generalize Ch.c4 L k = y4 at *
          generalize Ch.c5 L k = y5 at *
          generalize Ch.c6 L k = y6 at *
          generalize Ch.c7 L k = y7 at *
          generalize Ch.c8 L k = y8 at *
          have C2 : Hid (∀ w, Calls Try.prog 44 #[Sk.sk x0 x1 x2 x3 x4 x5, Sk.sk y3 y4 y5 y6 y7 y8] w fun e w' => e = .returned (Sk.sv (Sk.laid (x0, x1, x2, x3, x4, x5) (y3, y4, y5, y6, y7, y8))) ∧ Below w.heap.size w w') := fun w => Sk.slaid_any x0 x1 x2 x3 x4 x5 y3 y4 y5 y6 y7 y8 w
          obtain ⟨z0, z1, z2, z3, z4, z5, hz⟩ : ∃ z0 z1 z2 z3 z4 z5, Sk.laid (x0, x1, x2, x3, x4, x5) (y3, y4, y5, y6, y7, y8) = (z0, z1, z2, z3, z4, z5) := ⟨_, _, _, _, _, _, rfl⟩
          rw [hz] at C2 HY1
          have C3 : Hid (∀ w, Calls Try.prog 44 #[Sk.sk x0 x1 x2 x3 x4 x5, Sk.sk y3 y4 y5 y6 y7 y8] w fun e w' => e = .returned (Sk.sk z0 z1 z2 z3 z4 z5) ∧ Below w.heap.size w w') := C2
          clear hz C2
          obtain ⟨wy, hwy⟩ : ∃ wy, wy = wr.alloc (.cells #[.int .i64 y0, .int .i64 y1, .int .i64 y2, .int .i64 y3, .int .i64 y4, .int .i64 y5, .string y6, .string y7, .int .i64 y8] 60) := ⟨_, rfl⟩
          have HY : Hid (wy = wr.alloc (.cells #[.int .i64 y0, .int .i64 y1, .int .i64 y2, .int .i64 y3, .int .i64 y4, .int .i64 y5, .string y6, .string y7, .int .i64 y8] 60)) := hwy
          have KY : Hid (Ch.CB wy wr.heap.size y0 y1 y2 y3 y4 y5 y6 y7 y8) := (by show Ch.CB _ _ _ _ _ _ _ _ _ _ _; rw [hwy]; exact Ch.CB.new wr y0 y1 y2 y3 y4 y5 y6 y7 y8)
          have QY : Hid (Below wr.heap.size wr wy) := (by show Below _ _ _; rw [hwy]; exact (Below.refl _ _).alloc (Nat.le_refl _) _)
          clear hwy
          have TY : Hid (Tf.TB wy w.heap.size C I f t d p v W O b (.slice (some ⟨bb, o, none⟩) n sc)) := T0.out.on QY.out T0.out.lt
          have UY : Hid (Sk.SB wy (w.heap.size + 1) 0 0 0 Sk.E Sk.E 0) := S0.out.on QY.out S0.out.lt
          have RY : Hid (Sy.Row wy (w.heap.size + 2) sv D ∧ sv.ownBlock ≠ some r8) := ⟨R0.out.1.on QY.out, R0.out.2⟩
          have SY : Hid (Sk.SB wy r8 x0 x1 x2 x3 x4 x5) := S1'.out.on QY.out S1'.out.lt
          have BY : Hid (Below w.heap.size w wy) := BB.out.trans (QY.out.mono BB.out.size)
          go_upto_region 17 with fail
          rw [← HY.out]
          clear q0 q1 q2 q3 q4 q5 q6 q7 q8 HY c0 c1 c2 c3 c4 c5 c6 c7 c8 c9 c10 T0 S0 R0 S1' QY
          obtain ⟨g0, g1, g2, g3, g4, g5, g6, g7, g8, _⟩ := KY.out.cells
          cases h1 : (y0 == 1)
          rotate_left 1
          · have e2 := eq_of_beq h1
            subst e2
            clear h1
            go_wp2_with fail
            go_roundw
            case rel => exact ⟨k + 1, _, by omega, by go_num, rfl, TY, UY, by rw [HY1.out]; exact RY, SY, BY⟩
            case measure => simp [intOf]; omega
          have h1' : (y0 != 1) = true := by unfold bne; rw [h1]; rfl
          rw [h1'] at HY1
          by_cases hz1 : y1 ≤ x
          rotate_left 1
          · go_wp2_with fail
            go_roundw
            case rel => exact ⟨k + 1, _, by omega, by go_num, rfl, TY, UY, by rw [HY1.out, decide_eq_false (show ¬ y1 ≤ x by omega)]; exact RY, SY, BY⟩
            case measure => simp [intOf]; omega
          by_cases hz2' : x < y2
          rotate_left 1
          · go_wp2_with fail
            go_roundw
            case rel => exact ⟨k + 1, _, by omega, by go_num, rfl, TY, UY, by rw [HY1.out, decide_eq_true hz1, decide_eq_false (show ¬ x < y2 by omega)]; exact RY, SY, BY⟩
            case measure => simp [intOf]; omega
          rw [decide_eq_true hz1, decide_eq_true hz2'] at HY1
          obtain ⟨a0, a1, a2, a3, a4, a5, _⟩ := SY.out.cells
          go_wp2_with fail
          refine (C3.out _).mono ?_
          rintro e w3 ⟨rfl, hb⟩
          have T3 : Hid (Tf.TB w3 w.heap.size C I f t d p v W O b (.slice (some ⟨bb, o, none⟩) n sc)) := TY.out.on hb TY.out.lt
          have U3 : Hid (Sk.SB w3 (w.heap.size + 1) 0 0 0 Sk.E Sk.E 0) := UY.out.on hb UY.out.lt
          have S3 : Hid (Sk.SB w3 r8 x0 x1 x2 x3 x4 x5) := SY.out.on hb SY.out.lt
          have B3 : Hid (Below w.heap.size w w3) := BY.out.trans (hb.mono BY.out.size)
          obtain ⟨xs, O, G⟩ := RY.out.1.on hb
          have NB : Hid (sv.ownBlock ≠ some r8) := RY.out.2
          have O' : Hid (w3.ownsRow (w.heap.size + 2) 32 6 sv D.length xs) := O
          have G' : Hid (Sy.Good xs D D.length) := G
          clear g0 g1 g2 g3 g4 g5 g6 g7 g8 a0 a1 a2 a3 a4 a5 hb O G RY
          have hm := HM.out
          have h10 := H10.out
          obtain ⟨m, hmm⟩ : ∃ m, m = D.length := ⟨_, rfl⟩
          rw [← hmm] at hm O'
          have HMM : Hid (m = D.length) := hmm
          have hsz : w.heap.size + 2 ≤ w3.heap.size := by have := S3.out.lt; have := H8.out; omega
          clear hmm hz1 hz2' h1 h1'
          go_wp2_with (at_builtin; refine wpList_append_own_at _ rfl _ _ 39 rfl (w.heap.size + 2) 32 i0 (.agg #[.int .i64 0, .int .i64 0, .int .i64 0, .string ⟨#[]⟩, .string ⟨#[]⟩, .int .i64 0]) 6 64 Try.underlying39 hi hz0 hz1 hz2 rfl (by decide) _ _ _ rfl (O'.out.alloc _) ⟨w3.heap.size, 0, none⟩ 1 1 [.int .i64 z0, .int .i64 z1, .int .i64 z2, .string z3, .string z4, .int .i64 z5] rfl rfl (Sy.cell_news w3 _ _ _ _ _ _ 32) (one_six _ _ _ _ _ _) (by unfold maxLen; omega) (by omega) (by simp; omega) ?_)
          intro v' w4 hown hgrow _ hat
          have NB2 : Hid (∀ r, r ≤ w.heap.size + 1 ∨ r = r8 → sv.ownBlock ≠ some r) := fun r hr e => by
            rcases hr with hr | hr
            · have := (O'.out.lt r e).1; omega
            · subst hr; exact NB.out e
          have R4 : Hid (Sy.Row w4 (w.heap.size + 2) v' (my (x0, x1, x2, x3, x4, x5) L x (k + 1)) ∧ v'.ownBlock ≠ some r8) := (by
            refine ⟨?_, ?_⟩
            · rw [HY1.out]
              exact ⟨_, by simpa [HMM.out] using hown, Sy.good_snoc G'.out (by rw [← HMM.out]; exact O'.out.1)⟩
            · rcases hat with h | h
              · rw [h]; exact NB.out
              · rw [h]
                have := S3.out.lt
                intro e
                simp at e
                omega)
          have A3 : Hid (Below w3.heap.size w3 (w3.alloc (.cells #[.int .i64 z0, .int .i64 z1, .int .i64 z2, .string z3, .string z4, .int .i64 z5] 32))) := (Below.refl _ _).alloc (Nat.le_refl _) _
          have T4 : Hid (Tf.TB w4 w.heap.size C I f t d p v W O b (.slice (some ⟨bb, o, none⟩) n sc)) := TB.grown (T3.out.on A3.out T3.out.lt) hgrow (NB2.out _ (by omega))
          have U4 : Hid (Sk.SB w4 (w.heap.size + 1) 0 0 0 Sk.E Sk.E 0) := SB.grown (U3.out.on A3.out U3.out.lt) hgrow (NB2.out _ (by omega))
          have S4 : Hid (Sk.SB w4 r8 x0 x1 x2 x3 x4 x5) := SB.grown (S3.out.on A3.out S3.out.lt) hgrow (NB2.out _ (by omega))
          have B4 : Hid (Below w.heap.size w w4) := (B3.out.alloc B3.out.size _).grown hgrow (by simp; have := B3.out.size; omega) (fun b hb => (by have := (O'.out.lt b hb).1; omega))
          clear hown hgrow O' G' hat
          go_wp2_with fail
          go_roundw
          case rel => exact ⟨k + 1, _, by omega, by go_num, rfl, T4, U4, R4, S4, B4⟩
          case measure => simp [intOf]; omega
        · have ek : k = n := by omega
          subst ek
          obtain ⟨a0, a1, a2, a3, a4, a5, _⟩ := S1'.out.cells
          obtain ⟨d0, d1, d2, d3, d4, d5, fr⟩ := S0.out.cells
          have f0 := fr 0
          have f1 := fr 1
          have f2 := fr 2
          have f3 := fr 3
          have f4 := fr 4
          have f5 := fr 5
          clear fr
          go_wp2_with fail
          exact bodyPost_ret (results_cell3 Try.results12 _ _ (w.heap.size + 1) 32 _ (0, 0) _ rfl (S0.out.all x0 x1 x2 x3 x4 x5) Try.underlying32 rfl Sk.size26) rfl ⟨sv, by rw [HXN.out]; rfl, by rw [HXN.out]; exact (row_far6 R0.out.1 (by omega) _ _ _ _ _ _).reads, fun _ g hg => (by have := (R0.out.1.lt g hg).1; omega), Sk.below_all BB.out (by omega) _ _ _ _ _ _⟩
end Go.Proofs.Ytmbhlmpdkkjedaa.To
