/- Forecasts in the laws: compared, measured. -/
import Derived.Test.YtoaabdmbgemkjaaGreatDoorTf
namespace Go.Proofs.YtoaabdmbgemkjaaGreatDoor.Tf
open Go.ChangeShapes Go.WideShapes Go.ChangeAt Go.RowKit
open Go.Proofs.YtoaabdmbgemkjaaGreatDoor.Al

set_option maxRecDepth 20000 in
set_option maxHeartbeats 2000000 in
theorem eq_any (C : ByteArray) (I f t d p v : Int) (W O : ByteArray) (b : Int) (u1 u2 : Value) (L : Ch.Ls) (w : World) (h1 : Ch.Reads w u1 L) (h2 : Ch.Reads w u2 L) :
    Calls Tryz.prog 8 #[tv C I f t d p v W O b u1, tv C I f t d p v W O b u2] w fun e w' => e = .returned (.bool true) ∧ Below w.heap.size w w' := by
  have C1 : Hid (∀ w, Calls Tryz.prog 26 #[sp f t, sp f t] w fun e w' => e = .returned (.bool true) ∧ Below w.heap.size w w') := fun w => eqSpan_any f t w
  have C2 : Hid (∀ w, Calls Tryz.prog 27 #[Sk.sk d p v W O b, Sk.sk d p v W O b] w fun e w' => e = .returned (.bool true) ∧ Below w.heap.size w w') := fun w => Sk.eq_any d p v W O b w
  have C3 : Hid (∀ w', Below w.heap.size w w' → Calls Tryz.prog 28 #[u1, u2] w' fun e w'' => e = .returned (.bool true) ∧ Below w'.heap.size w' w'') := fun w' hb => Ch.eq_same w' u1 u2 L (h1.on hb) (h2.on hb)
  obtain ⟨a1, c1, hu⟩ := h1.form
  subst hu
  obtain ⟨a2, c2, hu⟩ := h2.form
  subst hu
  clear h1 h2
  have hii : ∀ b : Int, (b != b) = false := fun b => by simp
  generalize L.length = n at *
  obtain ⟨wb, hwb⟩ : ∃ wb, wb = (w.alloc (.cells #[.string C, .int .i64 I, .int .i64 f, .int .i64 t, .int .i64 d, .int .i64 p, .int .i64 v, .string W, .string O, .int .i64 b, .slice a1 n c1] 35)).alloc (.cells #[.string C, .int .i64 I, .int .i64 f, .int .i64 t, .int .i64 d, .int .i64 p, .int .i64 v, .string W, .string O, .int .i64 b, .slice a2 n c2] 35) := ⟨_, rfl⟩
  have HW : Hid (wb = (w.alloc (.cells #[.string C, .int .i64 I, .int .i64 f, .int .i64 t, .int .i64 d, .int .i64 p, .int .i64 v, .string W, .string O, .int .i64 b, .slice a1 n c1] 35)).alloc (.cells #[.string C, .int .i64 I, .int .i64 f, .int .i64 t, .int .i64 d, .int .i64 p, .int .i64 v, .string W, .string O, .int .i64 b, .slice a2 n c2] 35)) := hwb
  have BW : Hid (Below w.heap.size w wb) := (by show Below _ _ _; rw [hwb]; exact ((Below.refl _ _).alloc (Nat.le_refl _) _).alloc (by simp) _)
  have ZZ : Hid (wb.heap.size = w.heap.size + 2) := (by show _ = _; rw [hwb]; simp)
  have KA : Hid (TB wb w.heap.size C I f t d p v W O b (.slice a1 n c1)) := (by
    show TB _ _ _ _ _ _ _ _ _ _ _ _ _
    rw [hwb]
    exact (TB.new w C I f t d p v W O b (.slice a1 n c1)).on ((Below.refl _ _).alloc (Nat.le_refl _) _) (by simp))
  have KB : Hid (TB wb (w.heap.size + 1) C I f t d p v W O b (.slice a2 n c2)) := (by
    show TB _ _ _ _ _ _ _ _ _ _ _ _ _
    rw [hwb]
    have := TB.new (w.alloc (.cells #[.string C, .int .i64 I, .int .i64 f, .int .i64 t, .int .i64 d, .int .i64 p, .int .i64 v, .string W, .string O, .int .i64 b, .slice a1 n c1] 35)) C I f t d p v W O b (.slice a2 n c2)
    simpa using this)
  clear hwb
  obtain ⟨x0, x1, x2, x3, x4, x5, x6, x7, x8, x9, x10, _⟩ := KA.out.cells
  obtain ⟨y0, y1, y2, y3, y4, y5, y6, y7, y8, y9, y10, _⟩ := KB.out.cells
  go_enter Tryz.func8, Tryz.ntmps8
  go_wp2_with fail
  rw [← HW.out]
  refine (C1.out _).mono ?_
  rintro e w1 ⟨rfl, hb⟩
  have Q1 : Hid (Below wb.heap.size wb w1) := hb
  clear x0 x1 x2 x3 x4 x5 x6 x7 x8 x9 x10 y0 y1 y2 y3 y4 y5 y6 y7 y8 y9 y10
  obtain ⟨x0, x1, x2, x3, x4, x5, x6, x7, x8, x9, x10, _⟩ := (KA.out.on hb (by rw [ZZ.out]; omega)).cells
  obtain ⟨y0, y1, y2, y3, y4, y5, y6, y7, y8, y9, y10, _⟩ := (KB.out.on hb (by rw [ZZ.out]; omega)).cells
  clear hb HW
  go_wp2_with fail
  refine (C2.out _).mono ?_
  rintro e w2 ⟨rfl, hb⟩
  have Q2 : Hid (Below wb.heap.size wb w2) := Q1.out.trans (hb.mono Q1.out.size)
  clear x0 x1 x2 x3 x4 x5 x6 x7 x8 x9 x10 y0 y1 y2 y3 y4 y5 y6 y7 y8 y9 y10 hb
  obtain ⟨x0, x1, x2, x3, x4, x5, x6, x7, x8, x9, x10, _⟩ := (KA.out.on Q2.out (by rw [ZZ.out]; omega)).cells
  obtain ⟨y0, y1, y2, y3, y4, y5, y6, y7, y8, y9, y10, _⟩ := (KB.out.on Q2.out (by rw [ZZ.out]; omega)).cells
  go_wp2_with fail
  refine (C3.out _ (BW.out.trans (Q2.out.mono BW.out.size))).mono ?_
  rintro e w3 ⟨rfl, hb⟩
  have B3 : Hid (Below w.heap.size w w3) := BW.out.trans ((Q2.out.trans (hb.mono Q2.out.size)).mono BW.out.size)
  clear hb
  go_wp2_with fail
  go_ret
  exact ⟨rfl, B3.out⟩

/-- the texts of a list of changes are no greater than texts can be -/
def FitC (L : Ch.Ls) : Prop := ∀ i, i < L.length → (Ch.c6 L i).size < 9223372036854775808 ∧ (Ch.c7 L i).size < 9223372036854775808
set_option maxHeartbeats 1000000 in
theorem sz1_any (x0 x1 x2 x3 x4 x5 : Int) (x6 x7 : ByteArray) (x8 l : Int) (w : World) (h0 : 0 ≤ l) (h1 : l ≤ 1048576) (hW : x6.size < 9223372036854775808) (hC : x7.size < 9223372036854775808) :
    Calls Tryz.prog 29 #[.agg #[.int .i64 x0, .int .i64 x1, .int .i64 x2, .int .i64 x3, .int .i64 x4, .int .i64 x5, .string x6, .string x7, .int .i64 x8], .int .i64 l] w fun e w' => (∃ r : Int, e = .returned (.int .i64 r) ∧ -1 ≤ r ∧ r ≤ 1048576) ∧ Below w.heap.size w w' := by
  have S1 : Hid (∀ (w : World), Calls Tryz.prog 9 #[Sk.sk x3 x4 x5 x6 x7 x8, .int .i64 l] w fun e w' => (∃ r : Int, e = .returned (.int .i64 r) ∧ (0 ≤ r → x6.size ≤ 1048576 ∧ x7.size ≤ 1048576) ∧ r ≤ 1048576) ∧ Below w.heap.size w w') := fun w => Sk.sz_any x3 x4 x5 x6 x7 x8 _ w h0 h1 hW hC
  have B0 : Hid (Below w.heap.size w (w.alloc (.cells #[.int .i64 x0, .int .i64 x1, .int .i64 x2, .int .i64 x3, .int .i64 x4, .int .i64 x5, .string x6, .string x7, .int .i64 x8] 61))) := (Below.refl _ _).alloc (Nat.le_refl _) _
  go_enter Tryz.func29, Tryz.ntmps29
  go_wp2_with fail
  refine (S1.out _).mono ?_
  rintro e w1 ⟨⟨r, rfl, _, hr⟩, hb⟩
  have B1 : Hid (Below w.heap.size w w1) := B0.out.trans (hb.mono B0.out.size)
  clear hb
  by_cases hn : r < 0
  · go_wp2_with fail
    go_ret
    exact ⟨⟨-1, rfl, by omega, by omega⟩, B1.out⟩
  · go_wp2_with fail
    go_ret
    exact ⟨⟨r, rfl, by omega, hr⟩, B1.out⟩
set_option maxHeartbeats 1000000 in
theorem szS_any (L : Ch.Ls) (u : Value) (l : Int) (w : World) (hL : Ch.Reads w u L) (hF : FitC L) (h0 : 0 ≤ l) (h1 : l ≤ 1048576) :
    Calls Tryz.prog 10 #[u, .int .i64 l] w fun e w' => (∃ r : Int, e = .returned (.int .i64 r) ∧ (0 ≤ r → L.length ≤ 1048576) ∧ r ≤ 1048576) ∧ Below w.heap.size w w' := by
  have hfit := hL.fits
  by_cases hz : (L.length : Int) ≤ l
  · have hcell : ∃ b o, (∀ w', Below w.heap.size w w' → ∀ i, i < L.length → Ch.Cs w' b o L i) ∧ (0 < L.length → b < w.heap.size ∧ ∃ cap, u = .slice (some ⟨b, o, none⟩) L.length cap) := by
      rcases hL with ⟨rfl, _⟩ | ⟨b, o, cap, h1, h2, h3, h4, h5⟩
      · exact ⟨0, 0, fun _ _ i hi => by simp at hi, fun hi => by simp at hi⟩
      · exact ⟨b, o, fun w' hb i hi => (h5 i hi).below hb h4, fun _ => ⟨h4, cap, h1⟩⟩
    obtain ⟨b, o, hc, hvv⟩ := hcell
    obtain ⟨a, cap, hu⟩ := hL.form
    subst hu
    have HC : Hid (∀ w', Below w.heap.size w w' → ∀ i, i < L.length → Ch.Cs w' b o L i) := hc
    have HB : Hid (0 < L.length → b < w.heap.size ∧ a = some ⟨b, o, none⟩) := fun hi => by
      obtain ⟨h1, c, h2⟩ := hvv hi
      simp at h2
      exact ⟨h1, h2.1⟩
    have HF : Hid (FitC L) := hF
    have j1 : IntKind.i64.wrap (l - (L.length : Int)) = l - (L.length : Int) := IntWalk.i64_in _ (by omega)
    have j2 : ¬ l - (L.length : Int) < 0 := by omega
    have hl2 : L.length ≤ 1048576 := by omega
    obtain ⟨n, hn⟩ : ∃ n, n = L.length := ⟨_, rfl⟩
    rw [← hn] at hz hfit HC HB j1 j2 hl2 ⊢
    have HN : Hid (n = L.length) := hn
    clear hL hc hvv hF hn
    go_enter Tryz.func10, Tryz.ntmps10
    go_wp2_with fail
    go_loopw [1, 5] (fun q i wr => ∃ (k : Nat) (r : Int), k ≤ n ∧ i = .int .i64 k ∧ q = .int .i64 r ∧ (0 ≤ r ∧ r ≤ 1048576) ∧ Hid (Below w.heap.size w wr)) (fun _ i _ => n - (intOf i).toNat)
    case atStart => exact ⟨0, l - n, Nat.zero_le _, rfl, rfl, ⟨by omega, by omega⟩, Below.refl _ _⟩
    case round =>
      obtain ⟨k, r, hk, rfl, rfl, ⟨r0, r1⟩, BB⟩ := hrel
      by_cases hlt : k < n
      · have hkl : k < L.length := by rw [← HN.out]; exact hlt
        obtain ⟨hb0, hx⟩ := HB.out (by omega)
        subst hx
        obtain ⟨q0, q1, q2, q3, q4, q5, q6, q7, q8⟩ := HC.out wr BB.out k hlt
        obtain ⟨f6, f7⟩ := HF.out k hkl
        have i1 : (0 : Int) ≤ (k : Int) := by omega
        have i2 : (k : Int) < (n : Int) := by omega
        have S1 : Hid (Calls Tryz.prog 29 #[.agg #[.int .i64 (Ch.c0 L k), .int .i64 (Ch.c1 L k), .int .i64 (Ch.c2 L k), .int .i64 (Ch.c3 L k), .int .i64 (Ch.c4 L k), .int .i64 (Ch.c5 L k), .string (Ch.c6 L k), .string (Ch.c7 L k), .int .i64 (Ch.c8 L k)], .int .i64 r] wr fun e w' => (∃ r : Int, e = .returned (.int .i64 r) ∧ -1 ≤ r ∧ r ≤ 1048576) ∧ Below wr.heap.size wr w') := sz1_any _ _ _ _ _ _ _ _ _ r wr r0 r1 f6 f7
        generalize Ch.c0 L k = y0 at *
        generalize Ch.c1 L k = y1 at *
        generalize Ch.c2 L k = y2 at *
        generalize Ch.c3 L k = y3 at *
        generalize Ch.c4 L k = y4 at *
        generalize Ch.c5 L k = y5 at *
        generalize Ch.c6 L k = y6 at *
        generalize Ch.c7 L k = y7 at *
        generalize Ch.c8 L k = y8 at *
        go_wp2_with fail
        refine S1.out.mono ?_
        rintro e w1 ⟨⟨r', rfl, g1, g2⟩, hb⟩
        have B1 : Hid (Below w.heap.size w w1) := BB.out.trans (hb.mono BB.out.size)
        clear hb q0 q1 q2 q3 q4 q5 q6 q7 q8 S1
        by_cases hn : r' < 0
        · go_wp2_with fail
          go_ret
          exact ⟨⟨-1, rfl, fun h => by omega, by omega⟩, B1.out⟩
        · go_wp2_with fail
          go_roundw
          case rel => exact ⟨k + 1, r', by omega, by go_num, rfl, ⟨by omega, g2⟩, B1⟩
          case measure => simp [intOf]; omega
      · go_wp2_with fail
        go_ret
        exact ⟨⟨r, rfl, fun _ => hl2, r1⟩, BB.out⟩
  · obtain ⟨a, cap, hu⟩ := hL.form
    subst hu
    have j1 : IntKind.i64.wrap (l - (L.length : Int)) = l - (L.length : Int) := IntWalk.i64_in _ (by omega)
    have j2 : l - (L.length : Int) < 0 := by omega
    clear hL hF
    generalize L.length = n at *
    go_enter Tryz.func10, Tryz.ntmps10
    go_wp2_with fail
    go_ret
    exact ⟨⟨-1, rfl, fun h => by omega, by omega⟩, Below.refl _ _⟩
set_option maxRecDepth 20000 in
set_option maxHeartbeats 2000000 in
theorem sz_any (C : ByteArray) (I f t d p v : Int) (W O : ByteArray) (b : Int) (u : Value) (L : Ch.Ls) (w : World) (hL : Ch.Reads w u L) (hF : FitC L) (hC : C.size < 9223372036854775808) (hW : W.size < 9223372036854775808) (hO : O.size < 9223372036854775808) :
    Calls Tryz.prog 4 #[tv C I f t d p v W O b u, .int .i64 1048576] w fun e w' => (∃ r : Int, e = .returned (.int .i64 r) ∧ (0 ≤ r → L.length ≤ 1048576) ∧ r ≤ 1048576) ∧ Below w.heap.size w w' := by
  have S1 : Hid (∀ (w : World) (l : Int), 0 ≤ l → l ≤ 1048576 → Calls Tryz.prog 9 #[Sk.sk d p v W O b, .int .i64 l] w fun e w' => (∃ r : Int, e = .returned (.int .i64 r) ∧ (0 ≤ r → W.size ≤ 1048576 ∧ O.size ≤ 1048576) ∧ r ≤ 1048576) ∧ Below w.heap.size w w') := fun w l h0 h1 => Sk.sz_any d p v W O b _ w h0 h1 hW hO
  have S2 : Hid (∀ (w' : World) (l : Int), Below w.heap.size w w' → 0 ≤ l → l ≤ 1048576 → Calls Tryz.prog 10 #[u, .int .i64 l] w' fun e w'' => (∃ r : Int, e = .returned (.int .i64 r) ∧ (0 ≤ r → L.length ≤ 1048576) ∧ r ≤ 1048576) ∧ Below w'.heap.size w' w'') := fun w' l hb h0 h1 => szS_any L u l w' (hL.on hb) hF h0 h1
  obtain ⟨a1, c1, hu⟩ := hL.form
  subst hu
  clear hL hF hW hO
  have HLL : Hid (∀ r : Int, (0 ≤ r → L.length ≤ 1048576) → (0 ≤ r → L.length ≤ 1048576)) := fun r h => h
  obtain ⟨wb, hwb⟩ : ∃ wb, wb = w.alloc (.cells #[.string C, .int .i64 I, .int .i64 f, .int .i64 t, .int .i64 d, .int .i64 p, .int .i64 v, .string W, .string O, .int .i64 b, .slice a1 L.length c1] 28) := ⟨_, rfl⟩
  have HW : Hid (wb = w.alloc (.cells #[.string C, .int .i64 I, .int .i64 f, .int .i64 t, .int .i64 d, .int .i64 p, .int .i64 v, .string W, .string O, .int .i64 b, .slice a1 L.length c1] 28)) := hwb
  have BW : Hid (Below w.heap.size w wb) := (by show Below _ _ _; rw [hwb]; exact (Below.refl _ _).alloc (Nat.le_refl _) _)
  have ZZ : Hid (wb.heap.size = w.heap.size + 1) := (by show _ = _; rw [hwb]; simp)
  have KA : Hid (AB wb w.heap.size C I f t d p v W O b (.slice a1 L.length c1)) := (by show AB _ _ _ _ _ _ _ _ _ _ _ _ _; rw [hwb]; exact AB.new w C I f t d p v W O b (.slice a1 L.length c1))
  clear hwb
  obtain ⟨x0, x1, x2, x3, x4, x5, x6, x7, x8, x9, x10, _⟩ := KA.out.cells
  have j1 : IntKind.i64.wrap (1048576 - (C.size : Int)) = 1048576 - (C.size : Int) := IntWalk.i64_in _ (by omega)
  by_cases h1 : (1048576 : Int) - (C.size : Int) < 0
  · go_enter Tryz.func4, Tryz.ntmps4
    go_wp2_with fail
    rw [← HW.out]
    go_ret
    exact ⟨⟨-1, rfl, fun h => by omega, by omega⟩, BW.out⟩
  go_enter Tryz.func4, Tryz.ntmps4
  go_wp2_with fail
  rw [← HW.out]
  refine (S1.out _ (1048576 - (C.size : Int)) (by omega) (by omega)).mono ?_
  rintro e w1 ⟨⟨r, rfl, _, hr⟩, hb⟩
  have Q1 : Hid (Below wb.heap.size wb w1) := hb
  have B1 : Hid (Below w.heap.size w w1) := BW.out.trans (hb.mono BW.out.size)
  clear x0 x1 x2 x3 x4 x5 x6 x7 x8 x9 x10 HW hb
  obtain ⟨x0, x1, x2, x3, x4, x5, x6, x7, x8, x9, x10, _⟩ := (KA.out.on Q1.out (by rw [ZZ.out]; omega)).cells
  by_cases hn : r < 0
  · go_wp2_with fail
    go_ret
    exact ⟨⟨-1, rfl, fun h => by omega, by omega⟩, B1.out⟩
  go_wp2_with fail
  refine (S2.out _ r B1.out (by omega) hr).mono ?_
  rintro e w2 ⟨⟨r2, rfl, hq, hr2⟩, hb⟩
  have B2 : Hid (Below w.heap.size w w2) := B1.out.trans (hb.mono B1.out.size)
  have HQ : Hid (0 ≤ r2 → L.length ≤ 1048576) := hq
  clear hb hq
  by_cases hn2 : r2 < 0
  · go_wp2_with fail
    go_ret
    exact ⟨⟨-1, rfl, fun h => by omega, by omega⟩, B2.out⟩
  go_wp2_with fail
  go_ret
  exact ⟨⟨r2, rfl, HQ.out, hr2⟩, B2.out⟩
end Go.Proofs.YtoaabdmbgemkjaaGreatDoor.Tf
