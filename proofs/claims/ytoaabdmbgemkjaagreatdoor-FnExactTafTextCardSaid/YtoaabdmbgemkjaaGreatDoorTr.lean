/- Lists of changes: which are right; forecasts that are right, in the program. -/
import Derived.Test.YtoaabdmbgemkjaaGreatDoorTq
import Derived.Test.YtoaabdmbgemkjaaGreatDoorTg
import Derived.Test.YtoaabdmbgemkjaaGreatDoorHead
namespace Go.Proofs.YtoaabdmbgemkjaaGreatDoor.To
open Go.ChangeShapes Go.WideShapes Go.ChangeAt Go.RowKit
open Go.Proofs.YtoaabdmbgemkjaaGreatDoor.Al

/-- the change number j of a list -/
def cj (f t : Int) (L : Ch.Ls) (j : Nat) : Bool := cok f t (Ch.c0 L j) (Ch.c1 L j) (Ch.c2 L j) (Ch.c3 L j) (Ch.c4 L j) (Ch.c5 L j) (Ch.c6 L j) (Ch.c7 L j) (Ch.c8 L j)
def la (f : Int) (L : Ch.Ls) : Nat → Int
  | 0 => f
  | j + 1 => Ch.c1 L j
def St (f : Int) (L : Ch.Ls) : Nat → Int
  | 0 => f
  | j + 1 => if lst (Ch.c0 L j) = true then stl (Ch.c0 L j) (Ch.c1 L j) (Ch.c2 L j) else St f L j
def okk (f t : Int) (L : Ch.Ls) (j : Nat) : Bool := cj f t L j && (decide (la f L j ≤ Ch.c1 L j) && (!lst (Ch.c0 L j) || decide (St f L j ≤ Ch.c1 L j)))
def oks (f t : Int) (L : Ch.Ls) : Bool := (List.range L.length).all (okk f t L)
theorem oks_no {f t : Int} {L : Ch.Ls} {k : Nat} (hk : k < L.length) (h : okk f t L k = false) : oks f t L = false := by
  cases e : oks f t L
  · rfl
  · unfold oks at e
    rw [List.all_eq_true] at e
    rw [e k (List.mem_range.2 hk)] at h
    exact absurd h (by decide)
theorem oks_yes {f t : Int} {L : Ch.Ls} (h : ∀ j, j < L.length → okk f t L j = true) : oks f t L = true := by
  unfold oks
  rw [List.all_eq_true]
  intro j hj
  exact h j (List.mem_range.1 hj)
theorem all_succ {p : Nat → Bool} {k : Nat} (h : ∀ j, j < k → p j = true) (hk : p k = true) : ∀ j, j < k + 1 → p j = true := by
  intro j hj
  rcases Nat.lt_succ_iff_lt_or_eq.1 hj with h1 | h1
  · exact h j h1
  · subst h1; exact hk

set_option maxRecDepth 20000 in
set_option maxHeartbeats 4000000 in
theorem ichanges_any (L : Ch.Ls) (u : Value) (f t : Int) (w : World) (hL : Ch.Reads w u L) :
    Calls Tryz.prog 44 #[u, sp f t] w fun e w' => e = .returned (.bool (decide (L.length ≤ 10) && oks f t L)) ∧ Below w.heap.size w w' := by
  have hfit := hL.fits
  have hcell : ∃ b o, (∀ w', Below w.heap.size w w' → ∀ i, i < L.length → Ch.Cs w' b o L i) ∧ (0 < L.length → b < w.heap.size ∧ ∃ cap, u = .slice (some ⟨b, o, none⟩) L.length cap) := by
    rcases hL with ⟨rfl, _⟩ | ⟨b, o, cap, h1, h2, h3, h4, h5⟩
    · exact ⟨0, 0, fun _ _ i hi => by simp at hi, fun hi => by simp at hi⟩
    · exact ⟨b, o, fun w' hb i hi => (h5 i hi).below hb h4, fun _ => ⟨h4, cap, h1⟩⟩
  obtain ⟨b, o, hc, hvv⟩ := hcell
  obtain ⟨a, cap, hu⟩ := hL.form
  subst hu
  have HC : Hid (∀ w', Below w.heap.size w w' → ∀ i, i < L.length → Ch.Cs w' b o L i) := hc
  have HB : Hid (0 < L.length → b < w.heap.size ∧ a = some ⟨b, o, none⟩) := fun hi => by
    obtain ⟨h1, c, h2⟩ := hvv hi
    simp at h2
    exact ⟨h1, h2.1⟩
  obtain ⟨q, hq⟩ : ∃ q, q = (decide (L.length ≤ 10) && oks f t L) := ⟨_, rfl⟩
  rw [← hq]
  have HQ : Hid (q = (decide (L.length ≤ 10) && oks f t L)) := hq
  obtain ⟨n, hn⟩ : ∃ n, n = L.length := ⟨_, rfl⟩
  rw [← hn] at hfit HC HB ⊢
  have HN : Hid (n = L.length) := hn
  clear hL hc hvv hn hq
  obtain ⟨wb, hwb⟩ : ∃ wb, wb = w.alloc (.cells #[.int .i64 f, .int .i64 t] 31) := ⟨_, rfl⟩
  have HW : Hid (wb = w.alloc (.cells #[.int .i64 f, .int .i64 t] 31)) := hwb
  have BW : Hid (Below w.heap.size w wb) := (by show Below _ _ _; rw [hwb]; exact (Below.refl _ _).alloc (Nat.le_refl _) _)
  have ZW : Hid (wb.heap.size = w.heap.size + 1) := (by show _ = _; rw [hwb]; simp)
  have KV : Hid (wb.cell? ⟨w.heap.size, 0, none⟩ = some (.int .i64 f) ∧ wb.cell? ⟨w.heap.size, 1, none⟩ = some (.int .i64 t)) := (by rw [hwb]; constructor <;> simp [go_sem])
  clear hwb
  have CW : Hid (∀ w', Below wb.heap.size wb w' → w'.cell? ⟨w.heap.size, 0, none⟩ = some (.int .i64 f) ∧ w'.cell? ⟨w.heap.size, 1, none⟩ = some (.int .i64 t) ∧ Below w.heap.size w w') := fun w' hb => ⟨(hb.cell (p := ⟨w.heap.size, 0, none⟩) (by show w.heap.size < _; rw [ZW.out]; omega)).trans KV.out.1, (hb.cell (p := ⟨w.heap.size, 1, none⟩) (by show w.heap.size < _; rw [ZW.out]; omega)).trans KV.out.2, BW.out.trans (hb.mono BW.out.size)⟩
  obtain ⟨v0, v1, _⟩ := CW.out wb (Below.refl _ _)
  by_cases h10 : n ≤ 10
  rotate_left 1
  · have e1 : (10 : Int) < (n : Int) := by omega
    go_enter Tryz.func44, Tryz.ntmps44
    go_wp2_with fail
    rw [← HW.out]
    go_ret
    exact ⟨by rw [HQ.out, ← HN.out, decide_eq_false h10]; rfl, BW.out⟩
  have HQ2 : Hid (q = oks f t L) := (by show _ = _; rw [HQ.out, ← HN.out, decide_eq_true h10]; rfl)
  have e1 : ¬ (10 : Int) < (n : Int) := by omega
  go_enter Tryz.func44, Tryz.ntmps44
  go_upto_region 3 with fail
  rw [← HW.out]
  go_quiet (fail)
  go_wp2_with fail
  clear v0 v1
  go_loopw [5, 6, 20] (fun q5 q6 i wr => ∃ k : Nat, k ≤ n ∧ i = .int .i64 k ∧ q5 = .int .i64 (la f L k) ∧ q6 = .int .i64 (St f L k) ∧ Hid (∀ j, j < k → okk f t L j = true) ∧ Hid (Below wb.heap.size wb wr)) (fun _ _ i _ => n - (intOf i).toNat)
  case atStart => exact ⟨0, Nat.zero_le _, rfl, rfl, rfl, fun j hj => absurd hj (Nat.not_lt_zero _), (by first | exact Below.refl _ _ | exact (Below.refl _ _).drew | exact below_drewN (Below.refl _ _) _)⟩
  case round =>
    obtain ⟨k, hk, rfl, rfl, rfl, HA, BB⟩ := hrel
    by_cases hlt : k < n
    · have hkl : k < L.length := by rw [← HN.out]; exact hlt
      obtain ⟨hb0, hx⟩ := HB.out (by omega)
      subst hx
      obtain ⟨v0, v1, bw⟩ := CW.out wr BB.out
      obtain ⟨q0, q1, q2, q3, q4, q5, q6, q7, q8⟩ := HC.out wr bw k hlt
      have i1 : (0 : Int) ≤ (k : Int) := by omega
      have i2 : (k : Int) < (n : Int) := by omega
      have HNO : Hid (okk f t L k = false → q = false) := fun h => by rw [HQ2.out]; exact oks_no hkl h
      have HK : Hid (okk f t L k = (cok f t (Ch.c0 L k) (Ch.c1 L k) (Ch.c2 L k) (Ch.c3 L k) (Ch.c4 L k) (Ch.c5 L k) (Ch.c6 L k) (Ch.c7 L k) (Ch.c8 L k) && (decide (la f L k ≤ Ch.c1 L k) && (!lst (Ch.c0 L k) || decide (St f L k ≤ Ch.c1 L k))))) := rfl
      have HL : Hid (la f L (k + 1) = Ch.c1 L k) := rfl
      have HS : Hid (St f L (k + 1) = if lst (Ch.c0 L k) = true then stl (Ch.c0 L k) (Ch.c1 L k) (Ch.c2 L k) else St f L k) := rfl
      generalize la f L k = lk at *
      generalize St f L k = sk at *
      generalize Ch.c0 L k = y0 at *
      generalize Ch.c1 L k = y1 at *
      generalize Ch.c2 L k = y2 at *
      generalize Ch.c3 L k = y3 at *
      generalize Ch.c4 L k = y4 at *
      generalize Ch.c5 L k = y5 at *
      generalize Ch.c6 L k = y6 at *
      generalize Ch.c7 L k = y7 at *
      generalize Ch.c8 L k = y8 at *
      have C1 : Hid (∀ w, Calls Tryz.prog 69 #[cv y0 y1 y2 y3 y4 y5 y6 y7 y8] w fun e w' => e = .returned (.tuple #[.int .i64 (stl y0 y1 y2), .bool (lst y0)]) ∧ Below w.heap.size w w') := fun w => settled_any y0 y1 y2 y3 y4 y5 y6 y7 y8 w
      have C2 : Hid (∀ w, Calls Tryz.prog 70 #[cv y0 y1 y2 y3 y4 y5 y6 y7 y8, sp f t] w fun e w' => e = .returned (.bool (cok f t y0 y1 y2 y3 y4 y5 y6 y7 y8)) ∧ Below w.heap.size w w') := fun w => ichange_any y0 y1 y2 y3 y4 y5 y6 y7 y8 f t w
      generalize cok f t y0 y1 y2 y3 y4 y5 y6 y7 y8 = b1 at *
      generalize lst y0 = b2 at *
      generalize stl y0 y1 y2 = z at *
      obtain ⟨wy, hwy⟩ : ∃ wy, wy = wr.alloc (.cells #[.int .i64 y0, .int .i64 y1, .int .i64 y2, .int .i64 y3, .int .i64 y4, .int .i64 y5, .string y6, .string y7, .int .i64 y8] 47) := ⟨_, rfl⟩
      have HY : Hid (wy = wr.alloc (.cells #[.int .i64 y0, .int .i64 y1, .int .i64 y2, .int .i64 y3, .int .i64 y4, .int .i64 y5, .string y6, .string y7, .int .i64 y8] 47)) := hwy
      have KY : Hid (Ch.CB wy wr.heap.size y0 y1 y2 y3 y4 y5 y6 y7 y8) := (by show Ch.CB _ _ _ _ _ _ _ _ _ _ _; rw [hwy]; exact Ch.CB.new wr y0 y1 y2 y3 y4 y5 y6 y7 y8)
      have BY : Hid (Below wb.heap.size wb wy) := (by show Below _ _ _; rw [hwy]; exact BB.out.alloc BB.out.size _)
      have ZY : Hid (wy.heap.size = wr.heap.size + 1) := (by show _ = _; rw [hwy]; simp)
      clear hwy
      obtain ⟨g0, g1, g2, g3, g4, g5, g6, g7, g8, _⟩ := KY.out.cells
      go_wp2_with fail
      rw [← HY.out]
      refine (C1.out _).mono ?_
      rintro e w1 ⟨rfl, hb⟩
      have K1 : Hid (Ch.CB w1 wr.heap.size y0 y1 y2 y3 y4 y5 y6 y7 y8) := KY.out.on hb (by rw [ZY.out]; omega)
      have B1 : Hid (Below wb.heap.size wb w1) := BY.out.trans (hb.mono BY.out.size)
      clear g0 g1 g2 g3 g4 g5 g6 g7 g8 q0 q1 q2 q3 q4 q5 q6 q7 q8 v0 v1 bw hb
      obtain ⟨v0, v1, _⟩ := CW.out w1 B1.out
      obtain ⟨g0, g1, g2, g3, g4, g5, g6, g7, g8, _⟩ := K1.out.cells
      go_wp2_with fail
      refine (C2.out _).mono ?_
      rintro e w2 ⟨rfl, hb⟩
      have K2 : Hid (Ch.CB w2 wr.heap.size y0 y1 y2 y3 y4 y5 y6 y7 y8) := K1.out.on hb K1.out.lt
      have B2 : Hid (Below wb.heap.size wb w2) := B1.out.trans (hb.mono B1.out.size)
      clear g0 g1 g2 g3 g4 g5 g6 g7 g8 v0 v1 hb
      obtain ⟨v0, v1, bw⟩ := CW.out w2 B2.out
      have BR : Hid (Below w.heap.size w w2) := bw
      obtain ⟨g0, g1, g2, g3, g4, g5, g6, g7, g8, _⟩ := K2.out.cells
      clear bw
      cases b1
      · go_wp2_with fail
        go_ret
        exact ⟨by rw [HNO.out (by rw [HK.out]; rfl)]; rfl, BR.out⟩
      by_cases hl : y1 < lk
      · go_wp2_with fail
        go_ret
        exact ⟨by rw [HNO.out (by rw [HK.out, decide_eq_false (show ¬ lk ≤ y1 by omega)]; rfl)]; rfl, BR.out⟩
      cases b2
      · go_wp2_with fail
        go_roundw
        case rel => exact ⟨k + 1, by omega, by go_num, by rw [HL.out], by rw [HS.out]; rfl, all_succ HA.out (by rw [HK.out, decide_eq_true (show lk ≤ y1 by omega)]; rfl), B2⟩
        case measure => simp [intOf]; omega
      by_cases hs : y1 < sk
      · go_wp2_with fail
        go_ret
        exact ⟨by rw [HNO.out (by rw [HK.out, decide_eq_true (show lk ≤ y1 by omega), decide_eq_false (show ¬ sk ≤ y1 by omega)]; rfl)]; rfl, BR.out⟩
      go_wp2_with fail
      go_roundw
      case rel => exact ⟨k + 1, by omega, by go_num, by rw [HL.out], by rw [HS.out]; rfl, all_succ HA.out (by rw [HK.out, decide_eq_true (show lk ≤ y1 by omega), decide_eq_true (show sk ≤ y1 by omega)]; rfl), B2⟩
      case measure => simp [intOf]; omega
    · have ek : k = n := by omega
      obtain ⟨_, _, bw⟩ := CW.out wr BB.out
      have BR : Hid (Below w.heap.size w wr) := bw
      clear bw
      go_wp2_with fail
      go_ret
      exact ⟨by rw [HQ2.out, oks_yes (fun j hj => HA.out j (by rw [ek, HN.out]; exact hj))]; rfl, BR.out⟩

/-- a forecast that is right -/
def tok (C : ByteArray) (I f t d p v : Int) (W O : ByteArray) (b : Int) (L : Ch.Ls) : Bool := Head.cen C && (tm I && (vok I f t && (ful d p v W O b && (decide (L.length ≤ 10) && oks f t L))))
set_option maxRecDepth 20000 in
set_option maxHeartbeats 4000000 in
theorem itaf_any (C : ByteArray) (I f t d p v : Int) (W O : ByteArray) (b : Int) (u : Value) (L : Ch.Ls) (w : World) (hL : Ch.Reads w u L) :
    Calls Tryz.prog 19 #[Tf.tv C I f t d p v W O b u] w fun e w' => e = .returned (.bool (tok C I f t d p v W O b L)) ∧ Below w.heap.size w w' := by
  have C1 : Hid (∀ w, Calls Tryz.prog 40 #[.string C] w fun e w' => e = .returned (.bool (Head.cen C)) ∧ Below w.heap.size w w') := fun w => (Head.icen_any C w).mono (fun _ _ h => ⟨h.1, by rw [h.2]; exact Below.refl _ _⟩)
  have C2 : Hid (∀ w, Calls Tryz.prog 41 #[.int .i64 I] w fun e w' => e = .returned (.bool (tm I)) ∧ w' = w) := fun w => itime_any I w
  have C3 : Hid (tm I = true → ∀ w, Calls Tryz.prog 42 #[sp f t, .int .i64 I] w fun e w' => e = .returned (.bool (vok I f t)) ∧ Below w.heap.size w w') := fun h w => ivalid_any I f t w h
  have C4 : Hid (∀ w, Calls Tryz.prog 43 #[Sk.sk d p v W O b] w fun e w' => e = .returned (.bool (ful d p v W O b)) ∧ Below w.heap.size w w') := fun w => ifull_any d p v W O b w
  have C5 : Hid (∀ w', Below w.heap.size w w' → Calls Tryz.prog 44 #[u, sp f t] w' fun e w'' => e = .returned (.bool (decide (L.length ≤ 10) && oks f t L)) ∧ Below w'.heap.size w' w'') := fun w' hb => ichanges_any L u f t w' (hL.on hb)
  obtain ⟨q, hq⟩ : ∃ q, q = tok C I f t d p v W O b L := ⟨_, rfl⟩
  rw [← hq]
  have HQ : Hid (q = (Head.cen C && (tm I && (vok I f t && (ful d p v W O b && (decide (L.length ≤ 10) && oks f t L)))))) := hq
  clear hq
  obtain ⟨sa, sc, hu⟩ := hL.form
  subst hu
  clear hL
  generalize Head.cen C = b1 at *
  generalize tm I = b2 at *
  generalize vok I f t = b3 at *
  generalize ful d p v W O b = b4 at *
  generalize (decide (L.length ≤ 10) && oks f t L) = b5 at *
  generalize L.length = n at *
  obtain ⟨wb, hwb⟩ : ∃ wb, wb = w.alloc (.cells #[.string C, .int .i64 I, .int .i64 f, .int .i64 t, .int .i64 d, .int .i64 p, .int .i64 v, .string W, .string O, .int .i64 b, (.slice sa n sc)] 35) := ⟨_, rfl⟩
  have HW : Hid (wb = w.alloc (.cells #[.string C, .int .i64 I, .int .i64 f, .int .i64 t, .int .i64 d, .int .i64 p, .int .i64 v, .string W, .string O, .int .i64 b, (.slice sa n sc)] 35)) := hwb
  have BW : Hid (Below w.heap.size w wb) := (by show Below _ _ _; rw [hwb]; exact (Below.refl _ _).alloc (Nat.le_refl _) _)
  have KT : Hid (Tf.TB wb w.heap.size C I f t d p v W O b (.slice sa n sc)) := (by show Tf.TB _ _ _ _ _ _ _ _ _ _ _ _ _; rw [hwb]; exact Tf.TB.new w C I f t d p v W O b (.slice sa n sc))
  clear hwb
  have CW : Hid (∀ w', Below wb.heap.size wb w' → Tf.TB w' w.heap.size C I f t d p v W O b (.slice sa n sc) ∧ Below w.heap.size w w') := fun w' hb => ⟨KT.out.on hb KT.out.lt, BW.out.trans (hb.mono BW.out.size)⟩
  obtain ⟨c0, c1, c2, c3, c4, c5, c6, c7, c8, c9, c10, _⟩ := KT.out.cells
  go_enter Tryz.func19, Tryz.ntmps19
  go_wp2_with fail
  rw [← HW.out]
  refine (C1.out _).mono ?_
  rintro e w1 ⟨rfl, hb⟩
  have Q1 : Hid (Below wb.heap.size wb w1) := hb
  clear c0 c1 c2 c3 c4 c5 c6 c7 c8 c9 c10 hb HW
  obtain ⟨m0, m1⟩ := CW.out w1 Q1.out
  have B1 : Hid (Below w.heap.size w w1) := m1
  obtain ⟨c0, c1, c2, c3, c4, c5, c6, c7, c8, c9, c10, _⟩ := m0.cells
  clear m0 m1
  cases b1
  · go_wp2_with fail
    go_ret
    exact ⟨by rw [HQ.out]; rfl, B1.out⟩
  go_wp2_with fail
  refine (C2.out _).mono ?_
  rintro e w1' ⟨rfl, hw⟩
  subst hw
  cases b2
  · go_wp2_with fail
    go_ret
    exact ⟨by rw [HQ.out]; rfl, B1.out⟩
  go_wp2_with fail
  refine (C3.out trivial _).mono ?_
  rintro e w2 ⟨rfl, hb⟩
  have Q2 : Hid (Below wb.heap.size wb w2) := Q1.out.trans (hb.mono Q1.out.size)
  clear c0 c1 c2 c3 c4 c5 c6 c7 c8 c9 c10 hb
  obtain ⟨m0, m1⟩ := CW.out w2 Q2.out
  have B2 : Hid (Below w.heap.size w w2) := m1
  obtain ⟨c0, c1, c2, c3, c4, c5, c6, c7, c8, c9, c10, _⟩ := m0.cells
  clear m0 m1
  cases b3
  · go_wp2_with fail
    go_ret
    exact ⟨by rw [HQ.out]; rfl, B2.out⟩
  go_wp2_with fail
  refine (C4.out _).mono ?_
  rintro e w3 ⟨rfl, hb⟩
  have Q3 : Hid (Below wb.heap.size wb w3) := Q2.out.trans (hb.mono Q2.out.size)
  clear c0 c1 c2 c3 c4 c5 c6 c7 c8 c9 c10 hb
  obtain ⟨m0, m1⟩ := CW.out w3 Q3.out
  have B3 : Hid (Below w.heap.size w w3) := m1
  obtain ⟨c0, c1, c2, c3, c4, c5, c6, c7, c8, c9, c10, _⟩ := m0.cells
  clear m0 m1
  cases b4
  · go_wp2_with fail
    go_ret
    exact ⟨by rw [HQ.out]; rfl, B3.out⟩
  go_wp2_with fail
  refine (C5.out _ B3.out).mono ?_
  rintro e w4 ⟨rfl, hb⟩
  have B4 : Hid (Below w.heap.size w w4) := B3.out.trans (hb.mono B3.out.size)
  clear c0 c1 c2 c3 c4 c5 c6 c7 c8 c9 c10 hb
  go_wp2_with fail
  go_ret
  exact ⟨by rw [HQ.out]; rfl, B4.out⟩
end Go.Proofs.YtoaabdmbgemkjaaGreatDoor.To
