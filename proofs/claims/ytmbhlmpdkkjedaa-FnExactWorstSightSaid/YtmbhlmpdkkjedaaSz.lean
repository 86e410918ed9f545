/- What holds at a time, and what may be there: the program. -/
import Derived.Test.YtmbhlmpdkkjedaaTs
import Derived.Test.YtmbhlmpdkkjedaaSy
import Derived.Laws.OwnMore
namespace Go.Proofs.Ytmbhlmpdkkjedaa.To
open Go.ChangeShapes Go.WideShapes Go.ChangeAt Go.RowKit
open Go.Proofs.Ytmbhlmpdkkjedaa.Al

/-- the sky of a change -/
def csk (L : Ch.Ls) (k : Nat) : Sk.Sky := (Ch.c3 L k, Ch.c4 L k, Ch.c5 L k, Ch.c6 L k, Ch.c7 L k, Ch.c8 L k)
/-- what holds at a time, behind k changes -/
def hs (s : Sk.Sky) (L : Ch.Ls) (x : Int) : Nat → Sk.Sky
  | 0 => s
  | k + 1 => if (lst (Ch.c0 L k) && decide (stl (Ch.c0 L k) (Ch.c1 L k) (Ch.c2 L k) ≤ x)) = true then Sk.laid (hs s L x k) (csk L k) else hs s L x k
def mb (L : Ch.Ls) (x : Int) (k : Nat) : Bool := (Ch.c0 L k != 1) && (decide (Ch.c1 L k ≤ x) && decide (x < Ch.c2 L k))
def my (s : Sk.Sky) (L : Ch.Ls) (x : Int) : Nat → Sy.Ls
  | 0 => []
  | k + 1 => if mb L x k = true then my s L x k ++ [Sk.laid s (csk L k)] else my s L x k
theorem my_len (s : Sk.Sky) (L : Ch.Ls) (x : Int) : ∀ k, (my s L x k).length ≤ k
  | 0 => Nat.le_refl _
  | k + 1 => by
    have := my_len s L x k
    show (if mb L x k = true then my s L x k ++ [Sk.laid s (csk L k)] else my s L x k).length ≤ k + 1
    split
    · simp; omega
    · omega
theorem TB.keep6 {w : World} {r : Nat} {x0 : ByteArray} {x1 x2 x3 x4 x5 x6 : Int} {x7 x8 : ByteArray} {x9 : Int} {x10 : Value} (h : Tf.TB w r x0 x1 x2 x3 x4 x5 x6 x7 x8 x9 x10) {r' : Nat} (hne : r ≠ r') (v0 v1 v2 v3 v4 v5 : Value) : Tf.TB ((((((w.setCell ⟨r', 0, none⟩ v0).setCell ⟨r', 1, none⟩ v1).setCell ⟨r', 2, none⟩ v2).setCell ⟨r', 3, none⟩ v3).setCell ⟨r', 4, none⟩ v4).setCell ⟨r', 5, none⟩ v5) r x0 x1 x2 x3 x4 x5 x6 x7 x8 x9 x10 := (((((h.keep hne _ _).keep hne _ _).keep hne _ _).keep hne _ _).keep hne _ _).keep hne _ _
theorem SB.keep6 {w : World} {r : Nat} {d p v : Int} {W C : ByteArray} {b : Int} (h : Sk.SB w r d p v W C b) {r' : Nat} (hne : r ≠ r') (v0 v1 v2 v3 v4 v5 : Value) : Sk.SB ((((((w.setCell ⟨r', 0, none⟩ v0).setCell ⟨r', 1, none⟩ v1).setCell ⟨r', 2, none⟩ v2).setCell ⟨r', 3, none⟩ v3).setCell ⟨r', 4, none⟩ v4).setCell ⟨r', 5, none⟩ v5) r d p v W C b := (((((h.keep hne _ _).keep hne _ _).keep hne _ _).keep hne _ _).keep hne _ _).keep hne _ _

set_option maxRecDepth 20000 in
set_option maxHeartbeats 4000000 in
theorem iholds_any (C : ByteArray) (I f t d p v : Int) (W O : ByteArray) (b : Int) (u : Value) (L : Ch.Ls) (x : Int) (w : World) (hL : Ch.Reads w u L) :
    Calls Try.prog 46 #[Tf.tv C I f t d p v W O b u, .int .i64 x] w fun e w' => e = .returned (Sk.sv (hs (d, p, v, W, O, b) L x L.length)) ∧ Below w.heap.size w w' := by
  have hfit := hL.fits
  have hcell : ∃ bb o, (∀ w', Below w.heap.size w w' → ∀ i, i < L.length → Ch.Cs w' bb o L i) ∧ (0 < L.length → bb < w.heap.size ∧ ∃ cap, u = .slice (some ⟨bb, o, none⟩) L.length cap) := by
    rcases hL with ⟨rfl, _⟩ | ⟨bb, o, cap, h1, h2, h3, h4, h5⟩
    · exact ⟨0, 0, fun _ _ i hi => by simp at hi, fun hi => by simp at hi⟩
    · exact ⟨bb, o, fun w' hb i hi => (h5 i hi).below hb h4, fun _ => ⟨h4, cap, h1⟩⟩
  obtain ⟨bb, o, hc, hvv⟩ := hcell
  obtain ⟨sa, sc, hu⟩ := hL.form
  subst hu
  have HC : Hid (∀ w', Below w.heap.size w w' → ∀ i, i < L.length → Ch.Cs w' bb o L i) := hc
  have HB : Hid (0 < L.length → bb < w.heap.size ∧ sa = some ⟨bb, o, none⟩) := fun hi => by
    obtain ⟨h1, c, h2⟩ := hvv hi
    simp at h2
    exact ⟨h1, h2.1⟩
  obtain ⟨n, hn⟩ : ∃ n, n = L.length := ⟨_, rfl⟩
  rw [← hn] at hfit HC HB ⊢
  have HN : Hid (n = L.length) := hn
  clear hL hc hvv hn
  obtain ⟨wb, hwb⟩ : ∃ wb, wb = ((w.alloc (.cells #[.string C, .int .i64 I, .int .i64 f, .int .i64 t, .int .i64 d, .int .i64 p, .int .i64 v, .string W, .string O, .int .i64 b, (.slice sa n sc)] 35)).alloc (.cells #[.int .i64 0, .int .i64 0, .int .i64 0, .string ⟨#[]⟩, .string ⟨#[]⟩, .int .i64 0] 32)).alloc (.cells #[.int .i64 d, .int .i64 p, .int .i64 v, .string W, .string O, .int .i64 b] 32) := ⟨_, rfl⟩
  have HW : Hid (wb = ((w.alloc (.cells #[.string C, .int .i64 I, .int .i64 f, .int .i64 t, .int .i64 d, .int .i64 p, .int .i64 v, .string W, .string O, .int .i64 b, (.slice sa n sc)] 35)).alloc (.cells #[.int .i64 0, .int .i64 0, .int .i64 0, .string ⟨#[]⟩, .string ⟨#[]⟩, .int .i64 0] 32)).alloc (.cells #[.int .i64 d, .int .i64 p, .int .i64 v, .string W, .string O, .int .i64 b] 32)) := hwb
  have BW : Hid (Below w.heap.size w wb) := (by show Below _ _ _; rw [hwb]; exact (((Below.refl _ _).alloc (Nat.le_refl _) _).alloc (by simp) _).alloc (by simp; omega) _)
  have KT : Hid (Tf.TB wb w.heap.size C I f t d p v W O b (.slice sa n sc)) := (by show Tf.TB _ _ _ _ _ _ _ _ _ _ _ _ _; rw [hwb]; exact ((Tf.TB.new w C I f t d p v W O b (.slice sa n sc)).on ((Below.refl _ _).alloc (Nat.le_refl _) _) (by simp)).on ((Below.refl _ _).alloc (Nat.le_refl _) _) (by simp; omega))
  have K0 : Hid (Sk.SB wb (w.heap.size + 1) 0 0 0 Sk.E Sk.E 0) := (by
    show Sk.SB _ _ _ _ _ _ _ _
    rw [hwb]
    have := (Sk.SB.new (w.alloc (.cells #[.string C, .int .i64 I, .int .i64 f, .int .i64 t, .int .i64 d, .int .i64 p, .int .i64 v, .string W, .string O, .int .i64 b, (.slice sa n sc)] 35)) 0 0 0 ⟨#[]⟩ ⟨#[]⟩ 0).on ((Below.refl _ _).alloc (Nat.le_refl _) (.cells #[.int .i64 d, .int .i64 p, .int .i64 v, .string W, .string O, .int .i64 b] 32)) (by simp)
    simpa using this)
  have K1 : Hid (Sk.SB wb (w.heap.size + 2) d p v W O b) := (by
    show Sk.SB _ _ _ _ _ _ _ _
    rw [hwb]
    have := Sk.SB.new ((w.alloc (.cells #[.string C, .int .i64 I, .int .i64 f, .int .i64 t, .int .i64 d, .int .i64 p, .int .i64 v, .string W, .string O, .int .i64 b, (.slice sa n sc)] 35)).alloc (.cells #[.int .i64 0, .int .i64 0, .int .i64 0, .string ⟨#[]⟩, .string ⟨#[]⟩, .int .i64 0] 32)) d p v W O b
    simpa using this)
  clear hwb
  obtain ⟨c0, c1, c2, c3, c4, c5, c6, c7, c8, c9, c10, _⟩ := KT.out.cells
  go_enter Try.func46, Try.ntmps46
  go_wp2_with fail
  rw [← HW.out]
  clear c0 c1 c2 c3 c4 c5 c6 c7 c8 c9 c10 HW
  go_loopw [15] (fun i wr => ∃ k : Nat, k ≤ n ∧ i = .int .i64 k ∧ Hid (Tf.TB wr w.heap.size C I f t d p v W O b (.slice sa n sc)) ∧ Hid (Sk.SB wr (w.heap.size + 1) 0 0 0 Sk.E Sk.E 0) ∧ Hid (∃ x0 x1 x2 x3 x4 x5, hs (d, p, v, W, O, b) L x k = (x0, x1, x2, x3, x4, x5) ∧ Sk.SB wr (w.heap.size + 2) x0 x1 x2 x3 x4 x5) ∧ Hid (Below w.heap.size w wr)) (fun i _ => n - (intOf i).toNat)
  case atStart => exact ⟨0, Nat.zero_le _, rfl, KT, K0, ⟨_, _, _, _, _, _, rfl, K1.out⟩, BW⟩
  case round =>
    obtain ⟨k, hk, rfl, T0, S0, S1, BB⟩ := hrel
    obtain ⟨x0, x1, x2, x3, x4, x5, hx, s1⟩ := S1.out
    have HX : Hid (hs (d, p, v, W, O, b) L x k = (x0, x1, x2, x3, x4, x5)) := hx
    have S1' : Hid (Sk.SB wr (w.heap.size + 2) x0 x1 x2 x3 x4 x5) := s1
    clear hx s1 S1
    by_cases hlt : k < n
    · obtain ⟨hb0, hx⟩ := HB.out (by omega)
      subst hx
      obtain ⟨q0, q1, q2, q3, q4, q5, q6, q7, q8⟩ := HC.out wr BB.out k hlt
      have i1 : (0 : Int) ≤ (k : Int) := by omega
      have i2 : (k : Int) < (n : Int) := by omega
      have HS : Hid (hs (d, p, v, W, O, b) L x (k + 1) = if (lst (Ch.c0 L k) && decide (stl (Ch.c0 L k) (Ch.c1 L k) (Ch.c2 L k) ≤ x)) = true then Sk.laid (x0, x1, x2, x3, x4, x5) (Ch.c3 L k, Ch.c4 L k, Ch.c5 L k, Ch.c6 L k, Ch.c7 L k, Ch.c8 L k) else (x0, x1, x2, x3, x4, x5)) := (by rw [← HX.out]; rfl)
      generalize Ch.c0 L k = y0 at *
      generalize Ch.c1 L k = y1 at *
      generalize Ch.c2 L k = y2 at *
      generalize Ch.c3 L k = y3 at *
      generalize Ch.c4 L k = y4 at *
      generalize Ch.c5 L k = y5 at *
      generalize Ch.c6 L k = y6 at *
      generalize Ch.c7 L k = y7 at *
      generalize Ch.c8 L k = y8 at *
      have C1 : Hid (∀ w, Calls Try.prog 65 #[cv y0 y1 y2 y3 y4 y5 y6 y7 y8] w fun e w' => e = .returned (.tuple #[.int .i64 (stl y0 y1 y2), .bool (lst y0)]) ∧ Below w.heap.size w w') := fun w => settled_any y0 y1 y2 y3 y4 y5 y6 y7 y8 w
      have C2 : Hid (∀ w, Calls Try.prog 68 #[Sk.sk x0 x1 x2 x3 x4 x5, Sk.sk y3 y4 y5 y6 y7 y8] w fun e w' => e = .returned (Sk.sv (Sk.laid (x0, x1, x2, x3, x4, x5) (y3, y4, y5, y6, y7, y8))) ∧ Below w.heap.size w w') := fun w => Sk.ilaid_any x0 x1 x2 x3 x4 x5 y3 y4 y5 y6 y7 y8 w
      generalize lst y0 = b2 at *
      generalize stl y0 y1 y2 = z at *
      obtain ⟨z0, z1, z2, z3, z4, z5, hz⟩ : ∃ z0 z1 z2 z3 z4 z5, Sk.laid (x0, x1, x2, x3, x4, x5) (y3, y4, y5, y6, y7, y8) = (z0, z1, z2, z3, z4, z5) := ⟨_, _, _, _, _, _, rfl⟩
      rw [hz] at C2 HS
      have C3 : Hid (∀ w, Calls Try.prog 68 #[Sk.sk x0 x1 x2 x3 x4 x5, Sk.sk y3 y4 y5 y6 y7 y8] w fun e w' => e = .returned (Sk.sk z0 z1 z2 z3 z4 z5) ∧ Below w.heap.size w w') := C2
      clear hz C2
      obtain ⟨wy, hwy⟩ : ∃ wy, wy = wr.alloc (.cells #[.int .i64 y0, .int .i64 y1, .int .i64 y2, .int .i64 y3, .int .i64 y4, .int .i64 y5, .string y6, .string y7, .int .i64 y8] 60) := ⟨_, rfl⟩
      have HY : Hid (wy = wr.alloc (.cells #[.int .i64 y0, .int .i64 y1, .int .i64 y2, .int .i64 y3, .int .i64 y4, .int .i64 y5, .string y6, .string y7, .int .i64 y8] 60)) := hwy
      have KY : Hid (Ch.CB wy wr.heap.size y0 y1 y2 y3 y4 y5 y6 y7 y8) := (by show Ch.CB _ _ _ _ _ _ _ _ _ _ _; rw [hwy]; exact Ch.CB.new wr y0 y1 y2 y3 y4 y5 y6 y7 y8)
      have QY : Hid (Below wr.heap.size wr wy) := (by show Below _ _ _; rw [hwy]; exact (Below.refl _ _).alloc (Nat.le_refl _) _)
      clear hwy
      obtain ⟨g0, g1, g2, g3, g4, g5, g6, g7, g8, _⟩ := KY.out.cells
      go_wp2_with fail
      rw [← HY.out]
      refine (C1.out _).mono ?_
      rintro e w1 ⟨rfl, hb⟩
      have Q1 : Hid (Below wr.heap.size wr w1) := QY.out.trans (hb.mono QY.out.size)
      have K1' : Hid (Ch.CB w1 wr.heap.size y0 y1 y2 y3 y4 y5 y6 y7 y8) := KY.out.on hb KY.out.lt
      clear g0 g1 g2 g3 g4 g5 g6 g7 g8 q0 q1 q2 q3 q4 q5 q6 q7 q8 hb HY
      have T1 : Hid (Tf.TB w1 w.heap.size C I f t d p v W O b (.slice (some ⟨bb, o, none⟩) n sc)) := T0.out.on Q1.out T0.out.lt
      have U1 : Hid (Sk.SB w1 (w.heap.size + 1) 0 0 0 Sk.E Sk.E 0) := S0.out.on Q1.out S0.out.lt
      have V1 : Hid (Sk.SB w1 (w.heap.size + 2) x0 x1 x2 x3 x4 x5) := S1'.out.on Q1.out S1'.out.lt
      have B1 : Hid (Below w.heap.size w w1) := BB.out.trans (Q1.out.mono BB.out.size)
      obtain ⟨g0, g1, g2, g3, g4, g5, g6, g7, g8, _⟩ := K1'.out.cells
      obtain ⟨a0, a1, a2, a3, a4, a5, _⟩ := V1.out.cells
      cases b2
      · go_wp2_with fail
        go_roundw
        case rel => exact ⟨k + 1, by omega, by go_num, T1, U1, ⟨_, _, _, _, _, _, by rw [HS.out]; rfl, V1.out⟩, B1⟩
        case measure => simp [intOf]; omega
      by_cases hz : z ≤ x
      rotate_left 1
      · go_wp2_with fail
        go_roundw
        case rel => exact ⟨k + 1, by omega, by go_num, T1, U1, ⟨_, _, _, _, _, _, by rw [HS.out, decide_eq_false (show ¬ z ≤ x by omega)]; rfl, V1.out⟩, B1⟩
        case measure => simp [intOf]; omega
      go_wp2_with fail
      refine (C3.out _).mono ?_
      rintro e w2 ⟨rfl, hb⟩
      have T2 : Hid (Tf.TB w2 w.heap.size C I f t d p v W O b (.slice (some ⟨bb, o, none⟩) n sc)) := T1.out.on hb T1.out.lt
      have U2 : Hid (Sk.SB w2 (w.heap.size + 1) 0 0 0 Sk.E Sk.E 0) := U1.out.on hb U1.out.lt
      have V2 : Hid (Sk.SB w2 (w.heap.size + 2) x0 x1 x2 x3 x4 x5) := V1.out.on hb V1.out.lt
      have B2 : Hid (Below w.heap.size w w2) := B1.out.trans (hb.mono B1.out.size)
      clear g0 g1 g2 g3 g4 g5 g6 g7 g8 a0 a1 a2 a3 a4 a5 hb
      obtain ⟨a0, a1, a2, a3, a4, a5, fr⟩ := V2.out.cells
      have f0 := fr 0
      have f1 := fr 1
      have f2 := fr 2
      have f3 := fr 3
      have f4 := fr 4
      have f5 := fr 5
      clear fr
      go_wp2_with fail
      go_roundw
      case rel => exact ⟨k + 1, by omega, by go_num, TB.keep6 T2.out (by omega) _ _ _ _ _ _, SB.keep6 U2.out (by omega) _ _ _ _ _ _, ⟨_, _, _, _, _, _, by rw [HS.out, decide_eq_true hz]; rfl, V2.out.all z0 z1 z2 z3 z4 z5⟩, Sk.below_all B2.out (by omega) _ _ _ _ _ _⟩
      case measure => simp [intOf]; omega
    · have ek : k = n := by omega
      subst ek
      obtain ⟨a0, a1, a2, a3, a4, a5, _⟩ := S1'.out.cells
      obtain ⟨d0, d1, d2, d3, d4, d5, fr⟩ := S0.out.cells
      have f0 := fr 0
      have f1 := fr 1
      have f2 := fr 2
      have f3 := fr 3
      have f4 := fr 4
      have f5 := fr 5
      clear fr
      go_wp2_with fail
      exact bodyPost_ret (v := Sk.sk x0 x1 x2 x3 x4 x5) (results_cell_row Try.results46 _ _ (w.heap.size + 1) 32 _ (0, 0) _ rfl (S0.out.all x0 x1 x2 x3 x4 x5) Try.underlying32 rfl Sk.size26) rfl ⟨by rw [HX.out], Sk.below_all BB.out (by omega) _ _ _ _ _ _⟩
end Go.Proofs.Ytmbhlmpdkkjedaa.To
