/- Rows of pairs drawn of a code, told by the code alone, up to which missing number. -/
import Derived.Test.YtgnnmepjdmcecaaFf
import Derived.Maps.AppendAt
import Derived.Deep.AppendLies
import Derived.Deep.RegionLaw
import Derived.Deep.RegionHeldLaw
import Derived.Deep.DeepCutAuto
import Derived.Deep.CutBlock
namespace Go.Proofs.Ytgnnmepjdmcecaa.Fd
open Go.ChangeShapes Go.WideShapes Go.ChangeAt Go.RowKit
open Flt
attribute [local go_sem] Flt.run_store_float

def cnp (z : Nat × Nat) : Nat × Nat := (cn z.1, cn z.2)
def DrawsP (B : List UInt8) (F : Nat → (Nat × Nat) × Nat) : Prop := ∀ p, PairD B p (F p).1.1 (F p).1.2 (F p).2
theorem pair_fn (B : List UInt8) : ∃ F, DrawsP B F := by
  have h : ∀ p, ∃ z : (Nat × Nat) × Nat, PairD B p z.1.1 z.1.2 z.2 := fun p => by
    obtain ⟨x, y, p', h⟩ := pair_det B p
    exact ⟨((x, y), p'), h⟩
  obtain ⟨F, hF⟩ := Classical.axiomOfChoice h
  exact ⟨F, hF⟩
def wh (B : List UInt8) (p : Nat) : Nat := floatOfInt .f64 ((bw B p 40 : Int) - 20)
def stp (B : List UInt8) (F : Nat → (Nat × Nat) × Nat) (b : Bool) (p : Nat) : (Nat × Nat) × Nat :=
  if b then (cnp (wh B p, wh B (bp B p 40)), bp B (bp B p 40) 40) else F (bp B (bp B p 40) 40)
def lsp (B : List UInt8) (F : Nat → (Nat × Nat) × Nat) (b : Bool) (p : Nat) : Nat → Pr.Ls × Nat
  | 0 => ([], p)
  | k + 1 => ((lsp B F b p k).1 ++ [(stp B F b (lsp B F b p k).2).1], (stp B F b (lsp B F b p k).2).2)
def nines : List Nat := [1, 2, 3, 4, 6, 9, 12, 18, 36]
abbrev nine : Obj := .cells #[.int .i64 1, .int .i64 2, .int .i64 3, .int .i64 4, .int .i64 6, .int .i64 9, .int .i64 12, .int .i64 18, .int .i64 36] 3
theorem oneOf9 (u : Nat) (h1 : u < 9) : u = 0 ∨ u = 1 ∨ u = 2 ∨ u = 3 ∨ u = 4 ∨ u = 5 ∨ u = 6 ∨ u = 7 ∨ u = 8 := by omega
theorem nine_at (w : World) (u : Nat) (h : u < 9) : (w.alloc nine).cell? ⟨w.heap.size, u, none⟩ = some (.int .i64 (nines.getD u 0 : Nat)) ∧ nines.getD u 0 ≤ 36 := by
  rcases oneOf9 u h with rfl | rfl | rfl | rfl | rfl | rfl | rfl | rfl | rfl <;> simp [go_sem, nines]
theorem row_turn {r B n : Nat} {w w' : World} {v : Value} {xs : List Value} (h : w.ownsRow B 29 2 v n xs) (t : Turn r w w') (hr : r < B) : w'.ownsRow B 29 2 v n xs := by
  refine h.kept (row := some r) ⟨t.bel.os, t.bel.tape, t.bel.output, t.bel.size, fun k hk hne => ?_⟩ ?_
  · by_cases e : k < r
    · exact t.bel.block k e
    · have : k ≠ r := fun x => hne (by rw [x])
      exact t.abv k (by omega) hk
  · cases e : v.ownBlock with
    | none => exact Or.inl rfl
    | some k =>
      refine Or.inr fun x => ?_
      have := (h.lt k e).1
      simp at x
      omega
theorem turn_below {r : Nat} {w w2 w3 : World} (t : Turn r w w2) (hb : Below w.heap.size w2 w3) (hr : r < w.heap.size) : Turn r w w3 :=
  ⟨t.bel.trans (hb.mono (by omega)), fun i h1 h2 => (hb.block i h2).trans (t.abv i h1 h2)⟩
/-- what the draw keeps -/
structure LP (B : List UInt8) (w : World) (r : Nat) (X : Pr.Ls) (p : Nat) (v : Value) (n : Nat) (wx : World) : Prop where
  row : ∃ C : Pr.Ls, C.map cnp = X ∧ Pr.Row wx w.heap.size v C
  len : X.length = n
  rd : Rd B p r wx
  tn : Turn r w wx
theorem LP.turn {B : List UInt8} {w wx w' : World} {r : Nat} {X : Pr.Ls} {p p' n : Nat} {v : Value} (h : LP B w r X p v n wx) (hr : r < w.heap.size) (k : Rd B p' r w') (t : Turn r wx w') : LP B w r X p' v n w' := by
  obtain ⟨⟨C, hC, xs, R, G⟩, l, d, t0⟩ := h
  exact ⟨⟨C, hC, xs, row_turn R t hr, G⟩, l, k, t0.trans t⟩
theorem LP.alloc {B : List UInt8} {w wx : World} {r : Nat} {X : Pr.Ls} {p n : Nat} {v : Value} (h : LP B w r X p v n wx) (hr : r < w.heap.size) (o : Obj) : LP B w r X p v n (wx.alloc o) := by
  have z := h.tn.size
  exact h.turn hr (h.rd.kept ((Below.refl (r + 1) wx).alloc (by omega) _) (by omega)) ((Turn.refl r wx).alloc (by omega) _)
theorem LP.form {B : List UInt8} {w wx : World} {r : Nat} {X : Pr.Ls} {p n : Nat} {v : Value} (h : LP B w r X p v n wx) : ∃ a c, v = .slice a n c := by
  obtain ⟨⟨C, hC, R⟩, l, _, _⟩ := h
  obtain ⟨a, c, e⟩ := R.form
  refine ⟨a, c, ?_⟩
  rw [e, ← l, ← hC, List.length_map]
/-- a block that lies behind what is kept may be written -/
theorem LP.set {B : List UInt8} {w wx : World} {r : Nat} {X : Pr.Ls} {p n g : Nat} {v : Value} (h : LP B w r X p v n wx) (hr : r < w.heap.size) (hg : w.heap.size ≤ g) (hv : v.ownBlock ≠ some g) (o : Nat) (u : Value) : LP B w r X p v n (wx.setCell ⟨g, o, none⟩ u) := by
  obtain ⟨⟨C, hC, xs, R, G⟩, l, d, t0⟩ := h
  have b1 := (Below.refl w.heap.size wx).setCell (p := ⟨g, o, none⟩) hg u
  have hgr : wx.grownBy (wx.setCell ⟨g, o, none⟩ u) (some g) := Pr.grown_setCell ⟨rfl, rfl, rfl, Nat.le_refl _, fun _ _ _ => rfl⟩ o u
  exact ⟨⟨C, hC, xs, Pr.row_grown R hgr (fun k hk e => by simp at e; subst e; exact hv hk), G⟩, l, d.kept b1 hr, turn_below t0 b1 hr⟩
theorem LP.push {B : List UInt8} {w wx w' : World} {r : Nat} {X : Pr.Ls} {p n : Nat} {v v' : Value} {a b x y : Nat} (h : LP B w r X p v n wx) (hr : r < w.heap.size) (hx : cn a = x) (hy : cn b = y) (o : Obj)
    (hg : (wx.alloc o).grownBy w' v.ownBlock) (C : Pr.Ls) (hC : C.map cnp = X) (xs : List Value) (R : wx.ownsRow w.heap.size 29 2 v C.length xs) (G : Pr.Good xs C C.length) (ho : w'.ownsRow w.heap.size 29 2 v' (n + 1) (xs ++ [.float .f64 a, .float .f64 b])) : LP B w r (X ++ [(x, y)]) p v' (n + 1) w' := by
  have hn : n = C.length := by rw [← h.len, ← hC, List.length_map]
  have z := h.tn.size
  have BG : Below w.heap.size wx w' := ((Below.refl w.heap.size wx).alloc z _).grown hg (by simp; omega) (fun b hb => (R.lt b hb).1)
  refine ⟨⟨C ++ [(a, b)], by simp [hC, cnp, hx, hy], xs ++ [.float .f64 a, .float .f64 b], by rw [List.length_append, ← hn]; exact ho, Pr.good_snoc G R.1⟩, by simp [h.len], h.rd.kept BG hr, turn_below h.tn BG hr⟩

theorem one_two (a b : Nat) : ∀ u ∈ [Value.float .f64 a, Value.float .f64 b], u.oneCell' = true := by intro u hu; simp at hu; rcases hu with rfl | rfl <;> rfl
set_option maxRecDepth 20000 in
set_option maxHeartbeats 4000000 in
theorem draw_any (B : List UInt8) (F : Nat → (Nat × Nat) × Nat) (hF : DrawsP B F) (p : Nat) : ∃ X p', ∀ r w, Rd B p r w → Calls Try.prog 12 #[.pointer (some ⟨r, 0, none⟩)] w fun e w' => ∃ v, e = .returned v ∧ LP B w r X p' v X.length w' := by
  obtain ⟨i0, hi, hz0, hz1, hz2⟩ := info_parts Pr.Try.infoE
  obtain ⟨v9, hv9⟩ : ∃ v, bw B p 9 = v := ⟨_, rfl⟩
  have h9 := bw_lt B p 9 (by omega)
  rw [hv9] at h9
  obtain ⟨n, hn⟩ : ∃ n, nines.getD v9 0 = n := ⟨_, rfl⟩
  obtain ⟨b, hb⟩ : ∃ b, ow B (bp B p 9) 2 = b := ⟨_, rfl⟩
  obtain ⟨q, hq⟩ : ∃ q, bp B (bp B p 9) 2 = q := ⟨_, rfl⟩
  obtain ⟨l, hl⟩ : ∃ l, ow B (lsp B F b q n).2 14 = l := ⟨_, rfl⟩
  obtain ⟨XR, hXR⟩ : ∃ XR, XR = if l then (lsp B F b q n).1 ++ [(0, 0)] else (lsp B F b q n).1 := ⟨_, rfl⟩
  obtain ⟨pR, hpR⟩ : ∃ pR, pR = bp B (lsp B F b q n).2 14 := ⟨_, rfl⟩
  refine ⟨XR, pR, fun r w h => ?_⟩
  have HXR : Hid (XR = if l then (lsp B F b q n).1 ++ [(0, 0)] else (lsp B F b q n).1) := hXR
  have HPR : Hid (pR = bp B (lsp B F b q n).2 14) := hpR
  clear hXR hpR
  have hr := h.lt
  have h0 : Rd B p r (w.alloc nine) := h.kept ((Below.refl w.heap.size w).alloc (Nat.le_refl _) _) hr
  have t0 : Turn r w (w.alloc nine) := (Turn.refl r w).alloc hr _
  have N9 := nine_at w v9 h9
  rw [hn] at N9
  obtain ⟨N9, n36⟩ := N9
  have O2 : ∀ w, Rd B (bp B p 9) r w → Calls Try.prog 21 #[.pointer (some ⟨r, 0, none⟩), .int .i64 (2 : Nat)] w (Gives B r w (.bool b) q) := fun w h => by rw [← hq, ← hb]; exact once_any B _ r w h 2 (by omega) (by omega)
  have O14 : ∀ w, Rd B (lsp B F b q n).2 r w → Calls Try.prog 21 #[.pointer (some ⟨r, 0, none⟩), .int .i64 (14 : Nat)] w (Gives B r w (.bool l) (bp B (lsp B F b q n).2 14)) := fun w h => by rw [← hl]; exact once_any B _ r w h 14 (by omega) (by omega)
  clear hn hb hq hl
  go_enter Try.func12, Try.ntmps12
  go_wp2_with fail
  refine (below_is h0 9 (by omega) (by omega) hv9 rfl).mono ?_
  rintro e w1 ⟨rfl, k1, k2⟩
  have c9 : w1.cell? ⟨w.heap.size, v9, none⟩ = some (.int .i64 (n : Nat)) := (k2.cell _ (by simp) (by omega)).trans N9
  go_wp2_with fail
  refine (O2 _ k1).mono ?_
  rintro e w2 ⟨rfl, k3, k4⟩
  have T2 := (t0.trans k2).trans k4
  have z2 := T2.size
  have D2 : Hid (LP B w r [] q (.slice (some ⟨w2.heap.size, 0, none⟩) 0 0) 0 (w2.alloc (Obj.cells #[] 29))) := (by
    refine ⟨⟨[], rfl, [], World.ownsRow_lit w2 #[] 0 z2 (Nat.zero_le _) rfl, fun i hi => absurd hi (by simp)⟩, rfl, k3.kept ((Below.refl (r + 1) w2).alloc (by omega) _) (by omega), T2.alloc hr _⟩)
  clear k1 k2 k3 k4 h0 t0 T2 c9 N9 h hv9
  go_wp2_with fail
  go_loopw [5, 6] (fun v i wr => ∃ (k : Nat), k ≤ n ∧ i = .int .i64 k ∧ Hid (LP B w r (lsp B F b q k).1 (lsp B F b q k).2 v k wr)) (fun _ i _ => n - (intOf i).toNat)
  case atStart => exact ⟨0, Nat.zero_le _, rfl, D2⟩
  case round => as_aux_lemma =>
    clear D2
    obtain ⟨k, hk, rfl, D⟩ := hrel
    obtain ⟨v, hv⟩ : ∃ v, v = u5 := ⟨_, rfl⟩
    subst hv
    obtain ⟨sa, sc, hv⟩ := D.out.form
    subst hv
    by_cases hlt : k < n
    · have i2 : (k : Int) < (n : Int) := by omega
      have S1 : Hid ((lsp B F b q (k + 1)).1 = (lsp B F b q k).1 ++ [(stp B F b (lsp B F b q k).2).1] ∧ (lsp B F b q (k + 1)).2 = (stp B F b (lsp B F b q k).2).2) := ⟨rfl, rfl⟩
      generalize (lsp B F b q k).1 = X at *
      generalize (lsp B F b q k).2 = p1 at *
      clear O14 O2
      have l1 := bw_lt B p1 40 (by omega)
      have l2 := bw_lt B (bp B p1 40) 40 (by omega)
      obtain ⟨y1, hy1⟩ : ∃ y, bw B p1 40 = y := ⟨_, rfl⟩
      obtain ⟨y2, hy2⟩ : ∃ y, bw B (bp B p1 40) 40 = y := ⟨_, rfl⟩
      rw [hy1] at l1
      rw [hy2] at l2
      have HY : Hid (bw B p1 40 = y1 ∧ bw B (bp B p1 40) 40 = y2) := ⟨hy1, hy2⟩
      go_wp2_with fail
      refine (below_is D.out.rd 40 (by omega) (by omega) hy1 rfl).mono ?_
      rintro e w3 ⟨rfl, k3, k4⟩
      go_wp2_with fail
      refine (below_is k3 40 (by omega) (by omega) hy2 rfl).mono ?_
      rintro e w4 ⟨rfl, k5, k6⟩
      have D4 : Hid (LP B w r X _ (.slice sa k sc) k w4) := D.out.turn hr k5 (k4.trans k6)
      clear k3 k4 k5 k6 D hy1 hy2
      have u40 : Try.prog.underlying 24 = some (.slice 29) := Try.underlying24
      cases b
      · have PF : Hid (PairD B (bp B (bp B p1 40) 40) (F (bp B (bp B p1 40) 40)).1.1 (F (bp B (bp B p1 40) 40)).1.2 (F (bp B (bp B p1 40) 40)).2) := hF _
        have S2 : Hid (stp B F false p1 = F (bp B (bp B p1 40) 40)) := if_neg Bool.false_ne_true
        generalize F (bp B (bp B p1 40) 40) = z at *
        go_wp2_with fail
        refine (PF.out r _ (D4.out.alloc hr _).rd).mono ?_
        rintro e w5 ⟨a, c, rfl, ha, hc, k5, k6⟩
        have z4 := D4.out.tn.size
        have D5 : Hid (LP B w r X z.2 (.slice sa k sc) k w5) := (D4.out.alloc hr _).turn hr k5 k6
        have vo : Hid ((Value.slice sa k sc).ownBlock ≠ some w4.heap.size) := (by
          intro e
          obtain ⟨⟨C, hC, xs, R, G⟩, _⟩ := D4.out
          have := (R.lt _ e).2
          omega)
        have c0 : w5.cell? ⟨w4.heap.size, 0, none⟩ = some (.float .f64 (floatOfInt .f64 ((y1 : Int) - 20))) := (k6.cell 0 (by simp) (by omega)).trans (by simp [go_sem])
        have c1 : w5.cell? ⟨w4.heap.size, 1, none⟩ = some (.float .f64 (floatOfInt .f64 ((y2 : Int) - 20))) := (k6.cell 1 (by simp) (by omega)).trans (by simp [go_sem])
        have f0 : w5.frozen? ⟨w4.heap.size, 0, none⟩ = false := (k6.frozen 0 (by simp) (by omega)).trans (by simp [go_sem])
        have f1 : w5.frozen? ⟨w4.heap.size, 1, none⟩ = false := (k6.frozen 1 (by simp) (by omega)).trans (by simp [go_sem])
        have D6 : Hid (LP B w r X z.2 (.slice sa k sc) k ((w5.setCell ⟨w4.heap.size, 0, none⟩ (.float .f64 a)).setCell ⟨w4.heap.size, 1, none⟩ (.float .f64 c))) := ((D5.out.set hr (by omega) vo.out 0 _).set hr (by omega) vo.out 1 _)
        have HA : Hid (cn a = z.1.1 ∧ cn c = z.1.2) := ⟨ha, hc⟩
        obtain ⟨⟨C, hC, xs, R, G⟩, _⟩ := D6.out
        have HC : Hid (C.map cnp = X ∧ Pr.Good xs C C.length) := ⟨hC, G⟩
        have hk2 : C.length = k := by rw [← D6.out.len, ← hC, List.length_map]
        have RH : Hid (((w5.setCell ⟨w4.heap.size, 0, none⟩ (.float .f64 a)).setCell ⟨w4.heap.size, 1, none⟩ (.float .f64 c)).ownsRow w.heap.size 29 2 (.slice sa k sc) k xs) := by rw [hk2] at R; exact R
        have zz : w.heap.size ≤ w5.heap.size := D5.out.tn.size
        clear k5 k6 ha hc hC G R D5 D4
        have NW : ∀ j u, [.float .f64 a, .float .f64 c][j]? = some u → (((w5.setCell ⟨w4.heap.size, 0, none⟩ (.float .f64 a)).setCell ⟨w4.heap.size, 1, none⟩ (.float .f64 c)).alloc (Obj.cells #[.float .f64 a, .float .f64 c] 29)).cell? ((⟨w5.heap.size, 0, none⟩ : Addr).add j) = some u := fun j u h => by
          have := Pr.cell_news ((w5.setCell ⟨w4.heap.size, 0, none⟩ (.float .f64 a)).setCell ⟨w4.heap.size, 1, none⟩ (.float .f64 c)) _ _ 29 j u h
          simpa using this
        go_wp2_with (at_builtin; refine wpList_append_own_at _ rfl _ _ 24 rfl w.heap.size 29 i0 (.agg #[.float .f64 0, .float .f64 0]) 2 16 u40 hi hz0 hz1 hz2 rfl (by decide) _ _ _ rfl (RH.out.alloc _) ⟨_, 0, none⟩ 1 1 [.float .f64 a, .float .f64 c] rfl rfl NW (one_two _ _) (by unfold maxLen; omega) (by omega) (by simp; omega) ?_)
        intro v' w7 hown hgrow _ _
        have D8 : Hid (LP B w r (lsp B F false q (k + 1)).1 (lsp B F false q (k + 1)).2 v' (k + 1) w7) := (by
          rw [S1.out.1, S1.out.2, S2.out]
          exact D6.out.push hr HA.out.1 HA.out.2 _ hgrow C HC.out.1 xs (by rw [hk2]; exact RH.out) HC.out.2 hown)
        clear hown hgrow RH D6 NW
        go_wp2_with fail
        go_roundw
        case rel => exact ⟨k + 1, by omega, by go_num, D8⟩
        case measure => simp [intOf]; omega
      · have S2 : Hid (stp B F true p1 = (cnp (floatOfInt .f64 ((y1 : Int) - 20), floatOfInt .f64 ((y2 : Int) - 20)), bp B (bp B p1 40) 40)) := (by
          show stp B F true p1 = _
          unfold stp wh
          rw [if_pos rfl, HY.out.2, HY.out.1])
        have D5 := D4.out.alloc hr (Obj.cells #[.float .f64 (floatOfInt .f64 ((y1 : Int) - 20)), .float .f64 (floatOfInt .f64 ((y2 : Int) - 20))] 29)
        have D6 : Hid (LP B w r X (bp B (bp B p1 40) 40) (.slice sa k sc) k (w4.alloc (Obj.cells #[.float .f64 (floatOfInt .f64 ((y1 : Int) - 20)), .float .f64 (floatOfInt .f64 ((y2 : Int) - 20))] 29))) := D5
        obtain ⟨⟨C, hC, xs, R, G⟩, _⟩ := D5
        have HC : Hid (C.map cnp = X ∧ Pr.Good xs C C.length) := ⟨hC, G⟩
        have hk2 : C.length = k := by rw [← D6.out.len, ← hC, List.length_map]
        have RH : Hid ((w4.alloc (Obj.cells #[.float .f64 (floatOfInt .f64 ((y1 : Int) - 20)), .float .f64 (floatOfInt .f64 ((y2 : Int) - 20))] 29)).ownsRow w.heap.size 29 2 (.slice sa k sc) k xs) := by rw [hk2] at R; exact R
        have zz := D4.out.tn.size
        clear hC G R D4
        have NW : ∀ j u, [.float .f64 (floatOfInt .f64 ((y1 : Int) - 20)), .float .f64 (floatOfInt .f64 ((y2 : Int) - 20))][j]? = some u → ((w4.alloc (Obj.cells #[.float .f64 (floatOfInt .f64 ((y1 : Int) - 20)), .float .f64 (floatOfInt .f64 ((y2 : Int) - 20))] 29)).alloc (Obj.cells #[.float .f64 (floatOfInt .f64 ((y1 : Int) - 20)), .float .f64 (floatOfInt .f64 ((y2 : Int) - 20))] 29)).cell? ((⟨w4.heap.size + 1, 0, none⟩ : Addr).add j) = some u := fun j u h => by
          have := Pr.cell_news (w4.alloc (Obj.cells #[.float .f64 (floatOfInt .f64 ((y1 : Int) - 20)), .float .f64 (floatOfInt .f64 ((y2 : Int) - 20))] 29)) _ _ 29 j u h
          simpa using this
        go_wp2_with (at_builtin; refine wpList_append_own_at _ rfl _ _ 24 rfl w.heap.size 29 i0 (.agg #[.float .f64 0, .float .f64 0]) 2 16 u40 hi hz0 hz1 hz2 rfl (by decide) _ _ _ rfl (RH.out.alloc _) ⟨_, 0, none⟩ 1 1 [.float .f64 (floatOfInt .f64 ((y1 : Int) - 20)), .float .f64 (floatOfInt .f64 ((y2 : Int) - 20))] rfl rfl NW (one_two _ _) (by unfold maxLen; omega) (by omega) (by simp; omega) ?_)
        intro v' w7 hown hgrow _ _
        have D8 : Hid (LP B w r (lsp B F true q (k + 1)).1 (lsp B F true q (k + 1)).2 v' (k + 1) w7) := (by
          rw [S1.out.1, S1.out.2, S2.out]
          exact D6.out.push hr rfl rfl _ hgrow C HC.out.1 xs (by rw [hk2]; exact RH.out) HC.out.2 hown)
        clear hown hgrow RH D6 NW
        go_wp2_with fail
        go_roundw
        case rel => exact ⟨k + 1, by omega, by go_num, D8⟩
        case measure => simp [intOf]; omega
    · have i2 : ¬ ((k : Int) < (n : Int)) := by omega
      have hkn : k = n := by omega
      subst hkn
      generalize (lsp B F b q k).1 = X at *
      generalize (lsp B F b q k).2 = p1 at *
      have u40 : Try.prog.underlying 24 = some (.slice 29) := Try.underlying24
      go_wp2_with fail
      refine (O14 _ D.out.rd).mono ?_
      rintro e w3 ⟨rfl, k3, k4⟩
      have D4 : Hid (LP B w r X (bp B p1 14) (.slice sa k sc) k w3) := D.out.turn hr k3 k4
      clear k3 k4 D O14 O2
      cases l
      · have D5 : Hid (LP B w r XR pR (.slice sa k sc) XR.length w3) := (by
          have e : XR = X := by rw [HXR.out]; simp
          rw [e, HPR.out, D4.out.len]
          exact D4.out)
        go_wp2_with fail
        go_ret
        exact ⟨_, rfl, D5.out⟩
      · obtain ⟨⟨C, hC, xs, R, G⟩, _⟩ := D4.out
        have HC : Hid (C.map cnp = X ∧ Pr.Good xs C C.length) := ⟨hC, G⟩
        have hk2 : C.length = k := by rw [← D4.out.len, ← hC, List.length_map]
        have RH : Hid (w3.ownsRow w.heap.size 29 2 (.slice sa k sc) k xs) := by rw [hk2] at R; exact R
        have zz := D4.out.tn.size
        clear hC G R
        go_wp2_with (at_builtin; refine wpList_append_own_at _ rfl _ _ 24 rfl w.heap.size 29 i0 (.agg #[.float .f64 0, .float .f64 0]) 2 16 u40 hi hz0 hz1 hz2 rfl (by decide) _ _ _ rfl (RH.out.alloc _) ⟨_, 0, none⟩ 1 1 [.float .f64 0, .float .f64 0] rfl rfl (Pr.cell_news _ _ _ _) (one_two _ _) (by unfold maxLen; omega) (by omega) (by simp; omega) ?_)
        intro v' w7 hown hgrow _ _
        have D8 : Hid (LP B w r XR pR v' XR.length w7) := (by
          have e : XR = X ++ [(0, 0)] := by rw [HXR.out]; simp
          rw [e, HPR.out, List.length_append, D4.out.len]
          exact D4.out.push hr (by decide +kernel) (by decide +kernel) _ hgrow C HC.out.1 xs (by rw [hk2]; exact RH.out) HC.out.2 hown)
        clear hown hgrow RH D4
        go_wp2_with fail
        go_ret
        exact ⟨_, rfl, D8.out⟩
end Go.Proofs.Ytgnnmepjdmcecaa.Fd
