/- Rotate: the program. -/
import Derived.Test.YtpmgbbhoplicgaaHl
import Derived.Test.YtpmgbbhoplicgaaRl
namespace Go.Proofs.Ytpmgbbhoplicgaa.Ro
open Go.ChangeShapes Go.WideShapes Go.ChangeAt Go.RowKit
open Go.Proofs.Ytpmgbbhoplicgaa.Flt Go.Proofs.Ytpmgbbhoplicgaa.Wa Go.Proofs.Ytpmgbbhoplicgaa.An Go.Proofs.Ytpmgbbhoplicgaa.Co Go.Proofs.Ytpmgbbhoplicgaa.Ho Go.Proofs.Ytpmgbbhoplicgaa.Rl

attribute [local go_sem] Flt.run_store_float
attribute [local go_sem ↓] Go.wp_at_zero Go.wp_at_succ
def rf (L : Co.Ls) (h : Int) (i : Nat) : Int × Nat × Nat := (Co.c0 L i, trm L h i, tim L h i)
def rn (L : Co.Ls) (h : Int) : Nat := if okP L && inn h (-1000000) 1000000 then L.length else 0
theorem snoc_at {C : Co.Ls} {z : Int × Nat × Nat} {i : Nat} (hi : i < C.length) : (C ++ [z]).getD i (0, 0, 0) = C.getD i (0, 0, 0) := by simp [List.getD_eq_getElem?_getD, List.getElem?_append_left hi]
theorem snoc_last {C : Co.Ls} {z : Int × Nat × Nat} : (C ++ [z]).getD C.length (0, 0, 0) = z := by simp [List.getD_eq_getElem?_getD]
theorem good_congr {xs : List Value} {C : Co.Ls} {z : Int × Nat × Nat} (h : Co.Good xs C C.length) : Co.Good xs (C ++ [z]) C.length := fun i hi => by
  have := h i hi
  unfold Co.c0 Co.c1 Co.c2 at this ⊢
  rw [snoc_at hi]
  exact this
theorem tells_snoc {C : Co.Ls} {f : Nat → Int × Nat × Nat} {j : Nat} {z0 : Int} {z1 z2 : Nat} (h : Rl.Tells C f j) (h0 : z0 = (f j).1) (h1 : cn z1 = (f j).2.1) (h2 : cn z2 = (f j).2.2) : Rl.Tells (C ++ [(z0, z1, z2)]) f (j + 1) := by
  refine ⟨by simp [h.1], fun i hi => ?_⟩
  by_cases e : i = j
  · subst e
    unfold Co.c0 Co.c1 Co.c2
    rw [← h.1, snoc_last, h.1]
    exact ⟨h0, h1, h2⟩
  · have := h.2 i (by omega)
    unfold Co.c0 Co.c1 Co.c2 at this ⊢
    rw [snoc_at (by rw [h.1]; omega)]
    exact this
/- a row that is filled up to a place -/
def Fil (w : World) (base g n : Nat) (f : Nat → Int × Nat × Nat) (j : Nat) : Prop := ∃ xs, ∃ C : Co.Ls, w.ownsRow base 33 3 (.slice (some ⟨g, 0, none⟩) n n) n xs ∧ Co.Good xs C j ∧ Rl.Tells C f j
theorem Fil.step {w : World} {base g n : Nat} {f : Nat → Int × Nat × Nat} {j : Nat} {z0 : Int} {z1 z2 : Nat} (h : Fil w base g n f j) (hj : j < n) (h0 : z0 = (f j).1) (h1 : cn z1 = (f j).2.1) (h2 : cn z2 = (f j).2.2) :
    Fil (((w.setCell ⟨g, j * 3, none⟩ (.int .i64 z0)).setCell ⟨g, j * 3 + 1, none⟩ (.float .f64 z1)).setCell ⟨g, j * 3 + 2, none⟩ (.float .f64 z2)) base g n f (j + 1) := by
  obtain ⟨xs, C, R, G, T⟩ := h
  have lx : xs.length = n * 3 := R.1
  refine ⟨((xs.set (j * 3) (.int .i64 z0)).set (j * 3 + 1) (.float .f64 z1)).set (j * 3 + 2) (.float .f64 z2), C ++ [(z0, z1, z2)], (((R.stored (j * 3) _).1.stored (j * 3 + 1) _).1.stored (j * 3 + 2) _).1, ?_, tells_snoc T h0 h1 h2⟩
  have hl := T.1
  have G' : Co.Good xs (C ++ [(z0, z1, z2)]) j := by rw [← hl] at G ⊢; exact good_congr G
  have n1 := G'.next (by omega)
  have e0 : Co.c0 (C ++ [(z0, z1, z2)]) j = z0 := by unfold Co.c0; rw [← hl, snoc_last]
  have e1 : Co.c1 (C ++ [(z0, z1, z2)]) j = z1 := by unfold Co.c1; rw [← hl, snoc_last]
  have e2 : Co.c2 (C ++ [(z0, z1, z2)]) j = z2 := by unfold Co.c2; rw [← hl, snoc_last]
  rw [e0, e1, e2] at n1
  exact n1
theorem Fil.cells {w : World} {base g n : Nat} {f : Nat → Int × Nat × Nat} {j : Nat} (h : Fil w base g n f j) (hj : j < n) : (∃ u, w.cell? ⟨g, j * 3, none⟩ = some u) ∧ (∃ u, w.cell? ⟨g, j * 3 + 1, none⟩ = some u) ∧ (∃ u, w.cell? ⟨g, j * 3 + 2, none⟩ = some u) ∧ w.frozen? ⟨g, j * 3, none⟩ = false ∧ w.frozen? ⟨g, j * 3 + 1, none⟩ = false ∧ w.frozen? ⟨g, j * 3 + 2, none⟩ = false ∧ g < w.heap.size := by
  obtain ⟨xs, C, R, G, T⟩ := h
  have lx : xs.length = n * 3 := R.1
  refine ⟨⟨xs[j * 3]'(by omega), by rw [R.cellAt (j * 3) (by omega)]; exact List.getElem?_eq_getElem _⟩, ⟨xs[j * 3 + 1]'(by omega), by rw [R.cellAt (j * 3 + 1) (by omega)]; exact List.getElem?_eq_getElem _⟩, ⟨xs[j * 3 + 2]'(by omega), by rw [R.cellAt (j * 3 + 2) (by omega)]; exact List.getElem?_eq_getElem _⟩, R.frozenAt _, R.frozenAt _, R.frozenAt _, ?_⟩
  rcases Co.row_cases R with ⟨hn, _⟩ | ⟨g', cap, e, _, h2, _, _⟩
  · omega
  · simp at e
    obtain ⟨rfl, _⟩ := e
    exact h2
theorem Fil.on {w w' : World} {base g n : Nat} {f : Nat → Int × Nat × Nat} {j : Nat} (h : Fil w base g n f j) (hb : Below w.heap.size w w') : Fil w' base g n f j := by
  obtain ⟨xs, C, R, G, T⟩ := h
  exact ⟨xs, C, Co.row_below R hb, G, T⟩
theorem Fil.row {w : World} {base g n : Nat} {f : Nat → Int × Nat × Nat} (h : Fil w base g n f n) : ∃ C, Rl.Tells C f n ∧ Co.Row w base (.slice (some ⟨g, 0, none⟩) n n) C := by
  obtain ⟨xs, C, R, G, T⟩ := h
  have hl := T.1
  exact ⟨C, T, xs, by rw [hl]; exact R, by rw [hl]; exact G⟩
theorem row_base {w : World} {base base' : Nat} {v : Value} {L : Co.Ls} (h : Co.Row w base v L) (hb : base' ≤ base) : Co.Row w base' v L := by
  obtain ⟨xs, h, g⟩ := h
  refine ⟨xs, ⟨h.1, ?_⟩, g⟩
  rcases h.2 with x | ⟨g, cap, cur, h1, h2, h3⟩
  · exact .inl x
  · exact .inr ⟨g, cap, cur, h1, Nat.le_trans hb h2, h3⟩

set_option maxRecDepth 20000 in
set_option maxHeartbeats 2000000 in
theorem iro_yes (L : Co.Ls) (h : Int) (v : Value) (w : World) (hL : Co.Reads w v L) (hok : okP L = true) (hh : inn h (-1000000) 1000000 = true) :
    Calls Try.prog 10 #[v, .int .i64 h] w fun e w' => ∃ v' C, e = .returned v' ∧ Rl.Tells C (rf L h) L.length ∧ Co.Row w' w.heap.size v' C ∧ Below w.heap.size w w' := by
  have hf := hL.fits
  have o := (okP_iff L).1 hok
  obtain ⟨i0, hi, hz0, hz1, hz2⟩ := info_parts Co.Try.infoE
  have C : Hid (Calls Try.prog 20 #[v] w fun e w' => e = .returned (.bool true) ∧ Below w.heap.size w w') := (by have := iok_any L v w hL; rw [hok] at this; exact this)
  have C2 : Hid (∀ w, Calls Try.prog 21 #[.int .i64 h] w fun e w' => e = .returned (.bool true) ∧ w' = w) := fun w => (by have := ihour h w; rw [hh] at this; exact this)
  have HT : Hid (∀ i w', i < L.length → Calls Try.prog 25 #[.agg #[.int .i64 (Co.c0 L i), .float .f64 (Co.c1 L i), .float .f64 (Co.c2 L i)], .int .i64 h] w' fun e w'' => ∃ a c, e = .returned (.complex .f64 a c) ∧ cn a = (rf L h i).2.1 ∧ cn c = (rf L h i).2.2 ∧ Below w'.heap.size w' w'') := fun i w' hi => turned_any _ h _ _ w' (turn_in (o.2 i hi) hh)
  have HP : Hid (∀ a b w, Calls Try.prog 24 #[.complex .f64 a b] w fun e w' => e = .returned (pr a b) ∧ Below w.heap.size w w') := fun a b w => pairOf_any a b w
  have AT : Hid (∀ w' i, Below w.heap.size w w' → i < L.length → ∃ b o cap, v = .slice (some ⟨b, o, none⟩) L.length cap ∧ b < w.heap.size ∧ Co.Cs w' b o L i) := fun w' i hb hi => by
    obtain ⟨b, o, cap, e, hbb, hc⟩ := at_of hL (by omega)
    exact ⟨b, o, cap, e, hbb, (hc i hi).below hb hbb⟩
  have l40 := o.1
  obtain ⟨a, cap, rfl⟩ := hL.form
  obtain ⟨n, hn⟩ : ∃ n, n = L.length := ⟨_, rfl⟩
  rw [← hn] at AT HT hf C l40 ⊢
  clear hL hn o hok hh
  go_enter Try.func10, Try.ntmps10
  go_wp2_with fail
  refine C.out.mono ?_
  rintro e w0 ⟨rfl, hb0⟩
  have B0 : Hid (Below w.heap.size w w0) := hb0
  clear hb0
  go_wp2_with fail
  refine (C2.out _).mono ?_
  rintro e w2 ⟨rfl, hw⟩
  have hw' := hw.symm
  subst hw'
  go_wp2_with (at_make; refine wpList_make_full _ rfl _ _ 24 rfl w0.heap.size 33 i0 (.agg #[.int .i64 0, .float .f64 0, .float .f64 0]) 3 Try.underlying24 hi hz0 hz1 .i64 .i64 (n : Int) (n : Int) n rfl rfl rfl rfl (by rw [hz2]; omega) (by unfold maxLen; omega) (Nat.le_refl _) ?_; intro w4 hown hgrow)
  have F4 : Hid (Fil w4 w0.heap.size w0.heap.size n (rf L h) 0) := ⟨_, [], hown, fun i hi => absurd hi (by omega), rfl, fun i hi => absurd hi (by omega)⟩
  have B04 : Below w0.heap.size w0 w4 := (Below.refl _ _).grown hgrow (Nat.le_refl _) (fun k hk => by cases hk)
  have B4 : Hid (Below w.heap.size w w4) := B0.out.trans (B04.mono B0.out.size)
  have sz0 : Hid (w.heap.size ≤ w0.heap.size) := B0.out.size
  obtain ⟨g, hg⟩ : ∃ g, g = w0.heap.size := ⟨_, rfl⟩
  rw [← hg] at F4 ⊢
  have HGE : Hid (g = w0.heap.size) := hg
  clear hown hgrow B04 hg
  go_loopw [21] (fun i wr => ∃ k : Nat, k ≤ n ∧ i = .int .i64 k ∧ Hid (Fil wr w0.heap.size g n (rf L h) k) ∧ Hid (Below w.heap.size w wr)) (fun i _ => n - (intOf i).toNat)
  case atStart => exact ⟨0, by omega, rfl, by rw [← HGE.out]; exact F4, B4⟩
  case round =>
    obtain ⟨k, hk, rfl, FR, BR⟩ := hrel
    by_cases hlt : k < n
    · obtain ⟨b, o, cp, e, bl, q0, q1, q2⟩ := AT.out wr k BR.out hlt
      simp at e
      obtain ⟨rfl, rfl⟩ := e
      have i1 : (0 : Int) ≤ (k : Int) := by omega
      have i2 : (k : Int) < (n : Int) := by omega
      have HC : Hid (∀ w', Calls Try.prog 25 #[.agg #[.int .i64 (Co.c0 L k), .float .f64 (Co.c1 L k), .float .f64 (Co.c2 L k)], .int .i64 h] w' fun e w'' => ∃ a c, e = .returned (.complex .f64 a c) ∧ cn a = (rf L h k).2.1 ∧ cn c = (rf L h k).2.2 ∧ Below w'.heap.size w' w'') := fun w' => HT.out k w' hlt
      have HR0 : Hid (Co.c0 L k = (rf L h k).1) := rfl
      generalize Co.c0 L k = z0 at *
      generalize Co.c1 L k = z1 at *
      generalize Co.c2 L k = z2 at *
      obtain ⟨W, hW⟩ : ∃ W, W = wr.alloc (Obj.cells #[.int .i64 z0, .float .f64 z1, .float .f64 z2] 33) := ⟨_, rfl⟩
      have HW : Hid (W = wr.alloc (Obj.cells #[.int .i64 z0, .float .f64 z1, .float .f64 z2] 33)) := hW
      have BW : Below wr.heap.size wr W := (by rw [hW]; exact (Below.refl _ _).alloc (Nat.le_refl _) _)
      have FW : Hid (Fil W w0.heap.size g n (rf L h) k) := FR.out.on BW
      have BWW : Hid (Below w.heap.size w W) := BR.out.trans (BW.mono BR.out.size)
      have d0 : W.cell? ⟨wr.heap.size, 0, none⟩ = some (.int .i64 z0) := by rw [hW]; simp [go_sem]
      have d1 : W.cell? ⟨wr.heap.size, 1, none⟩ = some (.float .f64 z1) := by rw [hW]; simp [go_sem]
      have d2 : W.cell? ⟨wr.heap.size, 2, none⟩ = some (.float .f64 z2) := by rw [hW]; simp [go_sem]
      have gl : wr.heap.size < W.heap.size := by rw [hW]; simp
      have gwr : g < wr.heap.size := (FR.out.cells hlt).2.2.2.2.2.2
      obtain ⟨x, hx⟩ : ∃ x, x = wr.heap.size := ⟨_, rfl⟩
      have HXE : Hid (x = wr.heap.size) := hx
      rw [← hx] at d0 d1 d2 gl gwr
      have ne1 : g ≠ x := by omega
      have ne2 : x ≠ g := by omega
      clear hW BW hx
      go_wp2_with fail
      rw [← HW.out]
      rw [← HXE.out]
      go_region_held3 (fun w' => w'.cell? ⟨x, 0, none⟩ = some (.int .i64 z0) ∧ w'.cell? ⟨x, 1, none⟩ = some (.float .f64 z1) ∧ w'.cell? ⟨x, 2, none⟩ = some (.float .f64 z2)) (go_keep)
        (first
        | (go_at_call 25; refine (HC.out _).mono ?_; rintro e w5 ⟨t0, t1, rfl, ht0, ht1, hb5⟩; obtain ⟨p0, p1, p2, p3⟩ := keepC (g := x) (a := .int .i64 z0) (c := .float .f64 z1) (z := .float .f64 z2) hb5 (by first | omega | (simp; done) | (simp; omega)) (by go_simp) (by go_simp) (by go_simp); have F5 : Hid (Fil w5 w0.heap.size g n (rf L h) k) := Fil.on (by exact FW.out) hb5)
        | (go_at_call 24; refine (HP.out _ _ _).mono ?_; rintro e w6 ⟨rfl, hb6⟩; obtain ⟨r0, r1, r2, r3⟩ := keepC (g := x) (a := .int .i64 z0) (c := .float .f64 z1) (z := .float .f64 z2) hb6 (by first | omega | (simp; done) | (simp; omega)) (by go_simp) (by go_simp) (by go_simp); have F6 : Hid (Fil w6 w0.heap.size g n (rf L h) k) := F5.out.on hb6; obtain ⟨⟨u0, y0⟩, ⟨u1, y1⟩, ⟨u2, y2⟩, y3, y4, y5, y6⟩ := F6.out.cells hlt))
      have B5 : Below w.heap.size w w5 := (BWW.out.drew).trans (hb5.mono BWW.out.size)
      have B6 : Below w.heap.size w w6 := B5.trans (hb6.mono B5.size)
      have F7 : Hid (Fil (((w6.setCell ⟨g, k * 3, none⟩ (.int .i64 z0)).setCell ⟨g, k * 3 + 1, none⟩ (.float .f64 t0)).setCell ⟨g, k * 3 + 2, none⟩ (.float .f64 t1)) w0.heap.size g n (rf L h) (k + 1)) := F6.out.step hlt HR0.out ht0 ht1
      have gw : w.heap.size ≤ g := by rw [HGE.out]; exact sz0.out
      have B7 : Hid (Below w.heap.size w (((w6.setCell ⟨g, k * 3, none⟩ (.int .i64 z0)).setCell ⟨g, k * 3 + 1, none⟩ (.float .f64 t0)).setCell ⟨g, k * 3 + 2, none⟩ (.float .f64 t1))) := ((B6.setCell (p := ⟨g, k * 3, none⟩) gw _).setCell (p := ⟨g, k * 3 + 1, none⟩) gw _).setCell (p := ⟨g, k * 3 + 2, none⟩) gw _
      clear B5 B6 hb5 hb6 ht0 ht1 gw
      go_wp2_with fail
      go_roundw
      case rel => exact ⟨k + 1, by omega, by go_num, F7, B7⟩
      case measure => simp [intOf]; omega
    · have hkn : k = n := by omega
      subst hkn
      obtain ⟨D, td, rd⟩ := FR.out.row
      have TD : Hid (Rl.Tells D (rf L h) k) := td
      have RD : Hid (Co.Row wr w.heap.size (.slice (some ⟨g, 0, none⟩) k k) D) := row_base rd sz0.out
      clear td rd
      go_wp2_with fail
      go_ret
      exact ⟨_, D, rfl, TD.out, RD.out, BR.out⟩
end Go.Proofs.Ytpmgbbhoplicgaa.Ro
