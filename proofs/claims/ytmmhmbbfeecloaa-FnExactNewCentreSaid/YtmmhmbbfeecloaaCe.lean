/- Centres compared, marked, held. -/
import Derived.Test.YtmmhmbbfeecloaaNs
namespace Go.Proofs.Ytmmhmbbfeecloaa.Nc
open Go.ChangeShapes Go.WideShapes Go.ChangeAt Go.RowKit Rt Ro Su
set_option maxHeartbeats 1000000 in
theorem ceq_any (R : Ls) (Q : Qu.Qs) (nx : Int) (r1 r2 q1 q2 : Value) (w : World) (h1 : Rt.Reads w r1 R) (h2 : Rt.Reads w r2 R) (h3 : Qu.Reads w q1 Q) (h4 : Qu.Reads w q2 Q) :
    Calls Try.prog 8 #[ctr r1 nx q1, ctr r2 nx q2] w fun e w' => e = .returned (.bool true) ∧ Below w.heap.size w w' := by
  have C1 : Hid (∀ w', Below w.heap.size w w' → Calls Try.prog 9 #[r1, r2] w' fun e w'' => e = .returned (.bool true) ∧ Below w'.heap.size w' w'') := fun w' hb => Rt.eq_same w' r1 r2 R (h1.on hb) (h2.on hb)
  have C2 : Hid (∀ w', Calls Try.prog 20 #[.slice none 0 0, .slice none 0 0] w' fun e w'' => e = .returned (.bool true) ∧ Below w'.heap.size w' w'') := fun w' => eqB_nil w'
  have C3 : Hid (∀ w', Below w.heap.size w w' → Calls Try.prog 21 #[q1, q2] w' fun e w'' => e = .returned (.bool true) ∧ Below w'.heap.size w' w'') := fun w' hb => Qu.eq_same w' q1 q2 Q (h3.on hb) (h4.on hb)
  obtain ⟨a1, c1, rfl⟩ := h1.form
  obtain ⟨a2, c2, rfl⟩ := h2.form
  obtain ⟨a3, c3, rfl⟩ := h3.form
  obtain ⟨a4, c4, rfl⟩ := h4.form
  generalize R.length = n at *
  generalize Q.length = m at *
  clear h1 h2 h3 h4
  obtain ⟨wa, hwa⟩ : ∃ wa, wa = w.alloc (.cells #[.slice a1 n c1, .int .i64 0, .int .i64 nx, .slice none 0 0, .slice a3 m c3] 28) := ⟨_, rfl⟩
  obtain ⟨wb, hwb⟩ : ∃ wb, wb = wa.alloc (.cells #[.slice a2 n c2, .int .i64 0, .int .i64 nx, .slice none 0 0, .slice a4 m c4] 28) := ⟨_, rfl⟩
  have HB : Hid (wb = (w.alloc (.cells #[.slice a1 n c1, .int .i64 0, .int .i64 nx, .slice none 0 0, .slice a3 m c3] 28)).alloc (.cells #[.slice a2 n c2, .int .i64 0, .int .i64 nx, .slice none 0 0, .slice a4 m c4] 28)) := by show _ = _; rw [hwb, hwa]
  have X1 : Hid (Bx wb w.heap.size (.slice a1 n c1) (.slice a3 m c3) nx) := (by
    show Bx _ _ _ _ _
    rw [hwb, hwa]
    exact (Bx.new w _ _ _).on ((Below.refl _ _).alloc (Nat.le_refl _) _) (Bx.new w _ _ _).1)
  have X2 : Hid (Bx wb (w.heap.size + 1) (.slice a2 n c2) (.slice a4 m c4) nx) := (by
    show Bx _ _ _ _ _
    rw [hwb]
    have e : wa.heap.size = w.heap.size + 1 := by rw [hwa]; simp
    rw [← e]
    exact Bx.new wa _ _ _)
  have BB : Hid (Below w.heap.size w wb) := (by show Below _ _ _; rw [hwb, hwa]; exact ((Below.refl _ _).alloc (Nat.le_refl _) _).alloc (by simp) _)
  clear hwb hwa
  obtain ⟨_, ⟨k0, k1, k2, k3, k4⟩, _⟩ := X1.out
  obtain ⟨_, ⟨l0, l1, l2, l3, l4⟩, _⟩ := X2.out
  go_enter Try.func8, Try.ntmps8
  go_wp2_with fail
  rw [← HB.out]
  go_wp2_with fail
  refine (C1.out _ BB.out).mono ?_
  rintro e w1 ⟨rfl, hb⟩
  have B1 : Hid (Below w.heap.size w w1) := BB.out.trans (hb.mono BB.out.size)
  have Y1 : Hid (Bx w1 w.heap.size (.slice a1 n c1) (.slice a3 m c3) nx) := X1.out.on hb X1.out.1
  have Y2 : Hid (Bx w1 (w.heap.size + 1) (.slice a2 n c2) (.slice a4 m c4) nx) := X2.out.on hb X2.out.1
  clear hb k0 k1 k2 k3 k4 l0 l1 l2 l3 l4 X1 X2 HB BB
  obtain ⟨_, ⟨k0, k1, k2, k3, k4⟩, _⟩ := Y1.out
  obtain ⟨_, ⟨l0, l1, l2, l3, l4⟩, _⟩ := Y2.out
  go_wp2_with fail
  refine (C2.out _).mono ?_
  rintro e w2 ⟨rfl, hb⟩
  have B2 : Hid (Below w.heap.size w w2) := B1.out.trans (hb.mono B1.out.size)
  have Z1 : Hid (Bx w2 w.heap.size (.slice a1 n c1) (.slice a3 m c3) nx) := Y1.out.on hb Y1.out.1
  have Z2 : Hid (Bx w2 (w.heap.size + 1) (.slice a2 n c2) (.slice a4 m c4) nx) := Y2.out.on hb Y2.out.1
  clear hb k0 k1 k2 k3 k4 l0 l1 l2 l3 l4 Y1 Y2
  obtain ⟨_, ⟨k0, k1, k2, k3, k4⟩, _⟩ := Z1.out
  obtain ⟨_, ⟨l0, l1, l2, l3, l4⟩, _⟩ := Z2.out
  go_wp2_with fail
  refine (C3.out _ B2.out).mono ?_
  rintro e w3 ⟨rfl, hb⟩
  have B3 : Hid (Below w.heap.size w w3) := B2.out.trans (hb.mono B2.out.size)
  clear hb k0 k1 k2 k3 k4 l0 l1 l2 l3 l4
  go_wp2_with fail
  go_ret
  exact ⟨rfl, B3.out⟩
theorem below_grown {w w1 w2 : World} {row : Option Nat} (hb : Below w.heap.size w w1) (h : w1.grownBy w2 row) : w.grownBy w2 row := ⟨h.os.trans hb.os, h.tape.trans hb.tape, h.output.trans hb.output, Nat.le_trans hb.size h.size, fun k hk hne => (h.block k (Nat.lt_of_lt_of_le hk hb.size) hne).trans (hb.block k hk)⟩
set_option maxHeartbeats 1000000 in
theorem cmark_any (R : Ls) (Q : Qu.Qs) (nx : Int) (rv qv : Value) (w : World) (B : Nat) (h1 : Rt.Row w B rv R) (h2 : Qu.Row w B qv Q) (hd : ∀ g, rv.ownBlock = some g → qv.ownBlock ≠ some g) (hn : R.length ≤ 1048576) (hm : Q.length ≤ 1048576) :
    Calls Try.prog 11 #[ctr rv nx qv, .int .i64 1] w fun e w' => e = .returned (.int .i64 (1 + (R.length : Int) * 2 + (Q.length : Int) * 3)) ∧ Rt.Row w' B rv (mks R.length) ∧ Qu.Row w' B qv (Qu.mq (1 + (R.length : Int) * 2) Q.length) ∧ ∃ wa, w.grownBy wa rv.ownBlock ∧ wa.grownBy w' qv.ownBlock := by
  have C1 : Hid (∀ w', Below w.heap.size w w' → Calls Try.prog 10 #[rv, .int .i64 1] w' fun e w'' => e = .returned (.int .i64 (1 + (R.length : Int) * 2)) ∧ Rt.Row w'' B rv (mks R.length) ∧ w'.grownBy w'' rv.ownBlock) := fun w' hb => (by
    obtain ⟨xs, r1, _⟩ := h1.on hb
    exact Rt.mark_any w' B R.length rv xs hn r1)
  have C2 : Hid (∀ w' k, Calls Try.prog 24 #[.slice none 0 0, .int .i64 k] w' fun e w'' => e = .returned (.int .i64 k) ∧ w'' = w') := fun w' k => markB_nil w' k
  have C3 : Hid (∀ w', w.grownBy w' rv.ownBlock → Calls Try.prog 25 #[qv, .int .i64 (1 + (R.length : Int) * 2)] w' fun e w'' => e = .returned (.int .i64 (1 + (R.length : Int) * 2 + (Q.length : Int) * 3)) ∧ Qu.Row w'' B qv (Qu.mq (1 + (R.length : Int) * 2) Q.length) ∧ w'.grownBy w'' qv.ownBlock) := fun w' hb => Qu.mark_any w' B qv Q _ hm ⟨by omega, by omega⟩ (Rt.row_grown h2 hb (fun g hg e => hd g e hg))
  have HD : Hid (∀ g, rv.ownBlock = some g → qv.ownBlock ≠ some g) := hd
  have RB : Hid (∀ g, rv.ownBlock = some g → g < w.heap.size) := fun g hg => (h1.lt g hg).2
  have QB : Hid (∀ g, qv.ownBlock = some g → g < w.heap.size) := fun g hg => (Rt.row_cases h2).elim (fun h => by rw [h.2] at hg; cases hg) (fun ⟨g', c, e, _, h, _⟩ => by rw [e] at hg; cases hg; exact h)
  obtain ⟨a1, c1, rfl⟩ := h1.form
  obtain ⟨a3, c3, rfl⟩ := h2.reads.form
  generalize R.length = n at *
  generalize Q.length = m at *
  clear h1 h2 hd
  have X1 : Hid (Bx (w.alloc (.cells #[.slice a1 n c1, .int .i64 0, .int .i64 nx, .slice none 0 0, .slice a3 m c3] 28)) w.heap.size (.slice a1 n c1) (.slice a3 m c3) nx) := Bx.new w _ _ _
  have B0 : Hid (Below w.heap.size w (w.alloc (.cells #[.slice a1 n c1, .int .i64 0, .int .i64 nx, .slice none 0 0, .slice a3 m c3] 28))) := (Below.refl _ _).alloc (Nat.le_refl _) _
  go_enter Try.func11, Try.ntmps11
  go_wp2_with fail
  refine (C1.out _ B0.out).mono ?_
  rintro e w1 ⟨rfl, hr, hg⟩
  have R1 : Hid (Rt.Row w1 B (.slice a1 n c1) (mks n)) := hr
  have G1 : Hid (w.grownBy w1 (Value.slice a1 n c1).ownBlock) := below_grown B0.out hg
  obtain ⟨_, ⟨k0, k1, k2, k3, k4⟩, _⟩ := X1.out.grown hg (fun e => by have := RB.out _ e; omega)
  clear hr hg C1 X1 B0
  go_wp2_with (go_at_call 24; refine (C2.out _ _).mono ?_; rintro e w2 ⟨rfl, hw⟩; have hw' := hw.symm; subst hw')
  refine (C3.out _ G1.out).mono ?_
  rintro e w3 ⟨rfl, hr, hg⟩
  have Q3 : Hid (Qu.Row w3 B (.slice a3 m c3) (Qu.mq (1 + (n : Int) * 2) m)) := hr
  have G3 : Hid (w1.grownBy w3 (Value.slice a3 m c3).ownBlock) := hg
  have R3 : Hid (Rt.Row w3 B (.slice a1 n c1) (mks n)) := R1.out.grown hg (fun g h1 h2 => HD.out g h1 h2)
  clear hr hg k0 k1 k2 k3 k4
  go_wp2_with fail
  go_ret
  exact ⟨rfl, R3.out, Q3.out, _, G1.out, G3.out⟩
set_option maxHeartbeats 1000000 in
theorem cheld_any (n m : Nat) (nx : Int) (rv qv : Value) (w : World) (h1 : Rt.Reads w rv (mks n)) (h2 : Qu.Reads w qv (Qu.mq (1 + (n : Int) * 2) m)) (hn : n ≤ 1048576) (hm : m ≤ 1048576) :
    Calls Try.prog 12 #[ctr rv nx qv, .int .i64 1] w fun e w' => e = .returned (.int .i64 (1 + (n : Int) * 2 + (m : Int) * 3)) ∧ Below w.heap.size w w' := by
  have C1 : Hid (∀ w', Below w.heap.size w w' → Calls Try.prog 26 #[rv, .int .i64 1] w' fun e w'' => e = .returned (.int .i64 (1 + (n : Int) * 2)) ∧ Below w'.heap.size w' w'') := fun w' hb => Rt.held_any w' rv n hn (h1.on hb)
  have C2 : Hid (∀ w' k, Calls Try.prog 27 #[.slice none 0 0, .int .i64 k] w' fun e w'' => e = .returned (.int .i64 k) ∧ w'' = w') := fun w' k => heldB_nil w' k
  have C3 : Hid (∀ w', Below w.heap.size w w' → Calls Try.prog 28 #[qv, .int .i64 (1 + (n : Int) * 2)] w' fun e w'' => e = .returned (.int .i64 (1 + (n : Int) * 2 + (m : Int) * 3)) ∧ w'' = w') := fun w' hb => Qu.held_any w' qv m _ hm ⟨by omega, by omega⟩ (h2.on hb)
  obtain ⟨a1, c1, rfl⟩ := h1.form
  obtain ⟨a3, c3, rfl⟩ := h2.form
  rw [mks_len] at C1 ⊢
  rw [Qu.mq_len] at C3 ⊢
  clear h1 h2
  obtain ⟨k, hk⟩ : ∃ k : Int, 1 + (n : Int) * 2 = k := ⟨_, rfl⟩
  have k0' : 0 ≤ k := by omega
  have k1' : 0 ≤ k + (m : Int) * 3 := by omega
  rw [hk] at C1 C3 ⊢
  clear hk
  have X1 : Hid (Bx (w.alloc (.cells #[.slice a1 n c1, .int .i64 0, .int .i64 nx, .slice none 0 0, .slice a3 m c3] 28)) w.heap.size (.slice a1 n c1) (.slice a3 m c3) nx) := Bx.new w _ _ _
  have B0 : Hid (Below w.heap.size w (w.alloc (.cells #[.slice a1 n c1, .int .i64 0, .int .i64 nx, .slice none 0 0, .slice a3 m c3] 28))) := (Below.refl _ _).alloc (Nat.le_refl _) _
  go_enter Try.func12, Try.ntmps12
  go_wp2_with fail
  refine (C1.out _ B0.out).mono ?_
  rintro e w1 ⟨rfl, hb⟩
  have B1 : Hid (Below w.heap.size w w1) := B0.out.trans (hb.mono B0.out.size)
  obtain ⟨_, ⟨k0, k1, k2, k3, k4⟩, _⟩ := X1.out.on hb X1.out.1
  clear hb X1 B0 C1
  go_wp2_with (first | (go_at_call 27; refine (C2.out _ _).mono ?_; rintro e w2 ⟨rfl, hw⟩; subst hw) | (go_at_call 28; refine (C3.out _ B1.out).mono ?_; rintro e w2 ⟨rfl, hw⟩; subst hw))
  go_ret
  exact ⟨rfl, B1.out⟩
set_option maxHeartbeats 1000000 in
theorem to_own2 (w : World) (v : Value) (L : Ls) (h : Rt.Reads w v L) (hl : L.length ≤ 1048576) :
    Calls Try.prog 6 #[v] w fun e w' => ∃ ad cap, e = .returned (.slice (some ad) L.length cap) ∧ Rt.Row w' w.heap.size (.slice (some ad) L.length cap) L ∧ Below w.heap.size w w' := by
  obtain ⟨i0, hi, hz0, hz1, hz2⟩ := info_parts Rt.Try.infoE
  have hcell : ∃ f : Nat → Nat × Nat, (∀ i, i < L.length → Rt.Cs w (f 0).1 (f 0).2 L i) ∧ (0 < L.length → (f 0).1 < w.heap.size ∧ ∃ cap, v = .slice (some ⟨(f 0).1, (f 0).2, none⟩) L.length cap) := by
    rcases h with ⟨rfl, _⟩ | ⟨b, o, cap, h1, h2, h3, h4, h5⟩
    · exact ⟨fun _ => (0, 0), fun i hi => by simp at hi, fun hi => by simp at hi⟩
    · exact ⟨fun _ => (b, o), h5, fun _ => ⟨h4, cap, h1⟩⟩
  obtain ⟨f, hc, hv⟩ := hcell
  obtain ⟨a, cap, rfl⟩ := h.form
  have HC : Hid (∀ i, i < L.length → Rt.Cs w (f 0).1 (f 0).2 L i) := hc
  have HV : Hid (0 < L.length → (f 0).1 < w.heap.size ∧ a = some ⟨(f 0).1, (f 0).2, none⟩) := fun hi => by
    obtain ⟨h1, c, h2⟩ := hv hi
    simp at h2
    exact ⟨h1, h2.1⟩
  obtain ⟨n, hn⟩ : ∃ n, n = L.length := ⟨_, rfl⟩
  unfold Rt.Row
  rw [← hn] at hl ⊢
  have HN : Hid (n = L.length) := hn
  clear h hc hv hn
  go_enter Try.func6, Try.ntmps6
  go_wp2_with (at_make; refine wpList_make_full _ rfl _ _ 24 rfl w.heap.size 46 i0 (.agg #[.string ⟨#[]⟩, .int .i64 0]) 2 Try.underlying24 hi hz0 hz1 .i64 .i64 (n : Int) (n : Int) n rfl rfl rfl rfl (by rw [hz2]; omega) (by unfold maxLen; omega) (Nat.le_refl _) ?_; intro w4 hown hgrow)
  have R0 : Hid (∃ xs, w4.ownsRow w.heap.size 46 2 (.slice (some ⟨w.heap.size, 0, none⟩) n n) n xs ∧ Rt.Good xs L 0) := ⟨_, hown, fun i hi => absurd hi (by omega)⟩
  have B0 : Hid (Below w.heap.size w w4) := (Below.refl _ _).grown hgrow (Nat.le_refl _) (fun k hk => by cases hk)
  clear hown hgrow
  go_loopw [4] (fun c wr => ∃ j : Nat, j ≤ n ∧ c = .int .i64 j ∧ Hid (∃ xs, wr.ownsRow w.heap.size 46 2 (.slice (some ⟨w.heap.size, 0, none⟩) n n) n xs ∧ Rt.Good xs L j) ∧ Hid (Below w.heap.size w wr)) (fun c _ => n - (intOf c).toNat)
  case atStart => exact ⟨0, Nat.zero_le _, rfl, R0, B0⟩
  case round =>
    obtain ⟨j, hj, rfl, R, BB⟩ := hrel
    by_cases hlt : j < n
    · have hlt' : j < L.length := by rw [← HN.out]; exact hlt
      obtain ⟨v1, v2⟩ := HV.out (by omega)
      subst v2
      have i0 : (0 : Int) ≤ (j : Int) := by omega
      have i1 : (j : Int) < (n : Int) := by omega
      obtain ⟨q0, q1⟩ : Rt.Cs wr (f 0).1 (f 0).2 L j := (HC.out j hlt').below BB.out v1
      obtain ⟨xs, RX, GX⟩ := R.out
      have RX' : Hid (wr.ownsRow w.heap.size 46 2 (.slice (some ⟨w.heap.size, 0, none⟩) n n) n xs) := RX
      have GX' : Hid (Rt.Good xs L j) := GX
      clear RX GX R
      generalize hx0 : c0 L j = x0 at *
      generalize hx1 : c1 L j = x1 at *
      have HX : Hid (c0 L j = x0 ∧ c1 L j = x1) := ⟨hx0, hx1⟩
      clear hx0 hx1
      go_wp2_with fail
      refine (to1_any _ _ _).mono ?_
      rintro e w5 ⟨rfl, hb5⟩
      have R5 : Hid (w5.ownsRow w.heap.size 46 2 (.slice (some ⟨w.heap.size, 0, none⟩) n n) n xs) := row_below RX'.out hb5
      have B5 : Hid (Below w.heap.size w w5) := BB.out.trans (hb5.mono BB.out.size)
      have lx : xs.length = n * 2 := R5.out.1
      obtain ⟨z0, p0⟩ : ∃ z, w5.cell? ⟨w.heap.size, j * 2, none⟩ = some z := ⟨xs[j * 2]'(by omega), by rw [R5.out.cellAt (j * 2) (by omega)]; exact List.getElem?_eq_getElem _⟩
      obtain ⟨z1, p1⟩ : ∃ z, w5.cell? ⟨w.heap.size, j * 2 + 1, none⟩ = some z := ⟨xs[j * 2 + 1]'(by omega), by rw [R5.out.cellAt (j * 2 + 1) (by omega)]; exact List.getElem?_eq_getElem _⟩
      have f0 : w5.frozen? ⟨w.heap.size, j * 2, none⟩ = false := R5.out.frozenAt _
      have f1 : w5.frozen? ⟨w.heap.size, j * 2 + 1, none⟩ = false := R5.out.frozenAt _
      have R6 : Hid (((w5.setCell ⟨w.heap.size, j * 2, none⟩ (.string x0)).setCell ⟨w.heap.size, j * 2 + 1, none⟩ (.int .i64 x1)).ownsRow w.heap.size 46 2 (.slice (some ⟨w.heap.size, 0, none⟩) n n) n ((xs.set (j * 2) (.string x0)).set (j * 2 + 1) (.int .i64 x1))) := ((R5.out.stored (j * 2) _).1.stored (j * 2 + 1) _).1
      have G6 : Hid (Rt.Good ((xs.set (j * 2) (.string x0)).set (j * 2 + 1) (.int .i64 x1)) L (j + 1)) := (by show Rt.Good _ _ _; rw [← HX.out.1, ← HX.out.2]; exact GX'.out.next (by omega))
      have B6 : Hid (Below w.heap.size w ((w5.setCell ⟨w.heap.size, j * 2, none⟩ (.string x0)).setCell ⟨w.heap.size, j * 2 + 1, none⟩ (.int .i64 x1))) := ((B5.out.setCell (Nat.le_refl _) _).setCell (Nat.le_refl _) _)
      clear hb5 lx
      go_wp2_with fail
      go_roundw
      case rel => exact ⟨j + 1, by omega, by go_num, ⟨_, R6.out, G6.out⟩, B6⟩
      case measure => simp [intOf]; omega
    · have hjn : j = n := by omega
      subst hjn
      have RE : Hid (∃ xs, wr.ownsRow w.heap.size 46 2 (.slice (some ⟨w.heap.size, 0, none⟩) j j) j xs ∧ Rt.Good xs L j) := R
      clear R
      go_wp2_with fail
      go_ret
      exact ⟨_, _, rfl, RE.out, BB.out⟩

end Go.Proofs.Ytmmhmbbfeecloaa.Nc
