/- Jobs: copied, measured. A run as it comes in: measured, copied. -/
import Derived.Test.YtpdmfhbpedimaaaJb
import Derived.Test.YtpdmfhbpedimaaaSv
import Derived.Test.YtpdmfhbpedimaaaPg
namespace Go.Proofs.Ytpdmfhbpedimaaa.Jb
open Go.ChangeShapes Go.WideShapes Go.ChangeAt Go.RowKit

set_option maxHeartbeats 1000000 in
theorem to1_any (x0 : Int) (x1 : Int) (w : World) : Calls Try.prog 53 #[.agg #[.int .i64 x0, .int .i64 x1]] w fun e w' => e = .returned (.agg #[.int .i64 x0, .int .i64 x1]) ∧ Below w.heap.size w w' := by
  go_enter Try.func53, Try.ntmps53
  go_wp2
  refine bodyPost_ret (v := .agg #[.int .i64 x0, .int .i64 x1]) (by simp [results, Try.results53, go_sem]) rfl ⟨rfl, ?_⟩
  exact (((Below.refl _ _).alloc (Nat.le_refl _) _).alloc (by simp) _).alloc (by simp; omega) _

theorem Try.infoE : (Try.prog.info? 57).map (fun i => (i.zero, i.size, i.bytes)) = some (some (.agg #[.int .i64 0, .int .i64 0]), 2, 16) := by kernel_rfl
set_option maxHeartbeats 1000000 in
theorem to_own (w : World) (v : Value) (L : Ls) (h : Reads w v L) (hl : L.length ≤ 1048576) :
    Calls Try.prog 33 #[v] w fun e w' => ∃ v', e = .returned v' ∧ Row w' w.heap.size v' L ∧ Below w.heap.size w w' := by
  obtain ⟨i0, hi, hz0, hz1, hz2⟩ := info_parts Try.infoE
  have hcell : ∃ f : Nat → Nat × Nat, (∀ i, i < L.length → Cs w (f 0).1 (f 0).2 L i) ∧ (0 < L.length → (f 0).1 < w.heap.size ∧ ∃ cap, v = .slice (some ⟨(f 0).1, (f 0).2, none⟩) L.length cap) := by
    rcases h with ⟨rfl, _⟩ | ⟨b, o, cap, h1, h2, h3, h4, h5⟩
    · exact ⟨fun _ => (0, 0), fun i hi => by simp at hi, fun hi => by simp at hi⟩
    · exact ⟨fun _ => (b, o), h5, fun _ => ⟨h4, cap, h1⟩⟩
  obtain ⟨f, hc, hv⟩ := hcell
  obtain ⟨a, cap, rfl⟩ := h.form
  have HC : Hid (∀ i, i < L.length → Cs w (f 0).1 (f 0).2 L i) := hc
  have HV : Hid (0 < L.length → (f 0).1 < w.heap.size ∧ a = some ⟨(f 0).1, (f 0).2, none⟩) := fun hi => by
    obtain ⟨h1, c, h2⟩ := hv hi
    simp at h2
    exact ⟨h1, h2.1⟩
  obtain ⟨n, hn⟩ : ∃ n, n = L.length := ⟨_, rfl⟩
  unfold Row
  rw [← hn] at hl ⊢
  have HN : Hid (n = L.length) := hn
  clear h hc hv hn
  go_enter Try.func33, Try.ntmps33
  go_wp2_with (at_make; refine wpList_make_full _ rfl _ _ 33 rfl w.heap.size 57 i0 (.agg #[.int .i64 0, .int .i64 0]) 2 Try.underlying33 hi hz0 hz1 .i64 .i64 (n : Int) (n : Int) n rfl rfl rfl rfl (by rw [hz2]; omega) (by unfold maxLen; omega) (Nat.le_refl _) ?_; intro w4 hown hgrow)
  have R0 : Hid (∃ xs, w4.ownsRow w.heap.size 57 2 (.slice (some ⟨w.heap.size, 0, none⟩) n n) n xs ∧ Good xs L 0) := ⟨_, hown, fun i hi => absurd hi (by omega)⟩
  have B0 : Hid (Below w.heap.size w w4) := (Below.refl _ _).grown hgrow (Nat.le_refl _) (fun k hk => by cases hk)
  clear hown hgrow
  go_loopw [4] (fun c wr => ∃ j : Nat, j ≤ n ∧ c = .int .i64 j ∧ Hid (∃ xs, wr.ownsRow w.heap.size 57 2 (.slice (some ⟨w.heap.size, 0, none⟩) n n) n xs ∧ Good xs L j) ∧ Hid (Below w.heap.size w wr)) (fun c _ => n - (intOf c).toNat)
  case atStart => exact ⟨0, Nat.zero_le _, rfl, R0, B0⟩
  case round =>
    obtain ⟨j, hj, rfl, R, BB⟩ := hrel
    by_cases hlt : j < n
    · have hlt' : j < L.length := by rw [← HN.out]; exact hlt
      obtain ⟨v1, v2⟩ := HV.out (by omega)
      subst v2
      have i0 : (0 : Int) ≤ (j : Int) := by omega
      have i1 : (j : Int) < (n : Int) := by omega
      obtain ⟨q0, q1⟩ : Cs wr (f 0).1 (f 0).2 L j := (HC.out j hlt').below BB.out v1
      obtain ⟨xs, RX, GX⟩ := R.out
      have RX' : Hid (wr.ownsRow w.heap.size 57 2 (.slice (some ⟨w.heap.size, 0, none⟩) n n) n xs) := RX
      have GX' : Hid (Good xs L j) := GX
      clear RX GX R
      generalize hx0 : c0 L j = x0 at *
      generalize hx1 : c1 L j = x1 at *
      have HX : Hid (c0 L j = x0 ∧ c1 L j = x1) := ⟨hx0, hx1⟩
      clear hx0 hx1
      go_wp2_with fail
      refine (to1_any _ _ _).mono ?_
      rintro e w5 ⟨rfl, hb5⟩
      have R5 : Hid (w5.ownsRow w.heap.size 57 2 (.slice (some ⟨w.heap.size, 0, none⟩) n n) n xs) := row_below RX'.out hb5
      have B5 : Hid (Below w.heap.size w w5) := BB.out.trans (hb5.mono BB.out.size)
      have lx : xs.length = n * 2 := R5.out.1
      obtain ⟨z0, p0⟩ : ∃ z, w5.cell? ⟨w.heap.size, j * 2, none⟩ = some z := ⟨xs[j * 2]'(by omega), by rw [R5.out.cellAt (j * 2) (by omega)]; exact List.getElem?_eq_getElem _⟩
      obtain ⟨z1, p1⟩ : ∃ z, w5.cell? ⟨w.heap.size, j * 2 + 1, none⟩ = some z := ⟨xs[j * 2 + 1]'(by omega), by rw [R5.out.cellAt (j * 2 + 1) (by omega)]; exact List.getElem?_eq_getElem _⟩
      have f0 : w5.frozen? ⟨w.heap.size, j * 2, none⟩ = false := R5.out.frozenAt _
      have f1 : w5.frozen? ⟨w.heap.size, j * 2 + 1, none⟩ = false := R5.out.frozenAt _
      have R6 : Hid (((w5.setCell ⟨w.heap.size, j * 2, none⟩ (.int .i64 x0)).setCell ⟨w.heap.size, j * 2 + 1, none⟩ (.int .i64 x1)).ownsRow w.heap.size 57 2 (.slice (some ⟨w.heap.size, 0, none⟩) n n) n ((xs.set (j * 2) (.int .i64 x0)).set (j * 2 + 1) (.int .i64 x1))) := ((R5.out.stored (j * 2) _).1.stored (j * 2 + 1) _).1
      have G6 : Hid (Good ((xs.set (j * 2) (.int .i64 x0)).set (j * 2 + 1) (.int .i64 x1)) L (j + 1)) := (by show Good _ _ _; rw [← HX.out.1, ← HX.out.2]; exact GX'.out.next (by omega))
      have B6 : Hid (Below w.heap.size w ((w5.setCell ⟨w.heap.size, j * 2, none⟩ (.int .i64 x0)).setCell ⟨w.heap.size, j * 2 + 1, none⟩ (.int .i64 x1))) := ((B5.out.setCell (Nat.le_refl _) _).setCell (Nat.le_refl _) _)
      clear hb5 lx
      go_wp2_with fail
      go_roundw
      case rel => exact ⟨j + 1, by omega, by go_num, ⟨_, R6.out, G6.out⟩, B6⟩
      case measure => simp [intOf]; omega
    · have hjn : j = n := by omega
      subst hjn
      have RE : Hid (∃ xs, wr.ownsRow w.heap.size 57 2 (.slice (some ⟨w.heap.size, 0, none⟩) j j) j xs ∧ Good xs L j) := R
      clear R
      go_wp2_with fail
      go_ret
      exact ⟨_, rfl, RE.out, BB.out⟩

set_option maxHeartbeats 1000000 in
theorem sz_far (a : Option Addr) (n cap : Nat) (l : Int) (w : World) (h0 : 0 ≤ l) (hl : l ≤ 1048576) (h : l < n) (hn : n < 9223372036854775808) : Calls Try.prog 27 #[.slice a n cap, .int .i64 l] w fun e w' => e = .returned (.int .i64 (-1)) ∧ w' = w := by
  have i1 : l - (n : Int) < 0 := by omega
  have i2 : IntKind.i64.wrap (l - (n : Int)) = l - (n : Int) := IntWalk.i64_in _ (by omega)
  go_enter Try.func27, Try.ntmps27
  go_wp2
  go_ret
  exact ⟨rfl, rfl⟩
set_option maxHeartbeats 1000000 in
theorem sz_near (a : Option Addr) (n cap : Nat) (l : Int) (w : World) (hl : l ≤ 1048576) (h : n ≤ l) : Calls Try.prog 27 #[.slice a n cap, .int .i64 l] w fun e w' => e = .returned (.int .i64 (l - (n : Int))) ∧ w' = w := by
  have i1 : ¬ l - (n : Int) < 0 := by omega
  have i2 : IntKind.i64.wrap (l - (n : Int)) = l - (n : Int) := IntWalk.i64_in _ (by omega)
  go_enter Try.func27, Try.ntmps27
  go_wp2
  go_ret
  exact ⟨rfl, rfl⟩

end Go.Proofs.Ytpdmfhbpedimaaa.Jb

namespace Go.Proofs.Ytpdmfhbpedimaaa.Ty
open Go.ChangeShapes Go.WideShapes Go.ChangeAt Go.RowKit
open Go.Proofs.Ytpdmfhbpedimaaa.Lists Go.Proofs.Ytpdmfhbpedimaaa.Tm Go.Proofs.Ytpdmfhbpedimaaa.Rk Go.Proofs.Ytpdmfhbpedimaaa.Ru Go.Proofs.Ytpdmfhbpedimaaa.Al
/-- what a small run is like -/
def Sm (R : Tk.Ls) (X : List Int) (J : Jb.Ls) : Prop := R.length ≤ 1048576 ∧ (∀ i, i < R.length → (Tk.cl R i).length ≤ 1048576) ∧ X.length ≤ 1048576 ∧ J.length ≤ 1048576
theorem szj_any (a : Option Addr) (n cap : Nat) (l : Int) (w : World) (h0 : 0 ≤ l) (h1 : l ≤ 1048576) (hn : n < 9223372036854775808) :
    Calls Try.prog 27 #[.slice a n cap, .int .i64 l] w fun e w' => (∃ r : Int, e = .returned (.int .i64 r) ∧ (0 ≤ r → n ≤ 1048576) ∧ r ≤ 1048576) ∧ w' = w := by
  by_cases h : l < n
  · refine (Jb.sz_far a n cap l w h0 h1 h hn).mono ?_
    rintro e w' ⟨rfl, rfl⟩
    exact ⟨⟨-1, rfl, fun x => by omega, by omega⟩, rfl⟩
  · refine (Jb.sz_near a n cap l w h1 (by omega)).mono ?_
    rintro e w' ⟨rfl, rfl⟩
    exact ⟨⟨_, rfl, fun _ => by omega, by omega⟩, rfl⟩
set_option maxHeartbeats 1000000 in
theorem szR_any (R : Tk.Ls) (X : List Int) (now : Int) (J : Jb.Ls) (vr vx vj : Value) (w : World) (hh : RR w vr vx vj R X J) :
    Calls Try.prog 8 #[rv vr vx now vj, .int .i64 1048576] w fun e w' => (∃ z : Int, e = .returned (.int .i64 z) ∧ (0 ≤ z → Sm R X J)) ∧ Below w.heap.size w w' := by
  obtain ⟨ar, cr, er⟩ := hh.1.form
  obtain ⟨ax, cx, ex⟩ := hh.2.1.form
  obtain ⟨aj, cj, ej⟩ := hh.2.2.form
  have fX := Tk.lfits hh.2.1
  have fJ := hh.2.2.fits
  obtain ⟨w0, hw0⟩ : ∃ w0, w0 = w.alloc (.cells #[vr, vx, .int .i64 now, vj] 28) := ⟨_, rfl⟩
  have HW0 : Hid (w0 = w.alloc (.cells #[vr, vx, .int .i64 now, vj] 28)) := hw0
  have B0 : Hid (Below w.heap.size w w0) := (by show Below _ _ _; rw [hw0]; exact (Below.refl _ _).alloc (Nat.le_refl _) _)
  have Y0 : Hid (Bl w0 w.heap.size 28 #[vr, vx, .int .i64 now, vj]) := (by show Bl _ _ _ _; rw [hw0]; exact Bl.new w 28 _)
  subst er ex ej
  have C1 : Hid (Calls Try.prog 26 #[Su.pv (.slice ar R.length cr) (.slice ax X.length cx), .int .i64 1048576] w0 fun e w' => (∃ r : Int, e = .returned (.int .i64 r) ∧ (0 ≤ r → R.length ≤ 1048576 ∧ (∀ i, i < R.length → (Tk.cl R i).length ≤ 1048576) ∧ X.length ≤ 1048576) ∧ r ≤ 1048576) ∧ Below w0.heap.size w0 w') := Su.sz_any ax X.length cx (.slice ar R.length cr) R 1048576 w0 (by omega) (by omega) fX (hh.1.on B0.out)
  have C2 : Hid (∀ (l : Int) W, 0 ≤ l → l ≤ 1048576 → Calls Try.prog 27 #[.slice aj J.length cj, .int .i64 l] W fun e w' => (∃ r : Int, e = .returned (.int .i64 r) ∧ (0 ≤ r → J.length ≤ 1048576) ∧ r ≤ 1048576) ∧ w' = W) := fun l W h0 h1 => szj_any aj J.length cj l W h0 h1 fJ
  have SM : Hid (R.length ≤ 1048576 ∧ (∀ i, i < R.length → (Tk.cl R i).length ≤ 1048576) ∧ X.length ≤ 1048576 → J.length ≤ 1048576 → Sm R X J) := fun a b => ⟨a.1, a.2.1, a.2.2, b⟩
  have y0 : w0.cell? ⟨w.heap.size, 0, none⟩ = some (.slice ar R.length cr) := (Y0.out.cell 0).trans rfl
  have y1 : w0.cell? ⟨w.heap.size, 1, none⟩ = some (.slice ax X.length cx) := (Y0.out.cell 1).trans rfl
  clear hh hw0 fX fJ
  obtain ⟨Q, hQ⟩ : ∃ Q : Prop, Q = (R.length ≤ 1048576 ∧ (∀ i, i < R.length → (Tk.cl R i).length ≤ 1048576) ∧ X.length ≤ 1048576) := ⟨_, rfl⟩
  rw [← hQ] at C1 SM
  clear hQ
  obtain ⟨Z, hZ⟩ : ∃ Z : Prop, Z = Sm R X J := ⟨_, rfl⟩
  rw [← hZ] at SM ⊢
  clear hZ
  generalize R.length = n at *
  generalize X.length = m at *
  generalize J.length = k at *
  go_enter Try.func8, Try.ntmps8
  go_wp2_with fail
  rw [← HW0.out]
  refine (Calls.mono C1.out) ?_
  rintro e w1 ⟨⟨z, rfl, hz, hz2⟩, b⟩
  have B1 : Hid (Below w.heap.size w w1) := B0.out.trans (b.mono B0.out.size)
  have Y1 : Hid (Bl w1 w.heap.size 28 #[.slice ar n cr, .slice ax m cx, .int .i64 now, .slice aj k cj]) := Y0.out.on b
  have HZ : Hid (0 ≤ z → Q) := hz
  clear y0 y1 b HW0 Y0 hz
  by_cases hneg : z < 0
  · go_wp2_with fail
    go_ret
    exact ⟨⟨-1, rfl, fun x => by omega⟩, B1.out⟩
  · have y3 : w1.cell? ⟨w.heap.size, 3, none⟩ = some (.slice aj k cj) := (Y1.out.cell 3).trans rfl
    have z0 : 0 ≤ z := by omega
    go_wp2_with fail
    refine (C2.out z w1 z0 hz2).mono ?_
    rintro e w2 ⟨⟨z2, rfl, hz3, hz4⟩, hw2⟩
    subst w2
    have HZ2 : Hid (0 ≤ z2 → k ≤ 1048576) := hz3
    clear hz3
    by_cases hneg2 : z2 < 0
    · go_wp2_with fail
      go_ret
      exact ⟨⟨-1, rfl, fun x => by omega⟩, B1.out⟩
    · go_wp2_with fail
      go_ret
      exact ⟨⟨z2, rfl, fun x => SM.out (HZ.out z0) (HZ2.out x)⟩, B1.out⟩
set_option maxHeartbeats 2000000 in
theorem toR_any (R : Tk.Ls) (X : List Int) (now : Int) (J : Jb.Ls) (vr vx vj : Value) (w : World) (hh : RR w vr vx vj R X J) (hs : Sm R X J) :
    Calls Try.prog 10 #[rv vr vx now vj] w fun e w' => ∃ ra rc xa xc ja jc, e = .returned (rv (.slice ra R.length rc) (.slice xa X.length xc) now (.slice ja J.length jc)) ∧ (∃ xs, RO w' w.heap.size (.slice ra R.length rc) (.slice xa X.length xc) (.slice ja J.length jc) xs R X J) ∧ Below w.heap.size w w' := by
  obtain ⟨ar, cr, er⟩ := hh.1.form
  obtain ⟨ax, cx, ex⟩ := hh.2.1.form
  obtain ⟨aj, cj, ej⟩ := hh.2.2.form
  obtain ⟨w0, hw0⟩ : ∃ w0, w0 = ((w.alloc (.cells #[vr, vx, .int .i64 now, vj] 28)).alloc (.cells z35 35)).alloc (.cells z35 35) := ⟨_, rfl⟩
  have HW0 : Hid (w0 = ((w.alloc (.cells #[vr, vx, .int .i64 now, vj] 28)).alloc (.cells z35 35)).alloc (.cells z35 35)) := hw0
  have B0 : Hid (Below w.heap.size w w0) := (by show Below _ _ _; rw [hw0]; exact (((Below.refl _ _).alloc (Nat.le_refl _) _).alloc (by simp) _).alloc (by simp; omega) _)
  have Z0 : Hid (w0.heap.size = w.heap.size + 3) := (by show _ = _; rw [hw0]; simp)
  have A0 : Hid (Bl w0 w.heap.size 28 #[vr, vx, .int .i64 now, vj]) := (by show Bl _ _ _ _; rw [hw0]; exact ((Bl.new w 28 _).on ((Below.refl _ _).alloc (Nat.le_refl _) _)).on ((Below.refl _ _).alloc (Nat.le_refl _) _))
  have R0 : Hid (Bl w0 (w.heap.size + 1) 35 z35) := (by
    show Bl _ _ _ _
    rw [hw0]
    have := (Bl.new (w.alloc (.cells #[vr, vx, .int .i64 now, vj] 28)) 35 z35).on ((Below.refl _ _).alloc (Nat.le_refl _) (.cells z35 35))
    have e : (w.alloc (.cells #[vr, vx, .int .i64 now, vj] 28)).heap.size = w.heap.size + 1 := by simp
    rw [e] at this
    exact this)
  have O0 : Hid (Bl w0 (w.heap.size + 2) 35 z35) := (by
    show Bl _ _ _ _
    rw [hw0]
    have := Bl.new ((w.alloc (.cells #[vr, vx, .int .i64 now, vj] 28)).alloc (.cells z35 35)) 35 z35
    have e : ((w.alloc (.cells #[vr, vx, .int .i64 now, vj] 28)).alloc (.cells z35 35)).heap.size = w.heap.size + 2 := by simp
    rw [e] at this
    exact this)
  subst er ex ej
  obtain ⟨s1, s2, s3, s4⟩ := hs
  have C1 : Hid (Calls Try.prog 32 #[Su.pv (.slice ar R.length cr) (.slice ax X.length cx)] w0 fun e w' => ∃ ra rc ta tc, e = .returned (Su.pv (.slice ra R.length rc) (.slice ta X.length tc)) ∧ (∃ xs, SO w' w0.heap.size (.slice ra R.length rc) (.slice ta X.length tc) xs R X) ∧ Below w0.heap.size w0 w') := (Sv.toO_any R X _ _ w0 (hh.1.on B0.out) (hh.2.1.on B0.out) s1 s2 s3).mono (by rintro e w' ⟨ra, rc, ta, tc, xs, rfl, h1, h2⟩; exact ⟨ra, rc, ta, tc, rfl, ⟨xs, h1⟩, h2⟩)
  have C2 : Hid (∀ W, Below w.heap.size w W → Calls Try.prog 33 #[.slice aj J.length cj] W fun e w' => ∃ ja jc, e = .returned (.slice ja J.length jc) ∧ Jb.Row w' W.heap.size (.slice ja J.length jc) J ∧ Below W.heap.size W w') := fun W hb => (Jb.to_own W _ J (hh.2.2.on hb) s4).mono (by
    rintro e w' ⟨v', rfl, h1, h2⟩
    obtain ⟨ja, jc, rfl⟩ := h1.form
    exact ⟨ja, jc, rfl, h1, h2⟩)
  have y0 : w0.cell? ⟨w.heap.size, 0, none⟩ = some (.slice ar R.length cr) := (A0.out.cell 0).trans rfl
  have y1 : w0.cell? ⟨w.heap.size, 1, none⟩ = some (.slice ax X.length cx) := (A0.out.cell 1).trans rfl
  obtain ⟨n, hn⟩ : ∃ n, R.length = n := ⟨_, rfl⟩
  obtain ⟨m, hm⟩ : ∃ m, X.length = m := ⟨_, rfl⟩
  obtain ⟨k, hk⟩ : ∃ k, J.length = k := ⟨_, rfl⟩
  simp only [hn, hm, hk] at C1 C2 y0 y1 HW0 A0 ⊢
  have HN : Hid (R.length = n) := hn
  clear hh hw0 s1 s2 s3 s4 hn hm hk
  go_enter Try.func10, Try.ntmps10
  go_wp2_with fail
  rw [← HW0.out]
  refine (Calls.mono C1.out) ?_
  rintro e w1 ⟨ra, rc, xa, xc, rfl, ⟨xs, p1⟩, b⟩
  have B1 : Below w.heap.size w w1 := B0.out.trans (b.mono B0.out.size)
  have A1 := A0.out.on b
  have R1 := R0.out.on b
  have O1 := O0.out.on b
  have g0 : w1.cell? ⟨w.heap.size + 2, 0, none⟩ = some nilS := (O1.cell 0).trans rfl
  have g1 : w1.cell? ⟨w.heap.size + 2, 1, none⟩ = some nilS := (O1.cell 1).trans rfl
  have g2 : w1.cell? ⟨w.heap.size + 2, 2, none⟩ = some (.int .i64 0) := (O1.cell 2).trans rfl
  have v0 := O1.fz 0
  have v1 := O1.fz 1
  have v2 := O1.fz 2
  have x2 : w1.cell? ⟨w.heap.size, 2, none⟩ = some (.int .i64 now) := (A1.cell 2).trans rfl
  have x3 : w1.cell? ⟨w.heap.size, 3, none⟩ = some (.slice aj k cj) := (A1.cell 3).trans rfl
  obtain ⟨w2, hw2⟩ : ∃ y, y = ((w1.setCell ⟨w.heap.size + 2, 0, none⟩ (.slice ra n rc)).setCell ⟨w.heap.size + 2, 1, none⟩ (.slice xa m xc)).setCell ⟨w.heap.size + 2, 2, none⟩ (.int .i64 now) := ⟨_, rfl⟩
  have HW2 : Hid (w2 = ((w1.setCell ⟨w.heap.size + 2, 0, none⟩ (.slice ra n rc)).setCell ⟨w.heap.size + 2, 1, none⟩ (.slice xa m xc)).setCell ⟨w.heap.size + 2, 2, none⟩ (.int .i64 now)) := hw2
  have K2 : KB (fun b => b = w.heap.size + 2) w1 w2 := by rw [hw2]; exact ((kb_set w1 _ 0 _).trans (kb_set _ _ 1 _)).trans (kb_set _ _ 2 _)
  have B2 : Hid (Below w.heap.size w w2) := B1.trans (K2.below B1.size (fun b hb => by have hb' : b = w.heap.size + 2 := hb; omega))
  have A2 : Hid (Bl w2 w.heap.size 28 #[.slice ar n cr, .slice ax m cx, .int .i64 now, .slice aj k cj]) := A1.kb K2 (fun e => by have e' : w.heap.size = w.heap.size + 2 := e; omega)
  have R2 : Hid (Bl w2 (w.heap.size + 1) 35 z35) := R1.kb K2 (fun e => by have e' : w.heap.size + 1 = w.heap.size + 2 := e; omega)
  have O2 : Hid (Bl w2 (w.heap.size + 2) 35 #[.slice ra n rc, .slice xa m xc, .int .i64 now, nilS]) := (by show Bl _ _ _ _; rw [hw2]; exact ((O1.set 0 _).set 1 _).set 2 _)
  have P2 : Hid (SO w2 (w.heap.size + 3) (.slice ra n rc) (.slice xa m xc) xs R X) := (by
    have q := so_down p1 (B' := w.heap.size + 3) (by have := Z0.out; omega)
    exact q.kb K2 (fun g hg e => by have e' : g = w.heap.size + 2 := e; have := (q.bs g hg).1; omega))
  have Z2 : Hid (w.heap.size + 3 ≤ w2.heap.size) := (by have := Z0.out; have := b.size; have := K2.size; show _ ≤ _; omega)
  clear hw2 K2 B1 A1 R1 O1 p1 b y0 y1 B0 A0 R0 O0 HW0
  go_upto_region 4 with fail
  rw [← HW2.out]
  clear HW2 g0 g1 g2 v0 v1 v2 x2 x3
  have x3 : w2.cell? ⟨w.heap.size, 3, none⟩ = some (.slice aj k cj) := (A2.out.cell 3).trans rfl
  go_wp2_with fail
  refine (C2.out w2 B2.out).mono ?_
  rintro e w3 ⟨ja, jc, rfl, p3, b3⟩
  have B3 : Below w.heap.size w w3 := B2.out.trans (b3.mono B2.out.size)
  have R3 := R2.out.on b3
  have O3 := O2.out.on b3
  have P3 := P2.out.on b3
  have J3 := jr_down p3 Z2.out
  have g0 : w3.cell? ⟨w.heap.size + 2, 0, none⟩ = some (.slice ra n rc) := (O3.cell 0).trans rfl
  have g1 : w3.cell? ⟨w.heap.size + 2, 1, none⟩ = some (.slice xa m xc) := (O3.cell 1).trans rfl
  have g2 : w3.cell? ⟨w.heap.size + 2, 2, none⟩ = some (.int .i64 now) := (O3.cell 2).trans rfl
  have g3 : w3.cell? ⟨w.heap.size + 2, 3, none⟩ = some nilS := (O3.cell 3).trans rfl
  have v3 := O3.fz 3
  obtain ⟨w4, hw4⟩ : ∃ y, y = w3.setCell ⟨w.heap.size + 2, 3, none⟩ (.slice ja k jc) := ⟨_, rfl⟩
  have HW4 : Hid (w4 = w3.setCell ⟨w.heap.size + 2, 3, none⟩ (.slice ja k jc)) := hw4
  have K4 : KB (fun b => b = w.heap.size + 2) w3 w4 := by rw [hw4]; exact kb_set w3 _ 3 _
  have B4 : Hid (Below w.heap.size w w4) := B3.trans (K4.below B3.size (fun b hb => by have hb' : b = w.heap.size + 2 := hb; omega))
  have R4 : Hid (Bl w4 (w.heap.size + 1) 35 z35) := R3.kb K4 (fun e => by have e' : w.heap.size + 1 = w.heap.size + 2 := e; omega)
  have O4 : Hid (Bl w4 (w.heap.size + 2) 35 #[.slice ra n rc, .slice xa m xc, .int .i64 now, .slice ja k jc]) := (by show Bl _ _ _ _; rw [hw4]; exact O3.set 3 _)
  have P4 : Hid (RO w4 (w.heap.size + 3) (.slice ra n rc) (.slice xa m xc) (.slice ja k jc) xs R X J) := (by
    have q : RO w3 (w.heap.size + 3) (.slice ra n rc) (.slice xa m xc) (.slice ja k jc) xs R X J := ⟨P3, J3⟩
    exact q.kb K4 (fun g hg e => by have e' : g = w.heap.size + 2 := e; have := (q.bs g hg).1; omega))
  clear hw4 K4 B3 R3 O3 P3 J3 p3 b3 x3
  go_upto_region 5 with fail
  rw [← HW4.out]
  clear HW4 g0 g1 g2 g3 v3
  have g0 : w4.cell? ⟨w.heap.size + 2, 0, none⟩ = some (.slice ra n rc) := (O4.out.cell 0).trans rfl
  have g1 : w4.cell? ⟨w.heap.size + 2, 1, none⟩ = some (.slice xa m xc) := (O4.out.cell 1).trans rfl
  have g2 : w4.cell? ⟨w.heap.size + 2, 2, none⟩ = some (.int .i64 now) := (O4.out.cell 2).trans rfl
  have g3 : w4.cell? ⟨w.heap.size + 2, 3, none⟩ = some (.slice ja k jc) := (O4.out.cell 3).trans rfl
  have z0 : w4.cell? ⟨w.heap.size + 1, 0, none⟩ = some nilS := (R4.out.cell 0).trans rfl
  have z1 : w4.cell? ⟨w.heap.size + 1, 1, none⟩ = some nilS := (R4.out.cell 1).trans rfl
  have z2 : w4.cell? ⟨w.heap.size + 1, 2, none⟩ = some (.int .i64 0) := (R4.out.cell 2).trans rfl
  have z3 : w4.cell? ⟨w.heap.size + 1, 3, none⟩ = some nilS := (R4.out.cell 3).trans rfl
  have f0 := R4.out.fz 0
  have f1 := R4.out.fz 1
  have f2 := R4.out.fz 2
  have f3 := R4.out.fz 3
  go_wp2_with fail
  refine bodyPost_ret (v := rv (.slice ra n rc) (.slice xa m xc) now (.slice ja k jc)) (by simp [results, Try.results10, go_sem, z0, z1, z2, z3]) rfl ⟨ra, rc, xa, xc, ja, jc, rfl, ⟨xs, ?_⟩, bel4 B4.out (by omega) _ _ _ _⟩
  exact ro_down (ro_off (e := 35) P4.out (kb4 w4 (w.heap.size + 1) _ _ _ _) R4.out.ty (by decide)) (by omega)
end Go.Proofs.Ytpdmfhbpedimaaa.Ty
