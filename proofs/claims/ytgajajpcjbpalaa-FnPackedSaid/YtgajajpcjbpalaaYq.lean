/- The law FnExactPack, walked. -/
import Derived.Test.YtgajajpcjbpalaaYp
namespace Go.Proofs.Ytgajajpcjbpalaa.Pkd
open Go.ChangeShapes Go.WideShapes Go.ChangeAt Go.RowKit
open Go.Proofs.Ytgajajpcjbpalaa.Lists Go.Proofs.Ytgajajpcjbpalaa.Flt Go.Proofs.Ytgajajpcjbpalaa.Fls


/-- A Packed in a box of its own, its lists behind it. -/
structure Bx (wx : World) (p : Pk) (g A : Nat) (tv cv : Value) : Prop where
  bx : Box7 wx g (.int .i64 p.cnt) (.int .i64 p.dec) (.int .i64 p.ref) (.int .i64 p.exp) (.int .i64 p.bits) tv cv
  rt : wx.ownsRow A 5 1 tv p.th.length (Bytes.bys p.th)
  rc : wx.ownsRow A 2 1 cv p.cd.length (ints p.cd)
theorem Bx.lt {wx : World} {p : Pk} {g A : Nat} {tv cv : Value} (h : Bx wx p g A tv cv) : g < wx.heap.size := World.block_lt_of_cell? wx ⟨g, 0, none⟩ h.bx.1
theorem Bx.on {wx wy : World} {p : Pk} {g A : Nat} {tv cv : Value} (h : Bx wx p g A tv cv) (hb : Below wx.heap.size wx wy) : Bx wy p g A tv cv :=
  ⟨h.bx.on hb h.lt, row_later h.rt hb (Nat.le_refl _), row_later h.rc hb (Nat.le_refl _)⟩
theorem Bx.apart {wx wy : World} {p : Pk} {g A : Nat} {tv cv : Value} {row : Option Nat} (h : Bx wx p g A tv cv) (hg : wx.grownBy wy row) (h1 : ∀ k, row = some k → g ≠ k) (h2 : ∀ k, row = some k → tv.ownBlock ≠ some k) (h3 : ∀ k, row = some k → cv.ownBlock ≠ some k) : Bx wy p g A tv cv :=
  ⟨h.bx.apart hg h1, row_apart_e h.rt hg (fun k j hk hj e => h2 j hj (by rw [hk, e])), row_apart_e h.rc hg (fun k j hk hj e => h3 j hj (by rw [hk, e]))⟩
theorem res_len {L : List Nat} {b dec c : Int} {p : Pk} (h : Res L b dec p c) : p.th.length ≤ 4096 ∧ p.cd.length ≤ 4096 := by
  rcases h with ⟨_, rfl, _⟩ | ⟨_, _, rfl, _⟩ | ⟨ho, _, _, r, e, cd, hk, rfl⟩
  · exact ⟨Nat.zero_le _, Nat.zero_le _⟩
  · exact ⟨Nat.zero_le _, Nat.zero_le _⟩
  · have hl : L.length ≤ 4096 := by unfold okA at ho; simp at ho; omega
    have hcd : cd.length ≤ 4096 := by
      rcases hk with ⟨_, _, _, h⟩ | ⟨M, _, _, _, h⟩
      · rw [h]; exact Nat.zero_le _
      · rw [h, List.length_map, ws_len]; have := rl_le L; omega
    refine ⟨?_, hcd⟩
    show (if (rl L).length < L.length then ths L else []).length ≤ 4096
    split
    · rw [ths_len]; exact hl
    · exact Nat.zero_le _
theorem below_grown {B : Nat} {w wx wy : World} {row : Option Nat} (h : Below B w wx) (hs : B ≤ wx.heap.size) (hg : wx.grownBy wy row) (hr : ∀ k, row = some k → B ≤ k) : Below B w wy := h.grown hg hs hr

set_option maxHeartbeats 2000000 in
theorem packLaw (v : Value) (L : List Nat) (b dec : Int) (w : World) (hR : Fls.Reads w v L) (hm : L.length < 9223372036854775808) :
    Calls Try.prog 3 #[v, .int .i64 b, .int .i64 dec] w fun e w' => e = .returned (.bool true) ∧ Below w.heap.size w w' := by
  obtain ⟨va, vc, ev⟩ := hR.form
  obtain ⟨n, hn⟩ : ∃ n, n = L.length := ⟨_, rfl⟩
  have HN : Hid (n = L.length) := hn
  rw [← hn] at ev hm
  by_cases hbig : 1048576 < n
  · subst ev
    have l1 : (1048576 : Int) < (n : Int) := by omega
    clear hR hn HN
    go_enter Try.func3, Try.ntmps3
    go_wp2_with fail
    go_ret
    exact ⟨rfl, Below.refl _ _⟩
  have hn2 : n ≤ 1048576 := by omega
  have TO : Hid (∀ wx, Below w.heap.size w wx → Calls Try.prog 6 #[v] wx fun e w' => e = .returned (.slice (some ⟨wx.heap.size, 0, none⟩) n n) ∧ w'.ownsRow wx.heap.size 40 1 (.slice (some ⟨wx.heap.size, 0, none⟩) n n) n (flts L) ∧ Below wx.heap.size wx w') := fun wx hb => (by rw [hn]; exact fto_own wx v L (hR.on hb) (by omega))
  have SP : Hid (∀ (wx : World) (s : Value) (B : Nat), wx.ownsRow B 40 1 s n (flts L) → Calls Try.prog 5 #[s, .int .i64 b, .int .i64 dec] wx (Post L b dec wx)) := fun wx s B h => spack_any s L b dec wx (Fls.reads_row (by rw [← hn]; exact h))
  have IP : Hid (∀ (p : Pk) (c : Int), Res L b dec p c → ∀ (wx : World) (s : Value) (B : Nat), wx.ownsRow B 40 1 s n (flts L) → Calls Try.prog 7 #[s, .int .i64 b, .int .i64 dec] wx fun x w' => ∃ tv cv, x = .returned (.tuple #[pkv p tv cv, .int .i64 c]) ∧ w'.ownsRow wx.heap.size 5 1 tv p.th.length (Bytes.bys p.th) ∧ w'.ownsRow wx.heap.size 2 1 cv p.cd.length (ints p.cd) ∧ Below wx.heap.size wx w') := fun p c hp wx s B h => (ipack_any s L b dec wx (Fls.reads_row (by rw [← hn]; exact h))).mono fun x w' ⟨p', tv, cv, c', h1, h2, h3, h4, h5⟩ => by
    obtain ⟨e1, e2⟩ := hp.same h1
    subst e1 e2
    exact ⟨tv, cv, h2, h3, h4, h5⟩
  have EF : Hid (∀ (wx : World) (s1 s2 : Value) (B1 B2 : Nat), wx.ownsRow B1 40 1 s1 n (flts L) → wx.ownsRow B2 40 1 s2 n (flts L) → Calls Try.prog 9 #[s1, s2] wx fun e w' => e = .returned (.bool true) ∧ ∃ m, w' = wx.drewN m) := fun wx s1 s2 B1 B2 h1 h2 => Fls.eq_cn wx s1 s2 L L rfl (Fls.reads_row (by rw [← hn]; exact h1)) (Fls.reads_row (by rw [← hn]; exact h2))
  have MF : Hid (∀ (wx : World) (s : Value) (B : Nat), wx.ownsRow B 40 1 s n (flts L) → Calls Try.prog 10 #[s, .int .i64 1] wx fun e w' => e = .returned (.int .i64 (1 + n)) ∧ wx.grownBy w' s.ownBlock) := fun wx s B h => (by
    rw [hn] at h ⊢
    exact (Fls.mark_any wx B s L 1 (by omega) (by omega) (by omega) h).mono fun e w' ⟨h1, _, h3⟩ => ⟨h1, h3⟩)
  have B0 : Hid (Below w.heap.size w w) := Below.refl _ _
  have l1 : (n : Int) ≤ 1048576 := by omega
  have nk : (0 : Int) ≤ 1 + n := by omega
  subst ev
  clear hR hn hbig
  go_enter Try.func3, Try.ntmps3
  go_wp2_with fail
  refine (TO.out w B0.out).mono ?_
  rintro e w1 ⟨rfl, o1, b1⟩
  have B1 : Hid (Below w.heap.size w w1) := b1
  have O1 : Hid (w1.ownsRow w.heap.size 40 1 (.slice (some ⟨w.heap.size, 0, none⟩) n n) n (flts L)) := o1
  have s1 := b1.size
  clear o1 b1
  go_wp2_with fail
  refine (SP.out w1 _ _ O1.out).mono ?_
  rintro e w2 ⟨p, tv, cv, c, hp, rfl, ot, oc, b2⟩
  obtain ⟨ln1, ln2⟩ := res_len hp
  have IQ := IP.out p c hp
  have IH : Hid (∀ (wx : World) (s : Value) (B : Nat), wx.ownsRow B 40 1 s n (flts L) → Calls Try.prog 7 #[s, .int .i64 b, .int .i64 dec] wx fun x w' => ∃ tv cv, x = .returned (.tuple #[pkv p tv cv, .int .i64 c]) ∧ w'.ownsRow wx.heap.size 5 1 tv p.th.length (Bytes.bys p.th) ∧ w'.ownsRow wx.heap.size 2 1 cv p.cd.length (ints p.cd) ∧ Below wx.heap.size wx w') := IQ
  have hcc : (c != c) = false := by simp
  have hk1 : (0 : Int) ≤ 1 + p.th.length + p.cd.length := by omega
  have hqq : ((1 : Int) + p.th.length + p.cd.length != 1 + p.th.length + p.cd.length) = false := by simp
  obtain ⟨t0, u0, et⟩ : ∃ a c, tv = .slice a p.th.length c := row_form ot
  obtain ⟨c0, d0, ec⟩ : ∃ a c, cv = .slice a p.cd.length c := row_form oc
  subst et ec
  clear IQ IP SP hp
  have s2 := b2.size
  obtain ⟨wa, hwa⟩ : ∃ wa, wa = w2.alloc (.cells #[.int .i64 p.cnt, .int .i64 p.dec, .int .i64 p.ref, .int .i64 p.exp, .int .i64 p.bits, .slice t0 p.th.length u0, .slice c0 p.cd.length d0] 26) := ⟨_, rfl⟩
  have Hwa : Hid (wa = w2.alloc (.cells #[.int .i64 p.cnt, .int .i64 p.dec, .int .i64 p.ref, .int .i64 p.exp, .int .i64 p.bits, .slice t0 p.th.length u0, .slice c0 p.cd.length d0] 26)) := hwa
  have bwa : Below w2.heap.size w2 wa := (by rw [hwa]; exact (Below.refl _ _).alloc (Nat.le_refl _) _)
  have zwa : w2.heap.size < wa.heap.size := (by rw [hwa]; simp)
  have Xwa : Box7 wa w2.heap.size (.int .i64 p.cnt) (.int .i64 p.dec) (.int .i64 p.ref) (.int .i64 p.exp) (.int .i64 p.bits) (.slice t0 p.th.length u0) (.slice c0 p.cd.length d0) := (by rw [hwa]; unfold Box7; simp [go_sem])
  have BA : Hid (Below w.heap.size w wa) := B1.out.trans ((b2.trans (bwa.mono s2)).mono s1)
  have X0 : Hid (Bx wa p w2.heap.size w1.heap.size (.slice t0 p.th.length u0) (.slice c0 p.cd.length d0)) := ⟨Xwa, row_later ot bwa (Nat.le_refl _), row_later oc bwa (Nat.le_refl _)⟩
  have L0 : Hid ((∀ k, (Value.slice t0 p.th.length u0).ownBlock = some k → k < w2.heap.size) ∧ (∀ k, (Value.slice c0 p.cd.length d0).ownBlock = some k → k < w2.heap.size)) := ⟨fun k hk => (ot.lt k hk).2, fun k hk => (oc.lt k hk).2⟩
  clear ot oc b2 hwa bwa Xwa O1 B1
  unfold pkv
  go_upto_region 4 with fail
  rw [← Hwa.out]
  go_wp2_with fail
  refine (TO.out wa BA.out).mono ?_
  rintro e w3 ⟨rfl, o3, b3⟩
  have s3 := b3.size
  have r3 : wa.heap.size < w3.heap.size := (o3.lt wa.heap.size rfl).2
  have B3 : Hid (Below w.heap.size w w3) := BA.out.trans (b3.mono (by omega))
  have O3 : Hid (w3.ownsRow wa.heap.size 40 1 (.slice (some ⟨wa.heap.size, 0, none⟩) n n) n (flts L)) := o3
  have X3 : Hid (Bx w3 p w2.heap.size w1.heap.size (.slice t0 p.th.length u0) (.slice c0 p.cd.length d0)) := X0.out.on b3
  clear o3 b3 BA X0 Hwa
  go_wp2_with fail
  refine (IH.out w3 _ _ O3.out).mono ?_
  rintro e w4 ⟨tv, cv, rfl, ot, oc, b4⟩
  obtain ⟨t1, u1, et⟩ : ∃ a c, tv = .slice a p.th.length c := row_form ot
  obtain ⟨c1, d1, ec⟩ : ∃ a c, cv = .slice a p.cd.length c := row_form oc
  subst et ec
  have s4 := b4.size
  obtain ⟨wb, hwb⟩ : ∃ wb, wb = w4.alloc (.cells #[.int .i64 p.cnt, .int .i64 p.dec, .int .i64 p.ref, .int .i64 p.exp, .int .i64 p.bits, .slice t1 p.th.length u1, .slice c1 p.cd.length d1] 26) := ⟨_, rfl⟩
  have Hwb : Hid (wb = w4.alloc (.cells #[.int .i64 p.cnt, .int .i64 p.dec, .int .i64 p.ref, .int .i64 p.exp, .int .i64 p.bits, .slice t1 p.th.length u1, .slice c1 p.cd.length d1] 26)) := hwb
  have bwb : Below w4.heap.size w4 wb := (by rw [hwb]; exact (Below.refl _ _).alloc (Nat.le_refl _) _)
  have zwb : w4.heap.size < wb.heap.size := (by rw [hwb]; simp)
  have Xwb : Box7 wb w4.heap.size (.int .i64 p.cnt) (.int .i64 p.dec) (.int .i64 p.ref) (.int .i64 p.exp) (.int .i64 p.bits) (.slice t1 p.th.length u1) (.slice c1 p.cd.length d1) := (by rw [hwb]; unfold Box7; simp [go_sem])
  have b34 : Below w3.heap.size w3 wb := b4.trans (bwb.mono s4)
  have BB : Hid (Below w.heap.size w wb) := B3.out.trans (b34.mono (by omega))
  have OB : Hid (wb.ownsRow wa.heap.size 40 1 (.slice (some ⟨wa.heap.size, 0, none⟩) n n) n (flts L)) := row_later O3.out b34 (Nat.le_refl _)
  have XB0 : Hid (Bx wb p w2.heap.size w1.heap.size (.slice t0 p.th.length u0) (.slice c0 p.cd.length d0)) := X3.out.on b34
  have XB1 : Hid (Bx wb p w4.heap.size w3.heap.size (.slice t1 p.th.length u1) (.slice c1 p.cd.length d1)) := ⟨Xwb, row_later ot bwb (Nat.le_refl _), row_later oc bwb (Nat.le_refl _)⟩
  have L1 : Hid ((∀ k, (Value.slice t1 p.th.length u1).ownBlock = some k → w3.heap.size ≤ k ∧ k < w4.heap.size) ∧ (∀ k, (Value.slice c1 p.cd.length d1).ownBlock = some k → w3.heap.size ≤ k ∧ k < w4.heap.size)) := ⟨fun k hk => ot.lt k hk, fun k hk => oc.lt k hk⟩
  clear ot oc b4 hwb bwb Xwb O3 B3 b34 X3
  unfold pkv
  go_upto_region 6 with fail
  rw [← Hwb.out]
  obtain ⟨x0, x1, x2, x3, x4, x5, x6⟩ := XB0.out.bx
  obtain ⟨y0, y1, y2, y3, y4, y5, y6⟩ := XB1.out.bx
  go_wp2_with fail
  refine (eq_packed p _ _ _ _ _ _ _ _ wb XB1.out.rt XB0.out.rt XB1.out.rc XB0.out.rc).mono ?_
  rintro e w5 ⟨rfl, b5⟩
  have s5 := b5.size
  have B5 : Hid (Below w.heap.size w w5) := BB.out.trans (b5.mono (by omega))
  have O5 : Hid (w5.ownsRow wa.heap.size 40 1 (.slice (some ⟨wa.heap.size, 0, none⟩) n n) n (flts L)) := row_later OB.out b5 (Nat.le_refl _)
  have X50 : Hid (Bx w5 p w2.heap.size w1.heap.size (.slice t0 p.th.length u0) (.slice c0 p.cd.length d0)) := XB0.out.on b5
  have X51 : Hid (Bx w5 p w4.heap.size w3.heap.size (.slice t1 p.th.length u1) (.slice c1 p.cd.length d1)) := XB1.out.on b5
  clear b5 x0 x1 x2 x3 x4 x5 x6 y0 y1 y2 y3 y4 y5 y6 XB0 XB1 BB OB Hwb
  go_wp2_with fail
  refine (TO.out w5 B5.out).mono ?_
  rintro e w6 ⟨rfl, o6, b6⟩
  have s6 := b6.size
  have B6 : Hid (Below w.heap.size w w6) := B5.out.trans (b6.mono (by omega))
  have O6 : Hid (w6.ownsRow wa.heap.size 40 1 (.slice (some ⟨wa.heap.size, 0, none⟩) n n) n (flts L)) := row_later O5.out b6 (Nat.le_refl _)
  have N6 : Hid (w6.ownsRow w5.heap.size 40 1 (.slice (some ⟨w5.heap.size, 0, none⟩) n n) n (flts L)) := o6
  have X60 : Hid (Bx w6 p w2.heap.size w1.heap.size (.slice t0 p.th.length u0) (.slice c0 p.cd.length d0)) := X50.out.on b6
  have X61 : Hid (Bx w6 p w4.heap.size w3.heap.size (.slice t1 p.th.length u1) (.slice c1 p.cd.length d1)) := X51.out.on b6
  clear b6 o6 X50 X51 B5 O5
  go_wp2_with fail
  refine (EF.out w6 _ _ _ _ O6.out N6.out).mono ?_
  rintro e w7 ⟨rfl, m7, hw7⟩
  have b7 : Below w6.heap.size w6 w7 := by rw [hw7]; exact below_drewN (Below.refl _ _) m7
  have s7 := b7.size
  have B7 : Hid (Below w.heap.size w w7) := B6.out.trans (b7.mono (by omega))
  have O7 : Hid (w7.ownsRow wa.heap.size 40 1 (.slice (some ⟨wa.heap.size, 0, none⟩) n n) n (flts L)) := row_later O6.out b7 (Nat.le_refl _)
  have X70 : Hid (Bx w7 p w2.heap.size w1.heap.size (.slice t0 p.th.length u0) (.slice c0 p.cd.length d0)) := X60.out.on b7
  have X71 : Hid (Bx w7 p w4.heap.size w3.heap.size (.slice t1 p.th.length u1) (.slice c1 p.cd.length d1)) := X61.out.on b7
  clear b7 hw7 X60 X61 B6 O6 N6
  go_wp2_with fail
  refine (MF.out w7 _ _ O7.out).mono ?_
  rintro e w8 ⟨rfl, g8⟩
  have g8' : w7.grownBy w8 (some wa.heap.size) := g8
  have s8 := g8.size
  have B8 : Hid (Below w.heap.size w w8) := below_grown B7.out (by omega) g8' (fun k hk => by cases hk; omega)
  have X80 : Hid (Bx w8 p w2.heap.size w1.heap.size (.slice t0 p.th.length u0) (.slice c0 p.cd.length d0)) := X70.out.apart g8' (fun k hk => by cases hk; omega) (fun k hk h => by cases hk; have := L0.out.1 _ h; omega) (fun k hk h => by cases hk; have := L0.out.2 _ h; omega)
  have X81 : Hid (Bx w8 p w4.heap.size w3.heap.size (.slice t1 p.th.length u1) (.slice c1 p.cd.length d1)) := X71.out.apart g8' (fun k hk => by cases hk; omega) (fun k hk h => by cases hk; have := L1.out.1 _ h; omega) (fun k hk h => by cases hk; have := L1.out.2 _ h; omega)
  obtain ⟨x0, x1, x2, x3, x4, x5, x6⟩ := X80.out.bx
  obtain ⟨y0, y1, y2, y3, y4, y5, y6⟩ := X81.out.bx
  clear g8 g8' X70 X71 B7 O7
  go_wp2_with fail
  refine (eq_packed p _ _ _ _ _ _ _ _ w8 X81.out.rt X80.out.rt X81.out.rc X80.out.rc).mono ?_
  rintro e w9 ⟨rfl, b9⟩
  have s9 := b9.size
  have B9 : Hid (Below w.heap.size w w9) := B8.out.trans (b9.mono (by omega))
  have X90 : Hid (Bx w9 p w2.heap.size w1.heap.size (.slice t0 p.th.length u0) (.slice c0 p.cd.length d0)) := X80.out.on b9
  have X91 : Hid (Bx w9 p w4.heap.size w3.heap.size (.slice t1 p.th.length u1) (.slice c1 p.cd.length d1)) := X81.out.on b9
  clear b9 x0 x1 x2 x3 x4 x5 x6 y0 y1 y2 y3 y4 y5 y6 X80 X81 B8
  obtain ⟨y0, y1, y2, y3, y4, y5, y6⟩ := X91.out.bx
  go_wp2_with fail
  refine (pmark_any p _ _ p.th p.cd w9 w3.heap.size X91.out.rt X91.out.rc ln1 ln2).mono ?_
  rintro e w10 ⟨rfl, ⟨M, hM, oM⟩, oS, wx, wy, hb1, hg1, hg2⟩
  have q1 := hb1.size
  have q2 := hg1.size
  have q3 := hg2.size
  have HMB : Hid (MB M 1 p.th.length) := hM
  have XX0 : Bx wx p w2.heap.size w1.heap.size (.slice t0 p.th.length u0) (.slice c0 p.cd.length d0) := X90.out.on hb1
  have XY0 : Bx wy p w2.heap.size w1.heap.size (.slice t0 p.th.length u0) (.slice c0 p.cd.length d0) := XX0.apart hg1 (fun k hk => by have := L1.out.1 k hk; omega) (fun k hk h => by have := L1.out.1 k hk; have := L0.out.1 _ h; omega) (fun k hk h => by have := L1.out.1 k hk; have := L0.out.2 _ h; omega)
  have XT0 : Hid (Bx w10 p w2.heap.size w1.heap.size (.slice t0 p.th.length u0) (.slice c0 p.cd.length d0)) := XY0.apart hg2 (fun k hk => by have := L1.out.2 k hk; omega) (fun k hk h => by have := L1.out.2 k hk; have := L0.out.1 _ h; omega) (fun k hk h => by have := L1.out.2 k hk; have := L0.out.2 _ h; omega)
  have BT : Hid (Below w.heap.size w w10) := below_grown (below_grown (B9.out.trans (hb1.mono (by omega))) (by omega) hg1 (fun k hk => by have := L1.out.1 k hk; omega)) (by omega) hg2 (fun k hk => by have := L1.out.2 k hk; omega)
  have ZT : Hid (Box7 w10 w4.heap.size (.int .i64 p.cnt) (.int .i64 p.dec) (.int .i64 p.ref) (.int .i64 p.exp) (.int .i64 p.bits) (.slice t1 p.th.length u1) (.slice c1 p.cd.length d1)) := ((X91.out.bx.on hb1 (by omega)).apart hg1 (fun k hk => by have := L1.out.1 k hk; omega)).apart hg2 (fun k hk => by have := L1.out.2 k hk; omega)
  have OM : Hid (w10.ownsRow w3.heap.size 5 1 (.slice t1 p.th.length u1) p.th.length (Bytes.bys M)) := oM
  have OS : Hid (w10.ownsRow w3.heap.size 2 1 (.slice c1 p.cd.length d1) p.cd.length (ints (Lists.sq (1 + p.th.length) p.cd.length))) := oS
  have HE : Hid (∀ wz, Below w10.heap.size w10 wz → Calls Try.prog 12 #[pkv p (.slice t1 p.th.length u1) (.slice c1 p.cd.length d1), .int .i64 1] wz fun e w' => e = .returned (.int .i64 (1 + p.th.length + p.cd.length)) ∧ Below wz.heap.size wz w') := fun wz hz => pheld_any p _ _ M p.th.length p.cd.length wz HMB.out (Bytes.reads_row (by rw [HMB.out.1]; exact row_later OM.out hz (Nat.le_refl _))) (Lists.reads_row (by rw [Lists.sq_len]; exact row_later OS.out hz (Nat.le_refl _))) ln1 ln2
  clear hM oM oS hb1 hg1 hg2 XX0 XY0 X90 X91 B9 y0 y1 y2 y3 y4 y5 y6 OM OS HMB
  unfold pkv at HE
  obtain ⟨y0, y1, y2, y3, y4, y5, y6⟩ := ZT.out
  go_wp2_with fail
  refine (HE.out w10 (Below.refl _ _)).mono ?_
  rintro e w11 ⟨rfl, b11⟩
  have s11 := b11.size
  have BU : Hid (Below w.heap.size w w11) := BT.out.trans (b11.mono (by omega))
  have XU0 : Hid (Bx w11 p w2.heap.size w1.heap.size (.slice t0 p.th.length u0) (.slice c0 p.cd.length d0)) := XT0.out.on b11
  have ZU : Hid (Box7 w11 w4.heap.size (.int .i64 p.cnt) (.int .i64 p.dec) (.int .i64 p.ref) (.int .i64 p.exp) (.int .i64 p.bits) (.slice t1 p.th.length u1) (.slice c1 p.cd.length d1)) := ZT.out.on b11 (by omega)
  have BH : Hid (Below w10.heap.size w10 w11) := b11
  clear b11 y0 y1 y2 y3 y4 y5 y6 XT0 ZT BT
  go_wp2_with fail
  refine (TO.out w11 BU.out).mono ?_
  rintro e w12 ⟨rfl, o12, b12⟩
  have s12 := b12.size
  have BV : Hid (Below w.heap.size w w12) := BU.out.trans (b12.mono (by omega))
  have O12 : Hid (w12.ownsRow w11.heap.size 40 1 (.slice (some ⟨w11.heap.size, 0, none⟩) n n) n (flts L)) := o12
  have XV0 : Hid (Bx w12 p w2.heap.size w1.heap.size (.slice t0 p.th.length u0) (.slice c0 p.cd.length d0)) := XU0.out.on b12
  have ZV : Hid (Box7 w12 w4.heap.size (.int .i64 p.cnt) (.int .i64 p.dec) (.int .i64 p.ref) (.int .i64 p.exp) (.int .i64 p.bits) (.slice t1 p.th.length u1) (.slice c1 p.cd.length d1)) := ZU.out.on b12 (by omega)
  have BHV : Hid (Below w10.heap.size w10 w12) := BH.out.trans (b12.mono (by omega))
  clear b12 o12 XU0 ZU BU BH
  go_wp2_with fail
  refine (IH.out w12 _ _ O12.out).mono ?_
  rintro e w13 ⟨tv, cv, rfl, ot, oc, b13⟩
  obtain ⟨t2, u2, et⟩ : ∃ a c, tv = .slice a p.th.length c := row_form ot
  obtain ⟨c2, d2, ec⟩ : ∃ a c, cv = .slice a p.cd.length c := row_form oc
  subst et ec
  have s13 := b13.size
  obtain ⟨wc, hwc⟩ : ∃ wc, wc = w13.alloc (.cells #[.int .i64 p.cnt, .int .i64 p.dec, .int .i64 p.ref, .int .i64 p.exp, .int .i64 p.bits, .slice t2 p.th.length u2, .slice c2 p.cd.length d2] 26) := ⟨_, rfl⟩
  have Hwc : Hid (wc = w13.alloc (.cells #[.int .i64 p.cnt, .int .i64 p.dec, .int .i64 p.ref, .int .i64 p.exp, .int .i64 p.bits, .slice t2 p.th.length u2, .slice c2 p.cd.length d2] 26)) := hwc
  have bwc : Below w13.heap.size w13 wc := (by rw [hwc]; exact (Below.refl _ _).alloc (Nat.le_refl _) _)
  have zwc : w13.heap.size < wc.heap.size := (by rw [hwc]; simp)
  have Xwc : Box7 wc w13.heap.size (.int .i64 p.cnt) (.int .i64 p.dec) (.int .i64 p.ref) (.int .i64 p.exp) (.int .i64 p.bits) (.slice t2 p.th.length u2) (.slice c2 p.cd.length d2) := (by rw [hwc]; unfold Box7; simp [go_sem])
  have b12c : Below w12.heap.size w12 wc := b13.trans (bwc.mono s13)
  have BC : Hid (Below w.heap.size w wc) := BV.out.trans (b12c.mono (by omega))
  have XC0 : Hid (Bx wc p w2.heap.size w1.heap.size (.slice t0 p.th.length u0) (.slice c0 p.cd.length d0)) := XV0.out.on b12c
  have XC2 : Hid (Bx wc p w13.heap.size w12.heap.size (.slice t2 p.th.length u2) (.slice c2 p.cd.length d2)) := ⟨Xwc, row_later ot bwc (Nat.le_refl _), row_later oc bwc (Nat.le_refl _)⟩
  have ZC : Hid (Box7 wc w4.heap.size (.int .i64 p.cnt) (.int .i64 p.dec) (.int .i64 p.ref) (.int .i64 p.exp) (.int .i64 p.bits) (.slice t1 p.th.length u1) (.slice c1 p.cd.length d1)) := ZV.out.on b12c (by omega)
  have BHC : Hid (Below w10.heap.size w10 wc) := BHV.out.trans (b12c.mono (by omega))
  clear ot oc b13 hwc bwc Xwc O12 BV b12c XV0 ZV BHV
  unfold pkv
  go_upto_region 23 with fail
  rw [← Hwc.out]
  obtain ⟨x0, x1, x2, x3, x4, x5, x6⟩ := XC0.out.bx
  obtain ⟨y0, y1, y2, y3, y4, y5, y6⟩ := XC2.out.bx
  go_wp2_with fail
  refine (eq_packed p _ _ _ _ _ _ _ _ wc XC2.out.rt XC0.out.rt XC2.out.rc XC0.out.rc).mono ?_
  rintro e w14 ⟨rfl, b14⟩
  have s14 := b14.size
  have BE : Hid (Below w.heap.size w w14) := BC.out.trans (b14.mono (by omega))
  have ZE : Hid (Box7 w14 w4.heap.size (.int .i64 p.cnt) (.int .i64 p.dec) (.int .i64 p.ref) (.int .i64 p.exp) (.int .i64 p.bits) (.slice t1 p.th.length u1) (.slice c1 p.cd.length d1)) := ZC.out.on b14 (by omega)
  have BHE : Hid (Below w10.heap.size w10 w14) := BHC.out.trans (b14.mono (by omega))
  clear b14 x0 x1 x2 x3 x4 x5 x6 y0 y1 y2 y3 y4 y5 y6 XC0 XC2 BC ZC BHC Hwc
  obtain ⟨y0, y1, y2, y3, y4, y5, y6⟩ := ZE.out
  go_wp2_with fail
  refine (HE.out w14 BHE.out).mono ?_
  rintro e w15 ⟨rfl, b15⟩
  have BF : Hid (Below w.heap.size w w15) := BE.out.trans (b15.mono (by omega))
  clear b15 y0 y1 y2 y3 y4 y5 y6
  go_wp2_with fail
  go_ret
  exact ⟨rfl, BF.out⟩

end Go.Proofs.Ytgajajpcjbpalaa.Pkd
