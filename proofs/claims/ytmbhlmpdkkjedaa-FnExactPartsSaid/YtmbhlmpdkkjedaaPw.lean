/- Parts: the law. -/
import Derived.Test.YtmbhlmpdkkjedaaPs
import Derived.Test.YtmbhlmpdkkjedaaSw
namespace Go.Proofs.Ytmbhlmpdkkjedaa.To
open Go.ChangeShapes Go.WideShapes Go.ChangeAt Go.RowKit
open Go.Proofs.Ytmbhlmpdkkjedaa.Al

theorem pts_len (C : ByteArray) (I f t d p v : Int) (W O : ByteArray) (b : Int) (L : Ch.Ls) : (pts C I f t d p v W O b L).length ≤ 1048576 := by
  unfold pts
  by_cases h : tok C I f t d p v W O b L = true
  · rw [if_pos h]
    have h1 := prs_bound f t L (t - f).toNat
    have h2 := tok_valid h
    omega
  · rw [if_neg h]
    exact Nat.zero_le _
set_option maxRecDepth 20000 in
set_option maxHeartbeats 6000000 in
theorem partsAll (w : World) (C : ByteArray) (I f t d p v : Int) (W O : ByteArray) (b : Int) (u : Value) (L : Ch.Ls) (hL : Ch.Reads w u L) (hF : Tf.FitC L) (hC : C.size < 9223372036854775808) (hW : W.size < 9223372036854775808) (hO : O.size < 9223372036854775808) :
    Calls Try.prog 5 #[Tf.tv C I f t d p v W O b u] w fun e w' => e = .returned (.bool true) ∧ Below w.heap.size w w' := by
  have TO : Hid (L.length ≤ 1048576 → ∀ w', Below w.heap.size w w' → Calls Try.prog 9 #[Tf.tv C I f t d p v W O b u] w' fun e w'' => ∃ u2, e = .returned (Tf.tv C I f t d p v W O b u2) ∧ Ch.Row w'' w'.heap.size u2 L ∧ Below w'.heap.size w' w'') := fun hl w' hb => Tf.to_any C I f t d p v W O b u L w' (hL.on hb) hl
  have SZ : Hid (∀ w', Below w.heap.size w w' → Calls Try.prog 7 #[Tf.tv C I f t d p v W O b u, .int .i64 1048576] w' fun e w'' => (∃ r : Int, e = .returned (.int .i64 r) ∧ (0 ≤ r → L.length ≤ 1048576) ∧ r ≤ 1048576) ∧ Below w'.heap.size w' w'') := fun w' hb => Tf.sz_any C I f t d p v W O b u L w' (hL.on hb) hF hC hW hO
  have SA : Hid (∀ w' y, Ch.Reads w' y L → Calls Try.prog 19 #[Tf.tv C I f t d p v W O b y] w' fun e w'' => ∃ v', e = .returned v' ∧ Pn.Row w'' w'.heap.size v' (pts C I f t d p v W O b L) ∧ Below w'.heap.size w' w'') := fun w' y h => sparts_any C I f t d p v W O b y L w' h
  have IA : Hid (∀ w' y, Ch.Reads w' y L → Calls Try.prog 20 #[Tf.tv C I f t d p v W O b y] w' fun e w'' => ∃ v', e = .returned v' ∧ Pn.Row w'' w'.heap.size v' (pts C I f t d p v W O b L) ∧ Below w'.heap.size w' w'') := fun w' y h => iparts_any C I f t d p v W O b y L w' h
  have EQ : Hid (∀ w' y z, Ch.Reads w' y L → Ch.Reads w' z L → Calls Try.prog 11 #[Tf.tv C I f t d p v W O b y, Tf.tv C I f t d p v W O b z] w' fun e w'' => e = .returned (.bool true) ∧ Below w'.heap.size w' w'') := fun w' y z h h' => Tf.eq_any C I f t d p v W O b y z L w' h h'
  have MT : Hid (L.length ≤ 1048576 → ∀ w' base y, Ch.Row w' base y L → Calls Try.prog 16 #[Tf.tv C I f t d p v W O b y, .int .i64 1] w' fun e w'' => (∃ r : Int, e = .returned (.int .i64 r) ∧ 0 ≤ r) ∧ w'.grownBy w'' y.ownBlock) := fun hl w' base y h => marktaf_any C I f t d p v W O b y L base w' h hl
  have HM : Hid ((pts C I f t d p v W O b L).length ≤ 1048576) := pts_len C I f t d p v W O b L
  generalize pts C I f t d p v W O b L = M at *
  have ES : Hid (∀ w y z, Pn.Reads w y M → Pn.Reads w z M → Calls Try.prog 21 #[y, z] w fun e w' => e = .returned (.bool true) ∧ Below w.heap.size w w') := fun w y z h h' => Pn.eq_same w y z M h h'
  have MK : Hid (M.length ≤ 1048576 → ∀ w base y, Pn.Row w base y M → Calls Try.prog 22 #[y, .int .i64 1] w fun e w' => e = .returned (.int .i64 (1 + (M.length : Int) * 2)) ∧ Pn.Row w' base y (Pn.mks M.length) ∧ w.grownBy w' y.ownBlock) := fun hl w base y h => by
    obtain ⟨xs, h1, _⟩ := h
    exact Pn.mark_any w base M.length y xs hl h1
  have HD : Hid (M.length ≤ 1048576 → ∀ w y, Pn.Reads w y (Pn.mks M.length) → Calls Try.prog 23 #[y, .int .i64 1] w fun e w' => e = .returned (.int .i64 (1 + (M.length : Int) * 2)) ∧ Below w.heap.size w w') := fun hl w y h => (Pn.held_any w y M.length hl h).mono (fun _ _ ⟨h1, m, h2⟩ => ⟨h1, by rw [h2]; exact below_drewN (Below.refl _ _) m⟩)
  obtain ⟨sa, sc, hu⟩ := hL.form
  subst hu
  obtain ⟨n, hn⟩ : ∃ n, n = L.length := ⟨_, rfl⟩
  rw [← hn] at TO SZ MT ⊢
  have HN : Hid (n = L.length) := hn
  clear hn hF hC hW hO hL
  obtain ⟨k6, hk6⟩ : ∃ k6 : Int, k6 = 1 + (M.length : Int) * 2 := ⟨_, rfl⟩
  rw [← hk6] at MK HD
  have hk0 : ¬ k6 < 0 := by omega
  clear hk6
  generalize Pn.mks M.length = Mk at *
  have hkk : (k6 != k6) = false := by simp
  obtain ⟨wb, hwb⟩ : ∃ wb, wb = w.alloc (.cells #[.string C, .int .i64 I, .int .i64 f, .int .i64 t, .int .i64 d, .int .i64 p, .int .i64 v, .string W, .string O, .int .i64 b, (.slice sa n sc)] 28) := ⟨_, rfl⟩
  have HW : Hid (wb = w.alloc (.cells #[.string C, .int .i64 I, .int .i64 f, .int .i64 t, .int .i64 d, .int .i64 p, .int .i64 v, .string W, .string O, .int .i64 b, (.slice sa n sc)] 28)) := hwb
  have BW : Hid (Below w.heap.size w wb) := (by show Below _ _ _; rw [hwb]; exact (Below.refl _ _).alloc (Nat.le_refl _) _)
  have KT : Hid (Tf.AB wb w.heap.size C I f t d p v W O b (.slice sa n sc)) := (by show Tf.AB _ _ _ _ _ _ _ _ _ _ _ _ _; rw [hwb]; exact Tf.AB.new w C I f t d p v W O b (.slice sa n sc))
  clear hwb
  obtain ⟨c0, c1, c2, c3, c4, c5, c6, c7, c8, c9, c10, _⟩ := KT.out.cells
  go_enter Try.func5, Try.ntmps5
  go_wp2_with fail
  rw [← HW.out]
  refine (SZ.out wb BW.out).mono ?_
  rintro e w1 ⟨⟨z, rfl, y, l⟩, hb⟩
  have K1 : Hid (Tf.AB w1 w.heap.size C I f t d p v W O b (.slice sa n sc)) := KT.out.on hb KT.out.lt
  have B1 : Hid (Below w.heap.size w w1) := BW.out.trans (hb.mono BW.out.size)
  clear c0 c1 c2 c3 c4 c5 c6 c7 c8 c9 c10 hb HW SZ
  obtain ⟨c0, c1, c2, c3, c4, c5, c6, c7, c8, c9, c10, _⟩ := K1.out.cells
  by_cases hneg : z < 0
  · go_wp2_with fail
    go_ret
    exact ⟨rfl, B1.out⟩
  have HL : Hid (n ≤ 1048576) := y (by omega)
  clear y
  go_wp2_with fail
  refine (TO.out HL.out _ B1.out).mono ?_
  rintro e w2 ⟨up, rfl, r, hb⟩
  have R2 : Hid (Ch.Reads w2 up L) := r.reads
  have K2 : Hid (Tf.AB w2 w.heap.size C I f t d p v W O b (.slice sa n sc)) := K1.out.on hb K1.out.lt
  have B2 : Hid (Below w.heap.size w w2) := B1.out.trans (hb.mono B1.out.size)
  clear r hb c0 c1 c2 c3 c4 c5 c6 c7 c8 c9 c10
  go_wp2_with fail
  refine (SA.out _ _ R2.out).mono ?_
  rintro e wa ⟨mv, rfl, r, hb⟩
  have R3 : Hid (Pn.Reads wa mv M) := r.reads
  have K3 : Hid (Tf.AB wa w.heap.size C I f t d p v W O b (.slice sa n sc)) := K2.out.on hb K2.out.lt
  have B3 : Hid (Below w.heap.size w wa) := B2.out.trans (hb.mono B2.out.size)
  clear hb R2 r
  have CW : Hid (∀ ws, Below wa.heap.size wa ws → Tf.AB ws w.heap.size C I f t d p v W O b (.slice sa n sc) ∧ Pn.Reads ws mv M ∧ Below w.heap.size w ws) := fun ws hb => ⟨K3.out.on hb K3.out.lt, R3.out.on hb, B3.out.trans (hb.mono B3.out.size)⟩
  clear K1 K2 B1 B2
  obtain ⟨c0, c1, c2, c3, c4, c5, c6, c7, c8, c9, c10, _⟩ := K3.out.cells
  go_wp2_with fail
  refine (TO.out HL.out _ B3.out).mono ?_
  rintro e w4 ⟨ux, rfl, r, hb⟩
  obtain ⟨xa, xc, hx⟩ := r.form
  rw [← HN.out] at hx
  subst hx
  have R4 : Hid (Ch.Row w4 wa.heap.size (.slice xa n xc) L) := r
  have X4 : Hid (Below wa.heap.size wa w4) := hb
  clear r hb c0 c1 c2 c3 c4 c5 c6 c7 c8 c9 c10 B3 K3 R3
  obtain ⟨wc, hwc⟩ : ∃ wc, wc = w4.alloc (.cells #[.string C, .int .i64 I, .int .i64 f, .int .i64 t, .int .i64 d, .int .i64 p, .int .i64 v, .string W, .string O, .int .i64 b, (.slice xa n xc)] 35) := ⟨_, rfl⟩
  have HWc : Hid (wc = w4.alloc (.cells #[.string C, .int .i64 I, .int .i64 f, .int .i64 t, .int .i64 d, .int .i64 p, .int .i64 v, .string W, .string O, .int .i64 b, (.slice xa n xc)] 35)) := hwc
  obtain ⟨b9, hb9⟩ : ∃ b9, b9 = w4.heap.size := ⟨_, rfl⟩
  have QC : Hid (Below w4.heap.size w4 wc) := (by show Below _ _ _; rw [hwc]; exact (Below.refl _ _).alloc (Nat.le_refl _) _)
  have TC : Hid (Tf.TB wc b9 C I f t d p v W O b (.slice xa n xc)) := (by show Tf.TB _ _ _ _ _ _ _ _ _ _ _ _ _; rw [hwc, hb9]; exact Tf.TB.new w4 C I f t d p v W O b (.slice xa n xc))
  have HB9 : Hid (b9 = w4.heap.size) := hb9
  clear hwc hb9
  have XC : Hid (Below wa.heap.size wa wc) := X4.out.trans (QC.out.mono X4.out.size)
  have RC : Hid (Ch.Row wc wa.heap.size (.slice xa n xc) L) := R4.out.on QC.out
  obtain ⟨c0, c1, c2, c3, c4, c5, c6, c7, c8, c9, c10, _⟩ := TC.out.cells
  go_upto_region 7 with fail
  rw [← HWc.out, ← HB9.out]
  go_wp2_with fail
  refine (IA.out _ _ RC.out.reads).mono ?_
  rintro e wd ⟨vi, rfl, r, hb⟩
  have R5 : Hid (Pn.Row wd wc.heap.size vi M) := r
  have XD : Hid (Below wa.heap.size wa wd) := XC.out.trans (hb.mono XC.out.size)
  have T5 : Hid (Tf.TB wd b9 C I f t d p v W O b (.slice xa n xc)) := TC.out.on hb TC.out.lt
  have U5 : Hid (Ch.Row wd wa.heap.size (.slice xa n xc) L) := RC.out.on hb
  clear r hb c0 c1 c2 c3 c4 c5 c6 c7 c8 c9 c10 HWc
  have CD : Hid (∀ ws, Below wd.heap.size wd ws → Tf.TB ws b9 C I f t d p v W O b (.slice xa n xc) ∧ Pn.Row ws wc.heap.size vi M ∧ Ch.Row ws wa.heap.size (.slice xa n xc) L ∧ Below wa.heap.size wa ws) := fun ws hb => ⟨T5.out.on hb T5.out.lt, R5.out.on hb, U5.out.on hb, XD.out.trans (hb.mono XD.out.size)⟩
  have HG : Hid (∀ g, (Value.slice xa n xc).ownBlock = some g → wa.heap.size ≤ g ∧ g < b9) := fun g hg => (by have := R4.out.lt g hg; have := HB9.out; omega)
  have H9 : Hid (b9 < wc.heap.size) := TC.out.lt
  have Hwc : Hid (wa.heap.size ≤ wc.heap.size) := XC.out.size
  have V6 : Hid (Pn.Reads wd vi M) := R5.out.reads
  have N6 : Hid (Pn.Reads wd mv M) := (CW.out wd XD.out).2.1
  clear R5 T5 U5 R4 RC XC X4 TC
  go_wp2_with fail
  refine (ES.out _ _ _ V6.out N6.out).mono ?_
  rintro e w7 ⟨rfl, hb⟩
  have Y7 : Hid (Below wd.heap.size wd w7) := hb
  clear hb V6 N6
  obtain ⟨n1, n3, n4, n5⟩ := CD.out w7 Y7.out
  obtain ⟨m1, m3, m4⟩ := CW.out w7 n5
  obtain ⟨c0, c1, c2, c3, c4, c5, c6, c7, c8, c9, c10, _⟩ := n1.cells
  obtain ⟨d0, d1, d2, d3, d4, d5, d6, d7, d8, d9, d10, _⟩ := m1.cells
  clear n1 n3 n4 n5 m1 m3 m4
  have Y7d : Hid (Below wd.heap.size wd w7.drew) := Y7.out.drew
  go_upto_region 10 with fail
  go_region_held3 (fun w' => w'.cell? ⟨b9, 0, none⟩ = some (.string C) ∧ w'.cell? ⟨b9, 1, none⟩ = some (.int .i64 I) ∧ w'.cell? ⟨b9, 2, none⟩ = some (.int .i64 f) ∧ w'.cell? ⟨b9, 3, none⟩ = some (.int .i64 t) ∧ w'.cell? ⟨b9, 4, none⟩ = some (.int .i64 d) ∧ w'.cell? ⟨b9, 5, none⟩ = some (.int .i64 p) ∧ w'.cell? ⟨b9, 6, none⟩ = some (.int .i64 v) ∧ w'.cell? ⟨b9, 7, none⟩ = some (.string W) ∧ w'.cell? ⟨b9, 8, none⟩ = some (.string O) ∧ w'.cell? ⟨b9, 9, none⟩ = some (.int .i64 b) ∧ w'.cell? ⟨b9, 10, none⟩ = some (.slice xa n xc) ∧ w'.cell? ⟨w.heap.size, 0, none⟩ = some (.string C) ∧ w'.cell? ⟨w.heap.size, 1, none⟩ = some (.int .i64 I) ∧ w'.cell? ⟨w.heap.size, 2, none⟩ = some (.int .i64 f) ∧ w'.cell? ⟨w.heap.size, 3, none⟩ = some (.int .i64 t) ∧ w'.cell? ⟨w.heap.size, 4, none⟩ = some (.int .i64 d) ∧ w'.cell? ⟨w.heap.size, 5, none⟩ = some (.int .i64 p) ∧ w'.cell? ⟨w.heap.size, 6, none⟩ = some (.int .i64 v) ∧ w'.cell? ⟨w.heap.size, 7, none⟩ = some (.string W) ∧ w'.cell? ⟨w.heap.size, 8, none⟩ = some (.string O) ∧ w'.cell? ⟨w.heap.size, 9, none⟩ = some (.int .i64 b) ∧ w'.cell? ⟨w.heap.size, 10, none⟩ = some (.slice sa n sc)) (go_keep)
    (first
    | (go_at_call 9; refine (TO.out HL.out _ (CW.out _ (CD.out _ Y7d.out).2.2.2).2.2).mono ?_; rintro e w8 ⟨uy, rfl, r, hb⟩; have Y8 : Hid (Below wd.heap.size wd w8) := Y7d.out.trans (hb.mono Y7d.out.size); have U8 : Hid (Ch.Reads w8 uy L) := r.reads; obtain ⟨n1, n3, n4, n5⟩ := CD.out w8 Y8.out; obtain ⟨m1, m3, m4⟩ := CW.out w8 n5; have O8 : Hid (Ch.Reads w8 (.slice xa n xc) L) := n4.reads; obtain ⟨e0, e1, e2, e3, e4, e5, e6, e7, e8, e9, e10, _⟩ := n1.cells; obtain ⟨ff0, ff1, ff2, ff3, ff4, ff5, ff6, ff7, ff8, ff9, ff10, _⟩ := m1.cells; clear n1 n3 n4 n5 m1 m3 m4 r hb)
    | (go_at_call 11; refine (EQ.out _ _ _ O8.out U8.out).mono ?_; rintro e w9 ⟨rfl, hb⟩; have Y9 : Hid (Below wd.heap.size wd w9) := Y8.out.trans (hb.mono Y8.out.size); obtain ⟨n1, n3, n4, n5⟩ := CD.out w9 Y9.out; obtain ⟨m1, m3, m4⟩ := CW.out w9 n5; have O9 : Hid (Ch.Row w9 wa.heap.size (.slice xa n xc) L) := n4; have V9 : Hid (Pn.Row w9 wc.heap.size vi M) := n3; have X9 : Hid (Below wa.heap.size wa w9) := n5; obtain ⟨gg0, gg1, gg2, gg3, gg4, gg5, gg6, gg7, gg8, gg9, gg10, _⟩ := n1.cells; obtain ⟨hh0, hh1, hh2, hh3, hh4, hh5, hh6, hh7, hh8, hh9, hh10, _⟩ := m1.cells; clear n1 n3 n4 n5 m1 m3 m4 hb))
  all_goals
    clear c0 c1 c2 c3 c4 c5 c6 c7 c8 c9 c10 d0 d1 d2 d3 d4 d5 d6 d7 d8 d9 d10 e0 e1 e2 e3 e4 e5 e6 e7 e8 e9 e10 ff0 ff1 ff2 ff3 ff4 ff5 ff6 ff7 ff8 ff9 ff10 hh0 hh1 hh2 hh3 hh4 hh5 hh6 hh7 hh8 hh9 hh10 U8 O8 Y8 Y7 Y7d
    go_wp2_with fail
    refine (MT.out HL.out _ _ _ O9.out).mono ?_
    rintro e w10 ⟨⟨r, rfl, hr⟩, hg⟩
    have X10 : Hid (Below wa.heap.size wa w10) := X9.out.trans (below_of_grown hg X9.out.size (fun g h => (HG.out g h).1))
    have V10 : Hid (Pn.Row w10 wc.heap.size vi M) := V9.out.grown hg (fun g h e => by have := (V9.out.lt g h).1; have := (HG.out g e).2; have := H9.out; omega)
    have hr0 : ¬ r < 0 := by omega
    clear hg hr gg0 gg1 gg2 gg3 gg4 gg5 gg6 gg7 gg8 gg9 gg10 O9 V9 X9 Y9
    have N10 : Hid (Pn.Reads w10 mv M) := (CW.out w10 X10.out).2.1
    go_wp2_with fail
    refine (ES.out _ _ _ V10.out.reads N10.out).mono ?_
    rintro e w12 ⟨rfl, hb⟩
    have X12 : Hid (Below wa.heap.size wa w12) := X10.out.trans (hb.mono X10.out.size)
    have V12 : Hid (Pn.Row w12 wc.heap.size vi M) := V10.out.on hb
    clear hb V10 N10 X10
    go_wp2_with fail
    refine (MK.out HM.out _ _ _ V12.out).mono ?_
    rintro e w13 ⟨rfl, hr13, hg⟩
    have V13 : Hid (Pn.Row w13 wc.heap.size vi Mk) := hr13
    have X13 : Hid (Below wa.heap.size wa w13) := X12.out.trans (below_of_grown hg X12.out.size (fun g h => (by have := (V12.out.lt g h).1; have := Hwc.out; omega)))
    clear hr13 hg V12 X12
    go_wp2_with fail
    refine (HD.out HM.out _ _ V13.out.reads).mono ?_
    rintro e w14 ⟨rfl, hb⟩
    have V14 : Hid (Pn.Row w14 wc.heap.size vi Mk) := V13.out.on hb
    have X14 : Hid (Below wa.heap.size wa w14) := X13.out.trans (hb.mono X13.out.size)
    clear hb V13 X13
    obtain ⟨m1, m3, m4⟩ := CW.out w14 X14.out
    have B14 : Hid (Below w.heap.size w w14) := m4
    obtain ⟨c0, c1, c2, c3, c4, c5, c6, c7, c8, c9, c10, _⟩ := m1.cells
    clear m1 m3 m4
    go_wp2_with fail
    refine (TO.out HL.out _ B14.out).mono ?_
    rintro e w15 ⟨uz, rfl, r, hb⟩
    have R15 : Hid (Ch.Reads w15 uz L) := r.reads
    have V15 : Hid (Pn.Row w15 wc.heap.size vi Mk) := V14.out.on hb
    have X15 : Hid (Below wa.heap.size wa w15) := X14.out.trans (hb.mono X14.out.size)
    clear r hb c0 c1 c2 c3 c4 c5 c6 c7 c8 c9 c10 V14 X14 B14
    go_wp2_with fail
    refine (IA.out _ _ R15.out).mono ?_
    rintro e w16 ⟨vk, rfl, r, hb⟩
    have W16 : Hid (Pn.Reads w16 vk M) := r.reads
    have V16 : Hid (Pn.Row w16 wc.heap.size vi Mk) := V15.out.on hb
    have X16 : Hid (Below wa.heap.size wa w16) := X15.out.trans (hb.mono X15.out.size)
    have N16 : Hid (Pn.Reads w16 mv M) := (CW.out w16 X16.out).2.1
    clear r hb V15 X15 R15
    go_wp2_with fail
    refine (ES.out _ _ _ W16.out N16.out).mono ?_
    rintro e w18 ⟨rfl, hb⟩
    have V18 : Hid (Pn.Row w18 wc.heap.size vi Mk) := V16.out.on hb
    have X18 : Hid (Below wa.heap.size wa w18) := X16.out.trans (hb.mono X16.out.size)
    clear hb W16 V16 N16 X16
    go_wp2_with fail
    refine (HD.out HM.out _ _ V18.out.reads).mono ?_
    rintro e w19 ⟨rfl, hb⟩
    have X19 : Hid (Below wa.heap.size wa w19) := X18.out.trans (hb.mono X18.out.size)
    have B19 : Hid (Below w.heap.size w w19) := (CW.out w19 X19.out).2.2
    clear hb
    go_wp2_with fail
    go_ret
    exact ⟨rfl, B19.out⟩
end Go.Proofs.Ytmbhlmpdkkjedaa.To
