/- StateAt: the law. -/
import Derived.Test.YtmbhlmpdkkjedaaSyM
import Derived.Test.YtmbhlmpdkkjedaaChM
import Derived.Deep.RegionHeld3
namespace Go.Proofs.Ytmbhlmpdkkjedaa.To
open Go.ChangeShapes Go.WideShapes Go.ChangeAt Go.RowKit
open Go.Proofs.Ytmbhlmpdkkjedaa.Al

theorem sM_len (C : ByteArray) (I f t d p v : Int) (W O : ByteArray) (b : Int) (L : Ch.Ls) (x : Int) : (sM C I f t d p v W O b L x).length ≤ L.length := by
  unfold sM
  split
  · exact my_len _ L x _
  · exact Nat.zero_le _
theorem grown_of {w w1 w2 : World} {row : Option Nat} (hb : Below w.heap.size w w1) (h : w1.grownBy w2 row) : w.grownBy w2 row := ⟨h.os.trans hb.os, h.tape.trans hb.tape, h.output.trans hb.output, Nat.le_trans hb.size h.size, fun k hk hne => (h.block k (Nat.lt_of_lt_of_le hk hb.size) hne).trans (hb.block k hk)⟩
theorem below_of_grown {w w' : World} {row : Option Nat} {B : Nat} (h : w.grownBy w' row) (hB : B ≤ w.heap.size) (hr : ∀ g, row = some g → B ≤ g) : Below B w w' := ⟨h.os, h.tape, h.output, h.size, fun k hk => h.block k (by omega) (fun e => by have := hr k e.symm; omega)⟩
set_option maxHeartbeats 2000000 in
theorem marktaf_any (C : ByteArray) (I f t d p v : Int) (W O : ByteArray) (b : Int) (u : Value) (L : Ch.Ls) (base : Nat) (w : World) (hR : Ch.Row w base u L) (hl : L.length ≤ 1048576) :
    Calls Try.prog 16 #[Tf.tv C I f t d p v W O b u, .int .i64 1] w fun e w' => (∃ r : Int, e = .returned (.int .i64 r) ∧ 0 ≤ r) ∧ w.grownBy w' u.ownBlock := by
  obtain ⟨sa, sc, hu⟩ := hR.form
  have C1 : Hid (∀ w', Below w.heap.size w w' → Calls Try.prog 48 #[u, .int .i64 1] w' fun e w'' => e = .returned (.int .i64 (1 + (L.length : Int) * 9)) ∧ w'.grownBy w'' u.ownBlock) := fun w' hb => by
    obtain ⟨xs, h1, _⟩ := hR.on hb
    exact (Ch.mark_any w' base L.length u xs hl h1).mono (fun _ _ h => ⟨h.1, h.2.2⟩)
  subst hu
  clear hR
  generalize L.length = n at *
  obtain ⟨wb, hwb⟩ : ∃ wb, wb = w.alloc (.cells #[.string C, .int .i64 I, .int .i64 f, .int .i64 t, .int .i64 d, .int .i64 p, .int .i64 v, .string W, .string O, .int .i64 b, (.slice sa n sc)] 35) := ⟨_, rfl⟩
  have HW : Hid (wb = w.alloc (.cells #[.string C, .int .i64 I, .int .i64 f, .int .i64 t, .int .i64 d, .int .i64 p, .int .i64 v, .string W, .string O, .int .i64 b, (.slice sa n sc)] 35)) := hwb
  have BW : Hid (Below w.heap.size w wb) := (by show Below _ _ _; rw [hwb]; exact (Below.refl _ _).alloc (Nat.le_refl _) _)
  clear hwb
  go_enter Try.func16, Try.ntmps16
  go_wp2_with fail
  rw [← HW.out]
  refine (C1.out _ BW.out).mono ?_
  rintro e w1 ⟨rfl, hg⟩
  have G1 : Hid (w.grownBy w1 (Value.slice sa n sc).ownBlock) := grown_of BW.out hg
  clear hg
  go_wp2_with fail
  go_ret
  exact ⟨⟨_, rfl, by omega⟩, G1.out⟩
set_option maxRecDepth 20000 in
set_option maxHeartbeats 6000000 in
theorem stateAll (w : World) (C : ByteArray) (I f t d p v : Int) (W O : ByteArray) (b : Int) (u : Value) (x : Int) (L : Ch.Ls) (hL : Ch.Reads w u L) (hF : Tf.FitC L) (hC : C.size < 9223372036854775808) (hW : W.size < 9223372036854775808) (hO : O.size < 9223372036854775808) :
    Calls Try.prog 4 #[Tf.tv C I f t d p v W O b u, .int .i64 x] w fun e w' => e = .returned (.bool true) ∧ Below w.heap.size w w' := by
  have TO : Hid (L.length ≤ 1048576 → ∀ w', Below w.heap.size w w' → Calls Try.prog 9 #[Tf.tv C I f t d p v W O b u] w' fun e w'' => ∃ u2, e = .returned (Tf.tv C I f t d p v W O b u2) ∧ Ch.Row w'' w'.heap.size u2 L ∧ Below w'.heap.size w' w'') := fun hl w' hb => Tf.to_any C I f t d p v W O b u L w' (hL.on hb) hl
  have SZ : Hid (∀ w', Below w.heap.size w w' → Calls Try.prog 7 #[Tf.tv C I f t d p v W O b u, .int .i64 1048576] w' fun e w'' => (∃ r : Int, e = .returned (.int .i64 r) ∧ (0 ≤ r → L.length ≤ 1048576) ∧ r ≤ 1048576) ∧ Below w'.heap.size w' w'') := fun w' hb => Tf.sz_any C I f t d p v W O b u L w' (hL.on hb) hF hC hW hO
  have SA0 : Hid (L.length ≤ 1048576 → ∀ w' y, Ch.Reads w' y L → Calls Try.prog 12 #[Tf.tv C I f t d p v W O b y, .int .i64 x] w' fun e w'' => ∃ v', e = .returned (.tuple #[Sk.sv (sA C I f t d p v W O b L x), v', .bool (sok C I f t d p v W O b L x)]) ∧ Sy.Reads w'' v' (sM C I f t d p v W O b L x) ∧ Below w'.heap.size w' w'') := fun hl w' y h => sstate_any C I f t d p v W O b y L x w' h hl
  have IA0 : Hid (L.length ≤ 1048576 → ∀ w' y, Ch.Reads w' y L → Calls Try.prog 13 #[Tf.tv C I f t d p v W O b y, .int .i64 x] w' fun e w'' => ∃ v', e = .returned (.tuple #[Sk.sv (sA C I f t d p v W O b L x), v', .bool (sok C I f t d p v W O b L x)]) ∧ Sy.Row w'' w'.heap.size v' (sM C I f t d p v W O b L x) ∧ Below w'.heap.size w' w'') := fun hl w' y h => istate_any C I f t d p v W O b y L x w' h hl
  have EQ : Hid (∀ w' y z, Ch.Reads w' y L → Ch.Reads w' z L → Calls Try.prog 11 #[Tf.tv C I f t d p v W O b y, Tf.tv C I f t d p v W O b z] w' fun e w'' => e = .returned (.bool true) ∧ Below w'.heap.size w' w'') := fun w' y z h h' => Tf.eq_any C I f t d p v W O b y z L w' h h'
  have MT : Hid (L.length ≤ 1048576 → ∀ w' base y, Ch.Row w' base y L → Calls Try.prog 16 #[Tf.tv C I f t d p v W O b y, .int .i64 1] w' fun e w'' => (∃ r : Int, e = .returned (.int .i64 r) ∧ 0 ≤ r) ∧ w'.grownBy w'' y.ownBlock) := fun hl w' base y h => marktaf_any C I f t d p v W O b y L base w' h hl
  have HML : Hid ((sM C I f t d p v W O b L x).length ≤ L.length) := sM_len C I f t d p v W O b L x
  obtain ⟨x0, x1, x2, x3, x4, x5, hx⟩ : ∃ x0 x1 x2 x3 x4 x5, sA C I f t d p v W O b L x = (x0, x1, x2, x3, x4, x5) := ⟨_, _, _, _, _, _, rfl⟩
  rw [hx] at SA0 IA0
  generalize sM C I f t d p v W O b L x = M at *
  generalize sok C I f t d p v W O b L x = q at *
  have SA : Hid (L.length ≤ 1048576 → ∀ w' y, Ch.Reads w' y L → Calls Try.prog 12 #[Tf.tv C I f t d p v W O b y, .int .i64 x] w' fun e w'' => ∃ v', e = .returned (.tuple #[Sk.sk x0 x1 x2 x3 x4 x5, v', .bool q]) ∧ Sy.Reads w'' v' M ∧ Below w'.heap.size w' w'') := SA0
  have IA : Hid (L.length ≤ 1048576 → ∀ w' y, Ch.Reads w' y L → Calls Try.prog 13 #[Tf.tv C I f t d p v W O b y, .int .i64 x] w' fun e w'' => ∃ v', e = .returned (.tuple #[Sk.sk x0 x1 x2 x3 x4 x5, v', .bool q]) ∧ Sy.Row w'' w'.heap.size v' M ∧ Below w'.heap.size w' w'') := IA0
  clear SA0 IA0 hx
  have E1 : Hid (∀ w, Calls Try.prog 14 #[Sk.sk x0 x1 x2 x3 x4 x5, Sk.sk x0 x1 x2 x3 x4 x5] w fun e w' => e = .returned (.bool true) ∧ Below w.heap.size w w') := fun w => Sk.eq_any x0 x1 x2 x3 x4 x5 w
  have ES : Hid (∀ w y z, Sy.Reads w y M → Sy.Reads w z M → Calls Try.prog 15 #[y, z] w fun e w' => e = .returned (.bool true) ∧ Below w.heap.size w w') := fun w y z h h' => Sy.eq_same w y z M h h'
  have MK : Hid (M.length ≤ 1048576 → ∀ w base y, Sy.Row w base y M → Calls Try.prog 17 #[y, .int .i64 1] w fun e w' => e = .returned (.int .i64 (1 + (M.length : Int) * 6)) ∧ Sy.Row w' base y (Sy.mks M.length) ∧ w.grownBy w' y.ownBlock) := fun hl w base y h => by
    obtain ⟨xs, h1, _⟩ := h
    exact Sy.mark_any w base M.length y xs hl h1
  have HD : Hid (M.length ≤ 1048576 → ∀ w y, Sy.Reads w y (Sy.mks M.length) → Calls Try.prog 18 #[y, .int .i64 1] w fun e w' => e = .returned (.int .i64 (1 + (M.length : Int) * 6)) ∧ Below w.heap.size w w') := fun hl w y h => Sy.held_any w y M.length hl h
  obtain ⟨sa, sc, hu⟩ := hL.form
  subst hu
  obtain ⟨n, hn⟩ : ∃ n, n = L.length := ⟨_, rfl⟩
  rw [← hn] at TO SZ SA IA MT HML ⊢
  have HN : Hid (n = L.length) := hn
  clear hn hF hC hW hO hL
  obtain ⟨k6, hk6⟩ : ∃ k6 : Int, k6 = 1 + (M.length : Int) * 6 := ⟨_, rfl⟩
  rw [← hk6] at MK HD
  have hk0 : ¬ k6 < 0 := by omega
  clear hk6
  generalize Sy.mks M.length = Mk at *
  have hqq : (q != q) = false := by cases q <;> rfl
  have hkk : (k6 != k6) = false := by simp
  obtain ⟨wb, hwb⟩ : ∃ wb, wb = w.alloc (.cells #[.string C, .int .i64 I, .int .i64 f, .int .i64 t, .int .i64 d, .int .i64 p, .int .i64 v, .string W, .string O, .int .i64 b, (.slice sa n sc)] 28) := ⟨_, rfl⟩
  have HW : Hid (wb = w.alloc (.cells #[.string C, .int .i64 I, .int .i64 f, .int .i64 t, .int .i64 d, .int .i64 p, .int .i64 v, .string W, .string O, .int .i64 b, (.slice sa n sc)] 28)) := hwb
  have BW : Hid (Below w.heap.size w wb) := (by show Below _ _ _; rw [hwb]; exact (Below.refl _ _).alloc (Nat.le_refl _) _)
  have KT : Hid (Tf.AB wb w.heap.size C I f t d p v W O b (.slice sa n sc)) := (by show Tf.AB _ _ _ _ _ _ _ _ _ _ _ _ _; rw [hwb]; exact Tf.AB.new w C I f t d p v W O b (.slice sa n sc))
  clear hwb
  obtain ⟨c0, c1, c2, c3, c4, c5, c6, c7, c8, c9, c10, _⟩ := KT.out.cells
  go_enter Try.func4, Try.ntmps4
  go_wp2_with fail
  rw [← HW.out]
  refine (SZ.out wb BW.out).mono ?_
  rintro e w1 ⟨⟨z, rfl, y, l⟩, hb⟩
  have K1 : Hid (Tf.AB w1 w.heap.size C I f t d p v W O b (.slice sa n sc)) := KT.out.on hb KT.out.lt
  have B1 : Hid (Below w.heap.size w w1) := BW.out.trans (hb.mono BW.out.size)
  clear c0 c1 c2 c3 c4 c5 c6 c7 c8 c9 c10 hb HW SZ
  obtain ⟨c0, c1, c2, c3, c4, c5, c6, c7, c8, c9, c10, _⟩ := K1.out.cells
  by_cases hneg : z < 0
  · go_wp2_with fail
    go_ret
    exact ⟨rfl, B1.out⟩
  have HL : Hid (n ≤ 1048576) := y (by omega)
  have HM : Hid (M.length ≤ 1048576) := Nat.le_trans HML.out HL.out
  clear y HML
  go_wp2_with fail
  refine (TO.out HL.out _ B1.out).mono ?_
  rintro e w2 ⟨up, rfl, r, hb⟩
  have R2 : Hid (Ch.Reads w2 up L) := r.reads
  have K2 : Hid (Tf.AB w2 w.heap.size C I f t d p v W O b (.slice sa n sc)) := K1.out.on hb K1.out.lt
  have B2 : Hid (Below w.heap.size w w2) := B1.out.trans (hb.mono B1.out.size)
  clear r hb c0 c1 c2 c3 c4 c5 c6 c7 c8 c9 c10
  go_wp2_with fail
  refine (SA.out HL.out _ _ R2.out).mono ?_
  rintro e w3 ⟨mv, rfl, r, hb⟩
  have R3 : Hid (Sy.Reads w3 mv M) := r
  have K3 : Hid (Tf.AB w3 w.heap.size C I f t d p v W O b (.slice sa n sc)) := K2.out.on hb K2.out.lt
  have B3 : Hid (Below w.heap.size w w3) := B2.out.trans (hb.mono B2.out.size)
  clear hb R2 r
  obtain ⟨wa, hwa⟩ : ∃ wa, wa = w3.alloc (.cells #[.int .i64 x0, .int .i64 x1, .int .i64 x2, .string x3, .string x4, .int .i64 x5] 32) := ⟨_, rfl⟩
  have HWa : Hid (wa = w3.alloc (.cells #[.int .i64 x0, .int .i64 x1, .int .i64 x2, .string x3, .string x4, .int .i64 x5] 32)) := hwa
  obtain ⟨b6, hb6⟩ : ∃ b6, b6 = w3.heap.size := ⟨_, rfl⟩
  have QA : Hid (Below w3.heap.size w3 wa) := (by show Below _ _ _; rw [hwa]; exact (Below.refl _ _).alloc (Nat.le_refl _) _)
  have SA6 : Hid (Sk.SB wa b6 x0 x1 x2 x3 x4 x5) := (by show Sk.SB _ _ _ _ _ _ _ _; rw [hwa, hb6]; exact Sk.SB.new w3 x0 x1 x2 x3 x4 x5)
  have HB6 : Hid (b6 = w3.heap.size) := hb6
  clear hwa hb6
  have CW : Hid (∀ ws, Below wa.heap.size wa ws → Tf.AB ws w.heap.size C I f t d p v W O b (.slice sa n sc) ∧ Sk.SB ws b6 x0 x1 x2 x3 x4 x5 ∧ Sy.Reads ws mv M ∧ Below w.heap.size w ws) := fun ws hb => ⟨(K3.out.on QA.out K3.out.lt).on hb (Nat.lt_of_lt_of_le K3.out.lt QA.out.size), SA6.out.on hb SA6.out.lt, (R3.out.on QA.out).on hb, (B3.out.trans (QA.out.mono B3.out.size)).trans (hb.mono (Nat.le_trans B3.out.size QA.out.size))⟩
  clear K1 K2 K3 B1 B2 B3 R3
  have X3 : Hid (Below wa.heap.size wa wa) := Below.refl _ _
  obtain ⟨m1, m2, m3, m4⟩ := CW.out wa X3.out
  have B4 : Hid (Below w.heap.size w wa) := m4
  obtain ⟨c0, c1, c2, c3, c4, c5, c6, c7, c8, c9, c10, _⟩ := m1.cells
  clear m1 m2 m3 m4
  go_upto_region 6 with fail
  rw [← HWa.out, ← HB6.out]
  go_wp2_with fail
  refine (TO.out HL.out _ B4.out).mono ?_
  rintro e w4 ⟨ux, rfl, r, hb⟩
  obtain ⟨xa, xc, hx⟩ := r.form
  rw [← HN.out] at hx
  subst hx
  have R4 : Hid (Ch.Row w4 wa.heap.size (.slice xa n xc) L) := r
  have X4 : Hid (Below wa.heap.size wa w4) := hb
  clear r hb c0 c1 c2 c3 c4 c5 c6 c7 c8 c9 c10 B4 HWa
  obtain ⟨wc, hwc⟩ : ∃ wc, wc = w4.alloc (.cells #[.string C, .int .i64 I, .int .i64 f, .int .i64 t, .int .i64 d, .int .i64 p, .int .i64 v, .string W, .string O, .int .i64 b, (.slice xa n xc)] 35) := ⟨_, rfl⟩
  have HWc : Hid (wc = w4.alloc (.cells #[.string C, .int .i64 I, .int .i64 f, .int .i64 t, .int .i64 d, .int .i64 p, .int .i64 v, .string W, .string O, .int .i64 b, (.slice xa n xc)] 35)) := hwc
  obtain ⟨b9, hb9⟩ : ∃ b9, b9 = w4.heap.size := ⟨_, rfl⟩
  have QC : Hid (Below w4.heap.size w4 wc) := (by show Below _ _ _; rw [hwc]; exact (Below.refl _ _).alloc (Nat.le_refl _) _)
  have TC : Hid (Tf.TB wc b9 C I f t d p v W O b (.slice xa n xc)) := (by show Tf.TB _ _ _ _ _ _ _ _ _ _ _ _ _; rw [hwc, hb9]; exact Tf.TB.new w4 C I f t d p v W O b (.slice xa n xc))
  have HB9 : Hid (b9 = w4.heap.size) := hb9
  clear hwc hb9
  have XC : Hid (Below wa.heap.size wa wc) := X4.out.trans (QC.out.mono X4.out.size)
  have RC : Hid (Ch.Row wc wa.heap.size (.slice xa n xc) L) := R4.out.on QC.out
  obtain ⟨c0, c1, c2, c3, c4, c5, c6, c7, c8, c9, c10, _⟩ := TC.out.cells
  go_upto_region 7 with fail
  rw [← HWc.out, ← HB9.out]
  go_wp2_with fail
  refine (IA.out HL.out _ _ RC.out.reads).mono ?_
  rintro e w5 ⟨vi, rfl, r, hb⟩
  have R5 : Hid (Sy.Row w5 wc.heap.size vi M) := r
  have X5 : Hid (Below wa.heap.size wa w5) := XC.out.trans (hb.mono XC.out.size)
  have T5 : Hid (Tf.TB w5 b9 C I f t d p v W O b (.slice xa n xc)) := TC.out.on hb TC.out.lt
  have U5 : Hid (Ch.Row w5 wa.heap.size (.slice xa n xc) L) := RC.out.on hb
  clear r hb c0 c1 c2 c3 c4 c5 c6 c7 c8 c9 c10 HWc
  obtain ⟨wd, hwd⟩ : ∃ wd, wd = w5.alloc (.cells #[.int .i64 x0, .int .i64 x1, .int .i64 x2, .string x3, .string x4, .int .i64 x5] 32) := ⟨_, rfl⟩
  have HWd : Hid (wd = w5.alloc (.cells #[.int .i64 x0, .int .i64 x1, .int .i64 x2, .string x3, .string x4, .int .i64 x5] 32)) := hwd
  obtain ⟨b10, hb10⟩ : ∃ b10, b10 = w5.heap.size := ⟨_, rfl⟩
  have QE : Hid (Below w5.heap.size w5 wd) := (by show Below _ _ _; rw [hwd]; exact (Below.refl _ _).alloc (Nat.le_refl _) _)
  have SD : Hid (Sk.SB wd b10 x0 x1 x2 x3 x4 x5) := (by show Sk.SB _ _ _ _ _ _ _ _; rw [hwd, hb10]; exact Sk.SB.new w5 x0 x1 x2 x3 x4 x5)
  have HB10 : Hid (b10 = w5.heap.size) := hb10
  clear hwd hb10
  have XD : Hid (Below wa.heap.size wa wd) := X5.out.trans (QE.out.mono X5.out.size)
  have CD : Hid (∀ ws, Below wd.heap.size wd ws → Tf.TB ws b9 C I f t d p v W O b (.slice xa n xc) ∧ Sk.SB ws b10 x0 x1 x2 x3 x4 x5 ∧ Sy.Row ws wc.heap.size vi M ∧ Ch.Row ws wa.heap.size (.slice xa n xc) L ∧ Below wa.heap.size wa ws) := fun ws hb => ⟨(T5.out.on QE.out T5.out.lt).on hb (Nat.lt_of_lt_of_le T5.out.lt QE.out.size), SD.out.on hb SD.out.lt, (R5.out.on QE.out).on hb, (U5.out.on QE.out).on hb, XD.out.trans (hb.mono XD.out.size)⟩
  have HG : Hid (∀ g, (Value.slice xa n xc).ownBlock = some g → wa.heap.size ≤ g ∧ g < b9) := fun g hg => (by have := R4.out.lt g hg; have := HB9.out; omega)
  have H910 : Hid (b9 < b10 ∧ b9 < wc.heap.size) := ⟨(by have := T5.out.lt; have := HB10.out; omega), TC.out.lt⟩
  have Hwc : Hid (wa.heap.size ≤ wc.heap.size) := XC.out.size
  clear R5 T5 U5 R4 RC XC X5 X4 TC
  obtain ⟨m1, m2, m3, m4⟩ := CW.out wd XD.out
  obtain ⟨a0, a1, a2, a3, a4, a5, _⟩ := SD.out.cells
  obtain ⟨bb0, bb1, bb2, bb3, bb4, bb5, _⟩ := m2.cells
  clear m1 m2 m3 m4
  go_upto_region 8 with fail
  rw [← HWd.out, ← HB10.out]
  clear HWd
  go_wp2_with fail
  refine (E1.out _).mono ?_
  rintro e w6 ⟨rfl, hb⟩
  have Y6 : Hid (Below wd.heap.size wd w6) := hb
  clear hb a0 a1 a2 a3 a4 a5 bb0 bb1 bb2 bb3 bb4 bb5
  obtain ⟨n1, n2, n3, n4, n5⟩ := CD.out w6 Y6.out
  obtain ⟨m1, m2, m3, m4⟩ := CW.out w6 n5
  have V6 : Hid (Sy.Reads w6 vi M) := n3.reads
  have N6 : Hid (Sy.Reads w6 mv M) := m3
  clear n1 n2 n3 n4 n5 m1 m2 m3 m4
  go_wp2_with fail
  refine (ES.out _ _ _ V6.out N6.out).mono ?_
  rintro e w7 ⟨rfl, hb⟩
  have Y7 : Hid (Below wd.heap.size wd w7) := Y6.out.trans (hb.mono Y6.out.size)
  clear hb V6 N6
  obtain ⟨n1, n2, n3, n4, n5⟩ := CD.out w7 Y7.out
  obtain ⟨m1, m2, m3, m4⟩ := CW.out w7 n5
  obtain ⟨c0, c1, c2, c3, c4, c5, c6, c7, c8, c9, c10, _⟩ := n1.cells
  obtain ⟨d0, d1, d2, d3, d4, d5, d6, d7, d8, d9, d10, _⟩ := m1.cells
  clear n1 n2 n3 n4 n5 m1 m2 m3 m4
  have Y7d : Hid (Below wd.heap.size wd w7.drew) := Y7.out.drew
  go_upto_region 10 with fail
  go_region_held3 (fun w' => w'.cell? ⟨b9, 0, none⟩ = some (.string C) ∧ w'.cell? ⟨b9, 1, none⟩ = some (.int .i64 I) ∧ w'.cell? ⟨b9, 2, none⟩ = some (.int .i64 f) ∧ w'.cell? ⟨b9, 3, none⟩ = some (.int .i64 t) ∧ w'.cell? ⟨b9, 4, none⟩ = some (.int .i64 d) ∧ w'.cell? ⟨b9, 5, none⟩ = some (.int .i64 p) ∧ w'.cell? ⟨b9, 6, none⟩ = some (.int .i64 v) ∧ w'.cell? ⟨b9, 7, none⟩ = some (.string W) ∧ w'.cell? ⟨b9, 8, none⟩ = some (.string O) ∧ w'.cell? ⟨b9, 9, none⟩ = some (.int .i64 b) ∧ w'.cell? ⟨b9, 10, none⟩ = some (.slice xa n xc) ∧ w'.cell? ⟨w.heap.size, 0, none⟩ = some (.string C) ∧ w'.cell? ⟨w.heap.size, 1, none⟩ = some (.int .i64 I) ∧ w'.cell? ⟨w.heap.size, 2, none⟩ = some (.int .i64 f) ∧ w'.cell? ⟨w.heap.size, 3, none⟩ = some (.int .i64 t) ∧ w'.cell? ⟨w.heap.size, 4, none⟩ = some (.int .i64 d) ∧ w'.cell? ⟨w.heap.size, 5, none⟩ = some (.int .i64 p) ∧ w'.cell? ⟨w.heap.size, 6, none⟩ = some (.int .i64 v) ∧ w'.cell? ⟨w.heap.size, 7, none⟩ = some (.string W) ∧ w'.cell? ⟨w.heap.size, 8, none⟩ = some (.string O) ∧ w'.cell? ⟨w.heap.size, 9, none⟩ = some (.int .i64 b) ∧ w'.cell? ⟨w.heap.size, 10, none⟩ = some (.slice sa n sc)) (go_keep)
    (first
    | (go_at_call 9; refine (TO.out HL.out _ (CW.out _ (CD.out _ Y7d.out).2.2.2.2).2.2.2).mono ?_; rintro e w8 ⟨uy, rfl, r, hb⟩; have Y8 : Hid (Below wd.heap.size wd w8) := Y7d.out.trans (hb.mono Y7d.out.size); have U8 : Hid (Ch.Reads w8 uy L) := r.reads; obtain ⟨n1, n2, n3, n4, n5⟩ := CD.out w8 Y8.out; obtain ⟨m1, m2, m3, m4⟩ := CW.out w8 n5; have O8 : Hid (Ch.Reads w8 (.slice xa n xc) L) := n4.reads; obtain ⟨e0, e1, e2, e3, e4, e5, e6, e7, e8, e9, e10, _⟩ := n1.cells; obtain ⟨ff0, ff1, ff2, ff3, ff4, ff5, ff6, ff7, ff8, ff9, ff10, _⟩ := m1.cells; clear n1 n2 n3 n4 n5 m1 m2 m3 m4 r hb)
    | (go_at_call 11; refine (EQ.out _ _ _ O8.out U8.out).mono ?_; rintro e w9 ⟨rfl, hb⟩; have Y9 : Hid (Below wd.heap.size wd w9) := Y8.out.trans (hb.mono Y8.out.size); obtain ⟨n1, n2, n3, n4, n5⟩ := CD.out w9 Y9.out; obtain ⟨m1, m2, m3, m4⟩ := CW.out w9 n5; have O9 : Hid (Ch.Row w9 wa.heap.size (.slice xa n xc) L) := n4; have V9 : Hid (Sy.Row w9 wc.heap.size vi M) := n3; have S9 : Hid (Sk.SB w9 b10 x0 x1 x2 x3 x4 x5) := n2; have X9 : Hid (Below wa.heap.size wa w9) := n5; obtain ⟨gg0, gg1, gg2, gg3, gg4, gg5, gg6, gg7, gg8, gg9, gg10, _⟩ := n1.cells; obtain ⟨hh0, hh1, hh2, hh3, hh4, hh5, hh6, hh7, hh8, hh9, hh10, _⟩ := m1.cells; clear n1 n2 n3 n4 n5 m1 m2 m3 m4 hb))
  all_goals
    clear c0 c1 c2 c3 c4 c5 c6 c7 c8 c9 c10 d0 d1 d2 d3 d4 d5 d6 d7 d8 d9 d10 e0 e1 e2 e3 e4 e5 e6 e7 e8 e9 e10 ff0 ff1 ff2 ff3 ff4 ff5 ff6 ff7 ff8 ff9 ff10 hh0 hh1 hh2 hh3 hh4 hh5 hh6 hh7 hh8 hh9 hh10 U8 O8 Y8 Y7 Y7d Y6
    go_wp2_with fail
    refine (MT.out HL.out _ _ _ O9.out).mono ?_
    rintro e w10 ⟨⟨r, rfl, hr⟩, hg⟩
    have X10 : Hid (Below wa.heap.size wa w10) := X9.out.trans (below_of_grown hg X9.out.size (fun g h => (HG.out g h).1))
    have V10 : Hid (Sy.Row w10 wc.heap.size vi M) := V9.out.grown hg (fun g h e => by have := (V9.out.lt g h).1; have := (HG.out g e).2; have := H910.out.2; omega)
    have S10 : Hid (Sk.SB w10 b10 x0 x1 x2 x3 x4 x5) := SB.grown S9.out hg (fun e => by have := (HG.out _ e).2; have := H910.out.1; omega)
    have hr0 : ¬ r < 0 := by omega
    clear hg hr gg0 gg1 gg2 gg3 gg4 gg5 gg6 gg7 gg8 gg9 gg10 O9 V9 S9 X9 Y9
    obtain ⟨m1, m2, m3, m4⟩ := CW.out w10 X10.out
    have N10 : Hid (Sy.Reads w10 mv M) := m3
    obtain ⟨a0, a1, a2, a3, a4, a5, _⟩ := S10.out.cells
    obtain ⟨bb0, bb1, bb2, bb3, bb4, bb5, _⟩ := m2.cells
    clear m1 m2 m3 m4
    go_wp2_with fail
    refine (E1.out _).mono ?_
    rintro e w11 ⟨rfl, hb⟩
    have X11 : Hid (Below wa.heap.size wa w11) := X10.out.trans (hb.mono X10.out.size)
    have V11 : Hid (Sy.Row w11 wc.heap.size vi M) := V10.out.on hb
    have N11 : Hid (Sy.Reads w11 mv M) := N10.out.on hb
    clear hb a0 a1 a2 a3 a4 a5 bb0 bb1 bb2 bb3 bb4 bb5 V10 N10 S10 X10
    go_wp2_with fail
    refine (ES.out _ _ _ V11.out.reads N11.out).mono ?_
    rintro e w12 ⟨rfl, hb⟩
    have X12 : Hid (Below wa.heap.size wa w12) := X11.out.trans (hb.mono X11.out.size)
    have V12 : Hid (Sy.Row w12 wc.heap.size vi M) := V11.out.on hb
    clear hb V11 N11 X11
    go_wp2_with fail
    refine (MK.out HM.out _ _ _ V12.out).mono ?_
    rintro e w13 ⟨rfl, hr13, hg⟩
    have V13 : Hid (Sy.Row w13 wc.heap.size vi Mk) := hr13
    have X13 : Hid (Below wa.heap.size wa w13) := X12.out.trans (below_of_grown hg X12.out.size (fun g h => (by have := (V12.out.lt g h).1; have := Hwc.out; omega)))
    clear hr13 hg V12 X12
    go_wp2_with fail
    refine (HD.out HM.out _ _ V13.out.reads).mono ?_
    rintro e w14 ⟨rfl, hb⟩
    have V14 : Hid (Sy.Row w14 wc.heap.size vi Mk) := V13.out.on hb
    have X14 : Hid (Below wa.heap.size wa w14) := X13.out.trans (hb.mono X13.out.size)
    clear hb V13 X13
    obtain ⟨m1, m2, m3, m4⟩ := CW.out w14 X14.out
    have B14 : Hid (Below w.heap.size w w14) := m4
    obtain ⟨c0, c1, c2, c3, c4, c5, c6, c7, c8, c9, c10, _⟩ := m1.cells
    clear m1 m2 m3 m4
    go_wp2_with fail
    refine (TO.out HL.out _ B14.out).mono ?_
    rintro e w15 ⟨uz, rfl, r, hb⟩
    have R15 : Hid (Ch.Reads w15 uz L) := r.reads
    have V15 : Hid (Sy.Row w15 wc.heap.size vi Mk) := V14.out.on hb
    have X15 : Hid (Below wa.heap.size wa w15) := X14.out.trans (hb.mono X14.out.size)
    clear r hb c0 c1 c2 c3 c4 c5 c6 c7 c8 c9 c10 V14 X14 B14
    go_wp2_with fail
    refine (IA.out HL.out _ _ R15.out).mono ?_
    rintro e w16 ⟨vk, rfl, r, hb⟩
    have W16 : Hid (Sy.Reads w16 vk M) := r.reads
    have V16 : Hid (Sy.Row w16 wc.heap.size vi Mk) := V15.out.on hb
    have X16 : Hid (Below wa.heap.size wa w16) := X15.out.trans (hb.mono X15.out.size)
    clear r hb V15 X15 R15
    obtain ⟨we, hwe⟩ : ∃ we, we = w16.alloc (.cells #[.int .i64 x0, .int .i64 x1, .int .i64 x2, .string x3, .string x4, .int .i64 x5] 32) := ⟨_, rfl⟩
    have HWe : Hid (we = w16.alloc (.cells #[.int .i64 x0, .int .i64 x1, .int .i64 x2, .string x3, .string x4, .int .i64 x5] 32)) := hwe
    have QF : Hid (Below w16.heap.size w16 we) := (by show Below _ _ _; rw [hwe]; exact (Below.refl _ _).alloc (Nat.le_refl _) _)
    have SE : Hid (Sk.SB we w16.heap.size x0 x1 x2 x3 x4 x5) := (by show Sk.SB _ _ _ _ _ _ _ _; rw [hwe]; exact Sk.SB.new w16 x0 x1 x2 x3 x4 x5)
    clear hwe
    have We : Hid (Sy.Reads we vk M) := W16.out.on QF.out
    have Ve : Hid (Sy.Row we wc.heap.size vi Mk) := V16.out.on QF.out
    have Xe : Hid (Below wa.heap.size wa we) := X16.out.trans (QF.out.mono X16.out.size)
    obtain ⟨m1, m2, m3, m4⟩ := CW.out we Xe.out
    have Ne : Hid (Sy.Reads we mv M) := m3
    obtain ⟨a0, a1, a2, a3, a4, a5, _⟩ := SE.out.cells
    obtain ⟨bb0, bb1, bb2, bb3, bb4, bb5, _⟩ := m2.cells
    clear m1 m2 m3 m4 W16 V16 X16
    go_upto_region 25 with fail
    rw [← HWe.out]
    clear HWe
    go_wp2_with fail
    refine (E1.out _).mono ?_
    rintro e w17 ⟨rfl, hb⟩
    have W17 : Hid (Sy.Reads w17 vk M) := We.out.on hb
    have V17 : Hid (Sy.Row w17 wc.heap.size vi Mk) := Ve.out.on hb
    have N17 : Hid (Sy.Reads w17 mv M) := Ne.out.on hb
    have X17 : Hid (Below wa.heap.size wa w17) := Xe.out.trans (hb.mono Xe.out.size)
    clear hb a0 a1 a2 a3 a4 a5 bb0 bb1 bb2 bb3 bb4 bb5 We Ve Xe Ne
    go_wp2_with fail
    refine (ES.out _ _ _ W17.out N17.out).mono ?_
    rintro e w18 ⟨rfl, hb⟩
    have V18 : Hid (Sy.Row w18 wc.heap.size vi Mk) := V17.out.on hb
    have X18 : Hid (Below wa.heap.size wa w18) := X17.out.trans (hb.mono X17.out.size)
    clear hb W17 V17 N17 X17
    go_wp2_with fail
    refine (HD.out HM.out _ _ V18.out.reads).mono ?_
    rintro e w19 ⟨rfl, hb⟩
    have X19 : Hid (Below wa.heap.size wa w19) := X18.out.trans (hb.mono X18.out.size)
    have B19 : Hid (Below w.heap.size w w19) := (CW.out w19 X19.out).2.2.2
    clear hb
    go_wp2_with fail
    go_ret
    exact ⟨rfl, B19.out⟩
end Go.Proofs.Ytmbhlmpdkkjedaa.To
