/- The law of NewCentre, walked. -/
import Derived.Test.YtmmhmbbfeecloaaCe
import Derived.Test.YtmmhmbbfeecloaaRtZ
namespace Go.Proofs.Ytmmhmbbfeecloaa.Nc
open Go.ChangeShapes Go.WideShapes Go.ChangeAt Go.RowKit Rt Su
def Kp (w : World) (B b : Nat) (rv qv : Value) (R : Ls) (Q : Qu.Qs) (nx : Int) : Prop :=
  Bx w b rv qv nx ∧ B ≤ b ∧ Rt.Row w B rv R ∧ Qu.Row w B qv Q ∧ (∀ g, rv.ownBlock = some g → B ≤ g ∧ g < b) ∧ (∀ g, qv.ownBlock = some g → B ≤ g ∧ g < b) ∧ (∀ g, rv.ownBlock = some g → qv.ownBlock ≠ some g)
theorem q_lt {w : World} {B : Nat} {v : Value} {Q : Qu.Qs} (h : Qu.Row w B v Q) (g : Nat) (hg : v.ownBlock = some g) : B ≤ g ∧ g < w.heap.size :=
  (Rt.row_cases h).elim (fun h => by rw [h.2] at hg; cases hg) (fun ⟨g', c, e, h1, h, _⟩ => by rw [e] at hg; cases hg; exact ⟨h1, h⟩)
theorem q_grown {w w' : World} {B : Nat} {v : Value} {Q : Qu.Qs} {row : Option Nat} (h : Qu.Row w B v Q) (hg : w.grownBy w' row) (hne : ∀ g, v.ownBlock = some g → row ≠ some g) : Qu.Row w' B v Q := Rt.row_grown h hg hne
theorem Kp.new {w : World} {B : Nat} {rv qv : Value} {R : Ls} {Q : Qu.Qs} {nx : Int} (hB : B ≤ w.heap.size) (h1 : Rt.Row w B rv R) (h2 : Qu.Row w B qv Q) (h3 : ∀ g, rv.ownBlock = some g → qv.ownBlock ≠ some g) : Kp (w.alloc (.cells #[rv, .int .i64 0, .int .i64 nx, .slice none 0 0, qv] 28)) B w.heap.size rv qv R Q nx :=
  have hb : Below w.heap.size w (w.alloc (.cells #[rv, .int .i64 0, .int .i64 nx, .slice none 0 0, qv] 28)) := (Below.refl _ _).alloc (Nat.le_refl _) _
  ⟨Bx.new w _ _ _, hB, h1.on hb, h2.on hb, fun g hg => h1.lt g hg, fun g hg => q_lt h2 g hg, h3⟩
theorem Kp.on {w w' : World} {B b : Nat} {rv qv : Value} {R : Ls} {Q : Qu.Qs} {nx : Int} (h : Kp w B b rv qv R Q nx) (hb : Below w.heap.size w w') : Kp w' B b rv qv R Q nx := by
  obtain ⟨h1, h2, h3, h4, h5⟩ := h
  exact ⟨h1.on hb h1.1, h2, h3.on hb, h4.on hb, h5⟩
theorem Kp.off {w w' : World} {B b : Nat} {rv qv : Value} {R : Ls} {Q : Qu.Qs} {nx : Int} {row : Option Nat} (h : Kp w B b rv qv R Q nx) (hg : w.grownBy w' row) (hr : ∀ g, row = some g → g < B ∨ b < g) : Kp w' B b rv qv R Q nx := by
  obtain ⟨h1, h2, h3, h4, h5, h6, h7⟩ := h
  exact ⟨h1.grown hg (fun e => by have := hr _ e; omega), h2, h3.grown hg (fun g e1 e2 => by have := hr _ e2; have := h5 g e1; omega), q_grown h4 hg (fun g e1 e2 => by have := hr _ e2; have := h6 g e1; omega), h5, h6, h7⟩
theorem Kp.marked {w wa w' : World} {B b : Nat} {rv qv : Value} {R R' : Ls} {Q Q' : Qu.Qs} {nx : Int} (h : Kp w B b rv qv R Q nx) (g1 : w.grownBy wa rv.ownBlock) (g2 : wa.grownBy w' qv.ownBlock) (r : Rt.Row w' B rv R') (q : Qu.Row w' B qv Q') : Kp w' B b rv qv R' Q' nx := by
  obtain ⟨h1, h2, _, _, h5, h6, h7⟩ := h
  exact ⟨(h1.grown g1 (fun e => by have := h5 _ e; omega)).grown g2 (fun e => by have := h6 _ e; omega), h2, r, q, h5, h6, h7⟩
/-- what a new centre is, plainly -/
theorem new_both (L : Ls) (hl : L.length ≤ 1048576) (hf : Ro.Fit L) : ∃ (R : Ls) (Q : Qu.Qs) (nx : Int) (ok : Bool), R.length ≤ 1048576 ∧ Q.length ≤ 1048576 ∧
    (∀ (w : World) (ad : Addr) (c : Nat), Rt.Reads w (.slice (some ad) L.length c) L → Calls Try.prog 5 #[.slice (some ad) L.length c] w fun e w' => Cen w' w.heap.size e R nx Q ok ∧ Below w.heap.size w w') ∧
    (∀ (w : World) (v : Value), Rt.Reads w v L → Calls Try.prog 7 #[v] w fun e w' => Cen w' w.heap.size e R nx Q ok ∧ Below w.heap.size w w') := by
  by_cases ho : Ro.Ok L
  · refine ⟨L, qz (su L 1000), 1, true, hl, ?_, fun w ad c h => snew_yes L ad c w h hl hf ho, fun w v h => inew_yes L v w h hl hf ho⟩
    rw [qz_len]
    have := su_small ho
    omega
  · exact ⟨[], [], 0, false, by simp, by simp, fun w ad c h => snew_no L _ w h hl hf ho, fun w v h => inew_no L v w h hl hf ho⟩
set_option maxRecDepth 20000 in
set_option maxHeartbeats 4000000 in
theorem ncLaw (v : Value) (L : Ls) (w : World) (h : Rt.Reads w v L) (hf : Rt.Fit L) :
    Calls Try.prog 3 #[v] w fun e w' => e = .returned (.bool true) ∧ Below w.heap.size w w' := by
  have hbb : ∀ b : Bool, (b != b) = false := fun b => by cases b <;> rfl
  have hii : ∀ b : Int, (b != b) = false := fun b => by simp
  have SZ : Hid (Calls Try.prog 4 #[v, .int .i64 1048576] w fun e w' => (∃ r : Int, e = .returned (.int .i64 r) ∧ (0 ≤ r → Rt.Fine L) ∧ r ≤ 1048576) ∧ Below w.heap.size w w') := Rt.sz_any v L 1048576 w (by omega) (by omega) h hf
  have HR : Hid (Rt.Reads w v L) := h
  obtain ⟨va, vc, rfl⟩ := h.form
  have HV : Hid (∃ vn, vn = L.length) := ⟨_, rfl⟩
  clear h hf
  go_enter Try.func3, Try.ntmps3
  go_wp2_with fail
  refine SZ.out.mono ?_
  rintro e w1 ⟨⟨r, rfl, hfine, _⟩, hb⟩
  have B1 : Hid (Below w.heap.size w w1) := hb
  have FI : Hid (0 ≤ r → Rt.Fine L) := hfine
  clear hb hfine SZ HV
  by_cases hneg : r < 0
  · go_wp2_with fail
    go_ret
    exact ⟨rfl, B1.out⟩
  have hpos : 0 ≤ r := by omega
  have hfn := FI.out hpos
  obtain ⟨R, Q, nx, ok, hRn, hQn, hM, hI⟩ := new_both L hfn.1 hfn.2
  have TO : Hid (∀ w', Below w.heap.size w w' → Calls Try.prog 6 #[.slice va L.length vc] w' fun e w'' => ∃ ad cap, e = .returned (.slice (some ad) L.length cap) ∧ Rt.Row w'' w'.heap.size (.slice (some ad) L.length cap) L ∧ Below w'.heap.size w' w'') := fun w' hb => to_own2 w' _ L (HR.out.on hb) hfn.1
  have CM : Hid (∀ (w : World) (ad : Addr) (c : Nat), Rt.Reads w (.slice (some ad) L.length c) L → Calls Try.prog 5 #[.slice (some ad) L.length c] w fun e w' => Cen w' w.heap.size e R nx Q ok ∧ Below w.heap.size w w') := hM
  have CI : Hid (∀ (w : World) (v : Value), Rt.Reads w v L → Calls Try.prog 7 #[v] w fun e w' => Cen w' w.heap.size e R nx Q ok ∧ Below w.heap.size w w') := hI
  have EQ : Hid (∀ (w : World) (R : Ls) (Q : Qu.Qs) (nx : Int) (r1 r2 q1 q2 : Value), Rt.Reads w r1 R → Rt.Reads w r2 R → Qu.Reads w q1 Q → Qu.Reads w q2 Q → Calls Try.prog 8 #[ctr r1 nx q1, ctr r2 nx q2] w fun e w' => e = .returned (.bool true) ∧ Below w.heap.size w w') := fun w R Q nx r1 r2 q1 q2 => ceq_any R Q nx r1 r2 q1 q2 w
  have EQR : Hid (∀ (w : World) (a b : Value), Rt.Reads w a L → Rt.Reads w b L → Calls Try.prog 9 #[a, b] w fun e w' => e = .returned (.bool true) ∧ Below w.heap.size w w') := fun w a b => Rt.eq_same w a b L
  have MK : Hid (∀ (w : World) (B : Nat) (v : Value), Rt.Row w B v L → Calls Try.prog 10 #[v, .int .i64 1] w fun e w' => e = .returned (.int .i64 (1 + (L.length : Int) * 2)) ∧ w.grownBy w' v.ownBlock) := fun w B v h => (by
    obtain ⟨xs, r1, _⟩ := h
    exact (Rt.mark_any w B L.length v xs hfn.1 r1).mono fun e w' hh => ⟨hh.1, hh.2.2⟩)
  have CMK : Hid (∀ (w : World) (B : Nat) (rv qv : Value), Rt.Row w B rv R → Qu.Row w B qv Q → (∀ g, rv.ownBlock = some g → qv.ownBlock ≠ some g) → Calls Try.prog 11 #[ctr rv nx qv, .int .i64 1] w fun e w' => e = .returned (.int .i64 (1 + (R.length : Int) * 2 + (Q.length : Int) * 3)) ∧ Rt.Row w' B rv (mks R.length) ∧ Qu.Row w' B qv (Qu.mq (1 + (R.length : Int) * 2) Q.length) ∧ ∃ wa, w.grownBy wa rv.ownBlock ∧ wa.grownBy w' qv.ownBlock) := fun w B rv qv h1 h2 h3 => cmark_any R Q nx rv qv w B h1 h2 h3 hRn hQn
  have CHD : Hid (∀ (w : World) (rv qv : Value), Rt.Reads w rv (mks R.length) → Qu.Reads w qv (Qu.mq (1 + (R.length : Int) * 2) Q.length) → Calls Try.prog 12 #[ctr rv nx qv, .int .i64 1] w fun e w' => e = .returned (.int .i64 (1 + (R.length : Int) * 2 + (Q.length : Int) * 3)) ∧ Below w.heap.size w w') := fun w rv qv h1 h2 => cheld_any R.length Q.length nx rv qv w h1 h2 hRn hQn
  obtain ⟨kx, hkx⟩ : ∃ kx : Int, 1 + (L.length : Int) * 2 = kx := ⟨_, rfl⟩
  have kx0 : 0 ≤ kx := by omega
  obtain ⟨km, hkm⟩ : ∃ km : Int, 1 + (R.length : Int) * 2 + (Q.length : Int) * 3 = km := ⟨_, rfl⟩
  have km0 : 0 ≤ km := by omega
  rw [hkx] at MK
  rw [hkm] at CMK CHD
  clear hM hI hkx hkm FI hfn HR
  have RL : Hid (∀ {w' : World} {B : Nat} {v : Value}, Rt.Row w' B v R → ∃ a c, v = .slice a R.length c) := fun h => h.form
  have QL : Hid (∀ {w' : World} {B : Nat} {v : Value}, Qu.Row w' B v Q → ∃ a c, v = .slice a Q.length c) := fun h => h.reads.form
  generalize hRn' : R.length = n at *
  generalize hQn' : Q.length = m at *
  generalize hLn' : L.length = l at *
  clear hRn' hQn' hLn'
  -- the model
  go_wp2_with fail
  refine (TO.out _ B1.out).mono ?_
  rintro e w2 ⟨ad, cp, rfl, hr, hb⟩
  have B2 : Hid (Below w.heap.size w w2) := B1.out.trans (hb.mono B1.out.size)
  have C : Hid (Calls Try.prog 5 #[.slice (some ad) l cp] w2 fun e w' => Cen w' w2.heap.size e R nx Q ok ∧ Below w2.heap.size w2 w') := CM.out w2 ad cp hr.reads
  clear hr hb B1 CM
  go_wp2_with fail
  refine C.out.mono ?_
  rintro e w3 ⟨⟨wr, wq, rfl, h1, h2, h3⟩, hb⟩
  have B3 : Hid (Below w.heap.size w w3) := B2.out.trans (hb.mono B2.out.size)
  have hs : w2.heap.size ≤ w3.heap.size := hb.size
  obtain ⟨wra, wrc, rfl⟩ := RL.out h1
  obtain ⟨wqa, wqc, rfl⟩ := QL.out h2
  obtain ⟨w4, hw4⟩ : ∃ w4, w4 = w3.alloc (.cells #[.slice wra n wrc, .int .i64 0, .int .i64 nx, .slice none 0 0, .slice wqa m wqc] 28) := ⟨_, rfl⟩
  have HW4 : Hid (w4 = w3.alloc (.cells #[.slice wra n wrc, .int .i64 0, .int .i64 nx, .slice none 0 0, .slice wqa m wqc] 28)) := hw4
  have K4 : Hid (Kp w4 w2.heap.size w3.heap.size (.slice wra n wrc) (.slice wqa m wqc) R Q nx) := (by show Kp _ _ _ _ _ _ _ _; rw [hw4]; exact Kp.new hs h1 h2 h3)
  have B4 : Hid (Below w.heap.size w w4) := (by show Below _ _ _; rw [hw4]; exact B3.out.alloc B3.out.size _)
  have S4 : Hid (w3.heap.size < w4.heap.size) := (by show _ < _; rw [hw4]; simp)
  clear hw4 h1 h2 h3 hb hs C B2
  go_wp2_with fail
  rw [← HW4.out]
  -- x0
  refine (TO.out _ B4.out).mono ?_
  rintro e w5 ⟨xa, xc, rfl, hr, hb⟩
  have B5 : Hid (Below w.heap.size w w5) := B4.out.trans (hb.mono B4.out.size)
  have K5 : Hid (Kp w5 w2.heap.size w3.heap.size (.slice wra n wrc) (.slice wqa m wqc) R Q nx) := K4.out.on hb
  have X5 : Hid (Rt.Row w5 w4.heap.size (.slice (some xa) l xc) L) := hr
  have XB : Hid (∀ g, (Value.slice (some xa) l xc).ownBlock = some g → w4.heap.size ≤ g ∧ g < w5.heap.size) := fun g hg => hr.lt g hg
  have C : Hid (Calls Try.prog 7 #[.slice (some xa) l xc] w5 fun e w' => Cen w' w5.heap.size e R nx Q ok ∧ Below w5.heap.size w5 w') := CI.out w5 _ hr.reads
  clear hr hb K4 HW4
  go_wp2_with fail
  -- g0
  refine C.out.mono ?_
  rintro e w6 ⟨⟨gr, gq, rfl, h1, h2, h3⟩, hb⟩
  have B6 : Hid (Below w.heap.size w w6) := B5.out.trans (hb.mono B5.out.size)
  have hs : w5.heap.size ≤ w6.heap.size := hb.size
  obtain ⟨gra, grc, rfl⟩ := RL.out h1
  obtain ⟨gqa, gqc, rfl⟩ := QL.out h2
  obtain ⟨w7, hw7⟩ : ∃ w7, w7 = w6.alloc (.cells #[.slice gra n grc, .int .i64 0, .int .i64 nx, .slice none 0 0, .slice gqa m gqc] 28) := ⟨_, rfl⟩
  have HW7 : Hid (w7 = w6.alloc (.cells #[.slice gra n grc, .int .i64 0, .int .i64 nx, .slice none 0 0, .slice gqa m gqc] 28)) := hw7
  have G7 : Hid (Kp w7 w5.heap.size w6.heap.size (.slice gra n grc) (.slice gqa m gqc) R Q nx) := (by show Kp _ _ _ _ _ _ _ _; rw [hw7]; exact Kp.new hs h1 h2 h3)
  have q67 : Below w6.heap.size w6 w7 := (by rw [hw7]; exact (Below.refl _ _).alloc (Nat.le_refl _) _)
  have B7 : Hid (Below w.heap.size w w7) := B6.out.trans (q67.mono B6.out.size)
  have K7 : Hid (Kp w7 w2.heap.size w3.heap.size (.slice wra n wrc) (.slice wqa m wqc) R Q nx) := (K5.out.on hb).on q67
  have X7 : Hid (Rt.Row w7 w4.heap.size (.slice (some xa) l xc) L) := (X5.out.on hb).on q67
  have S5 : Hid (w4.heap.size ≤ w5.heap.size ∧ w5.heap.size ≤ w6.heap.size) := ⟨by
    have := (XB.out xa.block rfl); omega, hs⟩
  clear hw7 h1 h2 h3 hb hs C K5 X5 q67
  go_upto_region 8 with fail
  rw [← HW7.out]
  have C : Hid (Calls Try.prog 8 #[ctr (.slice gra n grc) nx (.slice gqa m gqc), ctr (.slice wra n wrc) nx (.slice wqa m wqc)] w7 fun e w' => e = .returned (.bool true) ∧ Below w7.heap.size w7 w') := EQ.out w7 R Q nx _ _ _ _ G7.out.2.2.1.reads K7.out.2.2.1.reads G7.out.2.2.2.1.reads K7.out.2.2.2.1.reads
  obtain ⟨_, ⟨k0, k1, k2, k3, k4⟩, _⟩ := G7.out.1
  obtain ⟨_, ⟨l0, l1, l2, l3, l4⟩, _⟩ := K7.out.1
  go_wp2_with fail
  refine C.out.mono ?_
  rintro e w8 ⟨rfl, hb⟩
  have B8 : Hid (Below w.heap.size w w8) := B7.out.trans (hb.mono B7.out.size)
  have K8 : Hid (Kp w8 w2.heap.size w3.heap.size (.slice wra n wrc) (.slice wqa m wqc) R Q nx) := K7.out.on hb
  have G8 : Hid (Kp w8 w5.heap.size w6.heap.size (.slice gra n grc) (.slice gqa m gqc) R Q nx) := G7.out.on hb
  have X8 : Hid (Rt.Row w8 w4.heap.size (.slice (some xa) l xc) L) := X7.out.on hb
  clear hb C K7 G7 X7 HW7 k0 k1 k2 k3 k4 l0 l1 l2 l3 l4
  go_wp2_with fail
  refine (TO.out _ B8.out).mono ?_
  rintro e w9 ⟨ya, yc, rfl, hr, hb⟩
  have C : Hid (Calls Try.prog 9 #[.slice (some xa) l xc, .slice (some ya) l yc] w9 fun e w' => e = .returned (.bool true) ∧ Below w9.heap.size w9 w') := EQR.out w9 _ _ (X8.out.on hb).reads hr.reads
  have B9 : Hid (Below w.heap.size w w9) := B8.out.trans (hb.mono B8.out.size)
  have K9 : Hid (Kp w9 w2.heap.size w3.heap.size (.slice wra n wrc) (.slice wqa m wqc) R Q nx) := K8.out.on hb
  have G9 : Hid (Kp w9 w5.heap.size w6.heap.size (.slice gra n grc) (.slice gqa m gqc) R Q nx) := G8.out.on hb
  have X9 : Hid (Rt.Row w9 w4.heap.size (.slice (some xa) l xc) L) := X8.out.on hb
  clear hr hb K8 G8 X8
  go_wp2_with fail
  refine C.out.mono ?_
  rintro e w10 ⟨rfl, hb⟩
  have B10 : Hid (Below w.heap.size w w10) := B9.out.trans (hb.mono B9.out.size)
  have K10 : Hid (Kp w10 w2.heap.size w3.heap.size (.slice wra n wrc) (.slice wqa m wqc) R Q nx) := K9.out.on hb
  have G10 : Hid (Kp w10 w5.heap.size w6.heap.size (.slice gra n grc) (.slice gqa m gqc) R Q nx) := G9.out.on hb
  have C : Hid (Calls Try.prog 10 #[.slice (some xa) l xc, .int .i64 1] w10 fun e w' => e = .returned (.int .i64 kx) ∧ w10.grownBy w' (Value.slice (some xa) l xc).ownBlock) := MK.out w10 _ _ (X9.out.on hb)
  clear hb K9 G9 X9
  go_wp2_with fail
  refine C.out.mono ?_
  rintro e w11 ⟨rfl, hg⟩
  have B11 : Hid (Below w.heap.size w w11) := B10.out.grown hg B10.out.size (fun g h => by have := XB.out g h; have := B4.out.size; omega)
  have K11 : Hid (Kp w11 w2.heap.size w3.heap.size (.slice wra n wrc) (.slice wqa m wqc) R Q nx) := K10.out.off hg (fun g h => by have := XB.out g h; have := S4.out; omega)
  have G11 : Hid (Kp w11 w5.heap.size w6.heap.size (.slice gra n grc) (.slice gqa m gqc) R Q nx) := G10.out.off hg (fun g h => by have := XB.out g h; omega)
  have C : Hid (Calls Try.prog 8 #[ctr (.slice gra n grc) nx (.slice gqa m gqc), ctr (.slice wra n wrc) nx (.slice wqa m wqc)] w11 fun e w' => e = .returned (.bool true) ∧ Below w11.heap.size w11 w') := EQ.out w11 R Q nx _ _ _ _ G11.out.2.2.1.reads K11.out.2.2.1.reads G11.out.2.2.2.1.reads K11.out.2.2.2.1.reads
  clear hg K10 G10
  obtain ⟨_, ⟨k0, k1, k2, k3, k4⟩, _⟩ := G11.out.1
  obtain ⟨_, ⟨l0, l1, l2, l3, l4⟩, _⟩ := K11.out.1
  go_wp2_with fail
  refine C.out.mono ?_
  rintro e w12 ⟨rfl, hb⟩
  have B12 : Hid (Below w.heap.size w w12) := B11.out.trans (hb.mono B11.out.size)
  have K12 : Hid (Kp w12 w2.heap.size w3.heap.size (.slice wra n wrc) (.slice wqa m wqc) R Q nx) := K11.out.on hb
  have G12 : Hid (Kp w12 w5.heap.size w6.heap.size (.slice gra n grc) (.slice gqa m gqc) R Q nx) := G11.out.on hb
  have C : Hid (Calls Try.prog 11 #[ctr (.slice gra n grc) nx (.slice gqa m gqc), .int .i64 1] w12 fun e w' => e = .returned (.int .i64 km) ∧ Rt.Row w' w5.heap.size (.slice gra n grc) (mks n) ∧ Qu.Row w' w5.heap.size (.slice gqa m gqc) (Qu.mq (1 + (n : Int) * 2) m) ∧ ∃ wa, w12.grownBy wa (Value.slice gra n grc).ownBlock ∧ wa.grownBy w' (Value.slice gqa m gqc).ownBlock) := CMK.out w12 _ _ _ G12.out.2.2.1 G12.out.2.2.2.1 G12.out.2.2.2.2.2.2
  clear hb K11 G11 k0 k1 k2 k3 k4 l0 l1 l2 l3 l4
  obtain ⟨_, ⟨k0, k1, k2, k3, k4⟩, _⟩ := G12.out.1
  go_wp2_with fail
  refine C.out.mono ?_
  rintro e w13 ⟨rfl, hr, hq, wa, g1, g2⟩
  have S3 : Hid (∀ g, (Value.slice gra n grc).ownBlock = some g ∨ (Value.slice gqa m gqc).ownBlock = some g → w5.heap.size ≤ g) := fun g h => h.elim (fun h => (G12.out.2.2.2.2.1 g h).1) (fun h => (G12.out.2.2.2.2.2.1 g h).1)
  have B13 : Hid (Below w.heap.size w w13) := (B12.out.grown g1 B12.out.size (fun g h => by have := S3.out g (.inl h); have := B5.out.size; omega)).grown g2 (Nat.le_trans B12.out.size g1.size) (fun g h => by have := S3.out g (.inr h); have := B5.out.size; omega)
  have K13 : Hid (Kp w13 w2.heap.size w3.heap.size (.slice wra n wrc) (.slice wqa m wqc) R Q nx) := (K12.out.off g1 (fun g h => by have := S3.out g (.inl h); have := S4.out; have := S5.out; omega)).off g2 (fun g h => by have := S3.out g (.inr h); have := S4.out; have := S5.out; omega)
  have G13 : Hid (Kp w13 w5.heap.size w6.heap.size (.slice gra n grc) (.slice gqa m gqc) (mks n) (Qu.mq (1 + (n : Int) * 2) m) nx) := G12.out.marked g1 g2 hr hq
  have C : Hid (Calls Try.prog 12 #[ctr (.slice gra n grc) nx (.slice gqa m gqc), .int .i64 1] w13 fun e w' => e = .returned (.int .i64 km) ∧ Below w13.heap.size w13 w') := CHD.out w13 _ _ hr.reads hq.reads
  clear hr hq g1 g2 K12 G12 k0 k1 k2 k3 k4
  obtain ⟨_, ⟨k0, k1, k2, k3, k4⟩, _⟩ := G13.out.1
  go_wp2_with fail
  refine C.out.mono ?_
  rintro e w14 ⟨rfl, hb⟩
  have B14 : Hid (Below w.heap.size w w14) := B13.out.trans (hb.mono B13.out.size)
  have K14 : Hid (Kp w14 w2.heap.size w3.heap.size (.slice wra n wrc) (.slice wqa m wqc) R Q nx) := K13.out.on hb
  have G14 : Hid (Kp w14 w5.heap.size w6.heap.size (.slice gra n grc) (.slice gqa m gqc) (mks n) (Qu.mq (1 + (n : Int) * 2) m) nx) := G13.out.on hb
  clear hb K13 G13 k0 k1 k2 k3 k4
  go_wp2_with fail
  refine (TO.out _ B14.out).mono ?_
  rintro e w15 ⟨za, zc, rfl, hr, hb⟩
  have B15 : Hid (Below w.heap.size w w15) := B14.out.trans (hb.mono B14.out.size)
  have K15 : Hid (Kp w15 w2.heap.size w3.heap.size (.slice wra n wrc) (.slice wqa m wqc) R Q nx) := K14.out.on hb
  have G15 : Hid (Kp w15 w5.heap.size w6.heap.size (.slice gra n grc) (.slice gqa m gqc) (mks n) (Qu.mq (1 + (n : Int) * 2) m) nx) := G14.out.on hb
  have C : Hid (Calls Try.prog 7 #[.slice (some za) l zc] w15 fun e w' => Cen w' w15.heap.size e R nx Q ok ∧ Below w15.heap.size w15 w') := CI.out w15 _ hr.reads
  clear hr hb K14 G14
  go_wp2_with fail
  refine C.out.mono ?_
  rintro e w16 ⟨⟨hr, hq, rfl, h1, h2, h3⟩, hb⟩
  have B16 : Hid (Below w.heap.size w w16) := B15.out.trans (hb.mono B15.out.size)
  obtain ⟨hra, hrc, rfl⟩ := RL.out h1
  obtain ⟨hqa, hqc, rfl⟩ := QL.out h2
  obtain ⟨w17, hw17⟩ : ∃ w17, w17 = w16.alloc (.cells #[.slice hra n hrc, .int .i64 0, .int .i64 nx, .slice none 0 0, .slice hqa m hqc] 28) := ⟨_, rfl⟩
  have HW17 : Hid (w17 = w16.alloc (.cells #[.slice hra n hrc, .int .i64 0, .int .i64 nx, .slice none 0 0, .slice hqa m hqc] 28)) := hw17
  have H17 : Hid (Kp w17 w15.heap.size w16.heap.size (.slice hra n hrc) (.slice hqa m hqc) R Q nx) := (by show Kp _ _ _ _ _ _ _ _; rw [hw17]; exact Kp.new hb.size h1 h2 h3)
  have q67 : Below w16.heap.size w16 w17 := (by rw [hw17]; exact (Below.refl _ _).alloc (Nat.le_refl _) _)
  have B17 : Hid (Below w.heap.size w w17) := B16.out.trans (q67.mono B16.out.size)
  have K17 : Hid (Kp w17 w2.heap.size w3.heap.size (.slice wra n wrc) (.slice wqa m wqc) R Q nx) := (K15.out.on hb).on q67
  have G17 : Hid (Kp w17 w5.heap.size w6.heap.size (.slice gra n grc) (.slice gqa m gqc) (mks n) (Qu.mq (1 + (n : Int) * 2) m) nx) := (G15.out.on hb).on q67
  have C : Hid (Calls Try.prog 8 #[ctr (.slice hra n hrc) nx (.slice hqa m hqc), ctr (.slice wra n wrc) nx (.slice wqa m wqc)] w17 fun e w' => e = .returned (.bool true) ∧ Below w17.heap.size w17 w') := EQ.out w17 R Q nx _ _ _ _ H17.out.2.2.1.reads K17.out.2.2.1.reads H17.out.2.2.2.1.reads K17.out.2.2.2.1.reads
  clear hw17 h1 h2 h3 hb q67 K15 G15
  go_upto_region 25 with fail
  rw [← HW17.out]
  obtain ⟨_, ⟨k0, k1, k2, k3, k4⟩, _⟩ := H17.out.1
  obtain ⟨_, ⟨l0, l1, l2, l3, l4⟩, _⟩ := K17.out.1
  go_wp2_with fail
  refine C.out.mono ?_
  rintro e w18 ⟨rfl, hb⟩
  have B18 : Hid (Below w.heap.size w w18) := B17.out.trans (hb.mono B17.out.size)
  have G18 : Hid (Kp w18 w5.heap.size w6.heap.size (.slice gra n grc) (.slice gqa m gqc) (mks n) (Qu.mq (1 + (n : Int) * 2) m) nx) := G17.out.on hb
  have C : Hid (Calls Try.prog 12 #[ctr (.slice gra n grc) nx (.slice gqa m gqc), .int .i64 1] w18 fun e w' => e = .returned (.int .i64 km) ∧ Below w18.heap.size w18 w') := CHD.out w18 _ _ G18.out.2.2.1.reads G18.out.2.2.2.1.reads
  clear hb K17 G17 H17 HW17 k0 k1 k2 k3 k4 l0 l1 l2 l3 l4
  obtain ⟨_, ⟨k0, k1, k2, k3, k4⟩, _⟩ := G18.out.1
  go_wp2_with fail
  refine C.out.mono ?_
  rintro e w19 ⟨rfl, hb⟩
  have B19 : Hid (Below w.heap.size w w19) := B18.out.trans (hb.mono B18.out.size)
  clear hb k0 k1 k2 k3 k4
  go_wp2_with fail
  go_ret
  exact ⟨rfl, B19.out⟩
end Go.Proofs.Ytmmhmbbfeecloaa.Nc
