/- The law FnExactUnpack walked. -/
import Derived.Test.YtjphljofhfokeaaXpD
namespace Go.Proofs.Ytjphljofhfokeaa.Pkd
open Go.ChangeShapes Go.WideShapes Go.ChangeAt Go.RowKit
open Go.Proofs.Ytjphljofhfokeaa.Lists Go.Proofs.Ytjphljofhfokeaa.Flt Go.Proofs.Ytjphljofhfokeaa.Fls

theorem row_drewN_e {e : TypeId} {w : World} {base n : Nat} {v : Value} {xs : List Value} (h : w.ownsRow base e 1 v n xs) (m : Nat) : (w.drewN m).ownsRow base e 1 v n xs := h

theorem row_apart_e {e : TypeId} {w w' : World} {base n : Nat} {row : Option Nat} {v : Value} {xs : List Value} (h : w.ownsRow base e 1 v n xs) (hg : w.grownBy w' row) (hne : ∀ k j, v.ownBlock = some k → row = some j → k ≠ j) : w'.ownsRow base e 1 v n xs := by
  refine h.kept hg ?_
  cases e : v.ownBlock with
  | none => exact Or.inl rfl
  | some k => exact Or.inr fun x => hne k k e x.symm rfl
def Box7 (w : World) (g : Nat) (v0 v1 v2 v3 v4 v5 v6 : Value) : Prop := w.cell? ⟨g, 0, none⟩ = some v0 ∧ w.cell? ⟨g, 1, none⟩ = some v1 ∧ w.cell? ⟨g, 2, none⟩ = some v2 ∧ w.cell? ⟨g, 3, none⟩ = some v3 ∧ w.cell? ⟨g, 4, none⟩ = some v4 ∧ w.cell? ⟨g, 5, none⟩ = some v5 ∧ w.cell? ⟨g, 6, none⟩ = some v6
theorem Box7.on {w w' : World} {B g : Nat} {v0 v1 v2 v3 v4 v5 v6 : Value} (h : Box7 w g v0 v1 v2 v3 v4 v5 v6) (hb : Below B w w') (hg : g < B) : Box7 w' g v0 v1 v2 v3 v4 v5 v6 := by
  obtain ⟨h0, h1, h2, h3, h4, h5, h6⟩ := h
  exact ⟨(hb.cell (p := ⟨g, 0, none⟩) hg).trans h0, (hb.cell (p := ⟨g, 1, none⟩) hg).trans h1, (hb.cell (p := ⟨g, 2, none⟩) hg).trans h2, (hb.cell (p := ⟨g, 3, none⟩) hg).trans h3, (hb.cell (p := ⟨g, 4, none⟩) hg).trans h4, (hb.cell (p := ⟨g, 5, none⟩) hg).trans h5, (hb.cell (p := ⟨g, 6, none⟩) hg).trans h6⟩
theorem Box7.grown {w w' : World} {g k : Nat} {v0 v1 v2 v3 v4 v5 v6 : Value} (h : Box7 w g v0 v1 v2 v3 v4 v5 v6) (hb : w.grownBy w' (some k)) (hg : g ≠ k) : Box7 w' g v0 v1 v2 v3 v4 v5 v6 := by
  obtain ⟨h0, h1, h2, h3, h4, h5, h6⟩ := h
  have e : some g ≠ some k := by simpa using hg
  exact ⟨hb.cell h0 e, hb.cell h1 e, hb.cell h2 e, hb.cell h3 e, hb.cell h4 e, hb.cell h5 e, hb.cell h6 e⟩
theorem Box7.apart {w w' : World} {g : Nat} {row : Option Nat} {v0 v1 v2 v3 v4 v5 v6 : Value} (h : Box7 w g v0 v1 v2 v3 v4 v5 v6) (hb : w.grownBy w' row) (hg : ∀ k, row = some k → g ≠ k) : Box7 w' g v0 v1 v2 v3 v4 v5 v6 := by
  obtain ⟨h0, h1, h2, h3, h4, h5, h6⟩ := h
  have e : some g ≠ row := fun x => hg g x.symm rfl
  exact ⟨hb.cell h0 e, hb.cell h1 e, hb.cell h2 e, hb.cell h3 e, hb.cell h4 e, hb.cell h5 e, hb.cell h6 e⟩

set_option maxRecDepth 20000 in
set_option maxHeartbeats 1000000 in
theorem unpackLaw (p : Pk) (tv cv : Value) (w : World) (hT : Bytes.Reads w tv p.th) (hC : Lists.Reads w cv p.cd) (hB : byts p.th) (m1 : p.th.length < 9223372036854775808) (m2 : p.cd.length < 9223372036854775808) :
    Calls Try.prog 4 #[pkv p tv cv] w fun e w' => e = .returned (.bool true) ∧ Below w.heap.size w w' := by
  obtain ⟨ta, tcap, rfl⟩ := hT.form
  obtain ⟨ca, ccap, rfl⟩ := hC.form
  have SZ : Hid (∀ w', Calls Try.prog 13 #[pkv p (.slice ta p.th.length tcap) (.slice ca p.cd.length ccap), .int .i64 1048576] w' fun e w'' => (∃ l : Int, e = .returned (.int .i64 l) ∧ (0 ≤ l → p.th.length ≤ 1048576 ∧ p.cd.length ≤ 1048576)) ∧ Below w'.heap.size w' w'') := fun w' => sz_any _ _ _ _ _ _ _ _ _ _ _ w' m1 m2
  have TO : Hid (p.th.length ≤ 1048576 → p.cd.length ≤ 1048576 → ∀ w', Below w.heap.size w w' → Calls Try.prog 15 #[pkv p (.slice ta p.th.length tcap) (.slice ca p.cd.length ccap)] w' fun e w'' => ∃ g1 g2, e = .returned (pkv p (.slice (some ⟨g1, 0, none⟩) p.th.length p.th.length) (.slice (some ⟨g2, 0, none⟩) p.cd.length p.cd.length)) ∧ w'.heap.size ≤ g1 ∧ g1 < g2 ∧ w''.ownsRow w'.heap.size 5 1 (.slice (some ⟨g1, 0, none⟩) p.th.length p.th.length) p.th.length (Bytes.bys p.th) ∧ w''.ownsRow w'.heap.size 2 1 (.slice (some ⟨g2, 0, none⟩) p.cd.length p.cd.length) p.cd.length (ints p.cd) ∧ Below w'.heap.size w' w'') := fun l1 l2 w' hb => by exact to_packed p _ _ w' (hT.on hb) (hC.on hb) l1 l2
  have hl2 := ups_len p
  obtain ⟨S, hS⟩ : ∃ S, S = ups p := ⟨_, rfl⟩
  obtain ⟨b, hb⟩ : ∃ b, b = okI p := ⟨_, rfl⟩
  have SU : Hid (p.th.length ≤ 1048576 → p.cd.length ≤ 1048576 → ∀ (w' : World) (A : Nat) (t1 c1 : Value), w'.ownsRow A 5 1 t1 p.th.length (Bytes.bys p.th) → w'.ownsRow A 2 1 c1 p.cd.length (ints p.cd) → Calls Try.prog 14 #[pkv p t1 c1] w' fun e w'' => ∃ v, e = .returned (.tuple #[v, .bool b]) ∧ (∃ M : List Nat, w''.ownsRow w'.heap.size 41 1 v M.length (flts M) ∧ M.map cn = S.map cn) ∧ Below w'.heap.size w' w'') := fun l1 l2 w' A t1 c1 r1 r2 => by
    rw [hS, hb]
    exact sup_any p t1 c1 w' (Bytes.reads_row r1) (Lists.reads_row r2) hB l1 l2
  have IU : Hid (p.th.length ≤ 1048576 → p.cd.length ≤ 1048576 → ∀ (w' : World) (A : Nat) (t1 c1 : Value), w'.ownsRow A 5 1 t1 p.th.length (Bytes.bys p.th) → w'.ownsRow A 2 1 c1 p.cd.length (ints p.cd) → Calls Try.prog 16 #[pkv p t1 c1] w' fun e w'' => ∃ v, e = .returned (.tuple #[v, .bool b]) ∧ w''.ownsRow w'.heap.size 41 1 v S.length (flts S) ∧ Below w'.heap.size w' w'') := fun l1 l2 w' A t1 c1 r1 r2 => by
    rw [hS, hb]
    exact iup_any p t1 c1 w' (Bytes.reads_row r1) (Lists.reads_row r2) hB l1 l2
  rw [← hS] at hl2
  have hbb : (b != b) = false := by cases b <;> rfl
  have hqq : ((1 : Int) + (S.length : Int) != 1 + (S.length : Int)) = false := by simp
  have hq0 : ¬ (1 : Int) + (S.length : Int) < 0 := by omega
  have hq1 : ¬ (1 : Int) + (p.th.length : Int) + (p.cd.length : Int) < 0 := by omega
  clear hS hb hT hC hB
  unfold pkv at SZ TO SU IU ⊢
  obtain ⟨wa, hwa⟩ : ∃ wa, wa = w.alloc (Obj.cells #[.int .i64 p.cnt, .int .i64 p.dec, .int .i64 p.ref, .int .i64 p.exp, .int .i64 p.bits, .slice ta p.th.length tcap, .slice ca p.cd.length ccap] 35) := ⟨_, rfl⟩
  have HWA : Hid (wa = w.alloc (Obj.cells #[.int .i64 p.cnt, .int .i64 p.dec, .int .i64 p.ref, .int .i64 p.exp, .int .i64 p.bits, .slice ta p.th.length tcap, .slice ca p.cd.length ccap] 35)) := hwa
  have BA : Hid (Below w.heap.size w wa) := (by show Below _ _ _; rw [hwa]; exact (Below.refl _ _).alloc (Nat.le_refl _) _)
  have za : wa.heap.size = w.heap.size + 1 := by rw [hwa]; simp
  have XA : Hid (Box7 wa w.heap.size (.int .i64 p.cnt) (.int .i64 p.dec) (.int .i64 p.ref) (.int .i64 p.exp) (.int .i64 p.bits) (.slice ta p.th.length tcap) (.slice ca p.cd.length ccap)) := (by show Box7 _ _ _ _ _ _ _ _ _; rw [hwa]; unfold Box7; simp [go_sem])
  clear hwa
  go_enter Try.func4, Try.ntmps4
  go_wp2_with fail
  rw [← HWA.out]
  refine (SZ.out wa).mono ?_
  rintro e w0 ⟨⟨l, rfl, hl⟩, b0⟩
  have B0 : Hid (Below w.heap.size w w0) := BA.out.trans (b0.mono (by omega))
  have z0 := b0.size
  have X0 := XA.out.on b0 (by omega)
  clear b0 HWA XA BA
  by_cases hneg : l < 0
  · go_wp2_with fail
    go_ret
    exact ⟨rfl, B0.out⟩
  obtain ⟨l1, l2⟩ := hl (by omega)
  obtain ⟨c0, c1, c2, c3, c4, c5, c6⟩ := X0
  go_wp2_with fail
  refine (TO.out l1 l2 w0 B0.out).mono ?_
  rintro e w1 ⟨g1, g2, rfl, g3, g4, r1, r2, b1⟩
  have B1 : Hid (Below w.heap.size w w1) := B0.out.trans (b1.mono (by omega))
  have R1 : Hid (w1.ownsRow w0.heap.size 5 1 (.slice (some ⟨g1, 0, none⟩) p.th.length p.th.length) p.th.length (Bytes.bys p.th)) := r1
  have R1' : Hid (w1.ownsRow w0.heap.size 2 1 (.slice (some ⟨g2, 0, none⟩) p.cd.length p.cd.length) p.cd.length (ints p.cd)) := r2
  have X1 : Hid (Box7 w1 w.heap.size (.int .i64 p.cnt) (.int .i64 p.dec) (.int .i64 p.ref) (.int .i64 p.exp) (.int .i64 p.bits) (.slice ta p.th.length tcap) (.slice ca p.cd.length ccap)) := Box7.on ⟨c0, c1, c2, c3, c4, c5, c6⟩ b1 (by omega)
  have z1 := b1.size
  clear r1 r2 b1 c0 c1 c2 c3 c4 c5 c6
  go_wp2_with fail
  refine (SU.out l1 l2 w1 _ _ _ R1.out R1'.out).mono ?_
  rintro e w2 ⟨v0, rfl, ⟨M, r2, hM⟩, b2⟩
  have z2 := b2.size
  have B2 : Hid (Below w.heap.size w w2) := B1.out.trans (b2.mono (by omega))
  have HM : Hid (S.map cn = M.map cn) := hM.symm
  have R2 : Hid (w2.ownsRow w1.heap.size 41 1 v0 M.length (flts M)) := r2
  obtain ⟨c0, c1, c2, c3, c4, c5, c6⟩ := X1.out.on b2 (by omega)
  clear r2 b2 R1 R1' B1 hM X1
  go_wp2_with fail
  refine (TO.out l1 l2 w2 B2.out).mono ?_
  rintro e w3 ⟨k1, k2, rfl, k3, k4, r3, r3', b3⟩
  have z3 := b3.size
  have B3 : Hid (Below w.heap.size w w3) := B2.out.trans (b3.mono (by omega))
  have T3 : Hid (w3.ownsRow w2.heap.size 5 1 (.slice (some ⟨k1, 0, none⟩) p.th.length p.th.length) p.th.length (Bytes.bys p.th)) := r3
  have Y3 : Hid (w3.ownsRow w2.heap.size 2 1 (.slice (some ⟨k2, 0, none⟩) p.cd.length p.cd.length) p.cd.length (ints p.cd)) := r3'
  have R3 : Hid (w3.ownsRow w1.heap.size 41 1 v0 M.length (flts M)) := row_later_e R2.out b3 (Nat.le_refl _)
  have l0 : Hid (∀ k, v0.ownBlock = some k → k < w2.heap.size) := fun k hk => (R2.out.lt k hk).2
  have x3 := (T3.out.lt k1 rfl).2
  have y3 := (Y3.out.lt k2 rfl).2
  have X3 : Hid (Box7 w3 w.heap.size (.int .i64 p.cnt) (.int .i64 p.dec) (.int .i64 p.ref) (.int .i64 p.exp) (.int .i64 p.bits) (.slice ta p.th.length tcap) (.slice ca p.cd.length ccap)) := Box7.on ⟨c0, c1, c2, c3, c4, c5, c6⟩ b3 (by omega)
  clear r3 r3' b3 R2 B2 c0 c1 c2 c3 c4 c5 c6
  obtain ⟨wb, hwb⟩ : ∃ wb, wb = w3.alloc (Obj.cells #[.int .i64 p.cnt, .int .i64 p.dec, .int .i64 p.ref, .int .i64 p.exp, .int .i64 p.bits, .slice (some ⟨k1, 0, none⟩) p.th.length p.th.length, .slice (some ⟨k2, 0, none⟩) p.cd.length p.cd.length] 26) := ⟨_, rfl⟩
  have HWB : Hid (wb = w3.alloc (Obj.cells #[.int .i64 p.cnt, .int .i64 p.dec, .int .i64 p.ref, .int .i64 p.exp, .int .i64 p.bits, .slice (some ⟨k1, 0, none⟩) p.th.length p.th.length, .slice (some ⟨k2, 0, none⟩) p.cd.length p.cd.length] 26)) := hwb
  have bb : Below w3.heap.size w3 wb := by rw [hwb]; exact (Below.refl _ _).alloc (Nat.le_refl _) _
  have zb : wb.heap.size = w3.heap.size + 1 := by rw [hwb]; simp
  have ZB : Hid (Box7 wb w3.heap.size (.int .i64 p.cnt) (.int .i64 p.dec) (.int .i64 p.ref) (.int .i64 p.exp) (.int .i64 p.bits) (.slice (some ⟨k1, 0, none⟩) p.th.length p.th.length) (.slice (some ⟨k2, 0, none⟩) p.cd.length p.cd.length)) := (by show Box7 _ _ _ _ _ _ _ _ _; rw [hwb]; unfold Box7; simp [go_sem])
  have TB : Hid (wb.ownsRow w2.heap.size 5 1 (.slice (some ⟨k1, 0, none⟩) p.th.length p.th.length) p.th.length (Bytes.bys p.th)) := row_later_e T3.out bb (Nat.le_refl _)
  have YB : Hid (wb.ownsRow w2.heap.size 2 1 (.slice (some ⟨k2, 0, none⟩) p.cd.length p.cd.length) p.cd.length (ints p.cd)) := row_later_e Y3.out bb (Nat.le_refl _)
  have RB : Hid (wb.ownsRow w1.heap.size 41 1 v0 M.length (flts M)) := row_later_e R3.out bb (Nat.le_refl _)
  have XB : Hid (Box7 wb w.heap.size (.int .i64 p.cnt) (.int .i64 p.dec) (.int .i64 p.ref) (.int .i64 p.exp) (.int .i64 p.bits) (.slice ta p.th.length tcap) (.slice ca p.cd.length ccap)) := X3.out.on bb (by omega)
  have BB : Hid (Below w.heap.size w wb) := B3.out.trans (bb.mono (by omega))
  clear hwb bb X3 R3 Y3 T3 B3
  go_wp2_with fail
  rw [← HWB.out]
  refine (IU.out l1 l2 wb _ _ _ TB.out YB.out).mono ?_
  rintro e w4 ⟨v1, rfl, r4, b4⟩
  have z4 := b4.size
  have B4 : Hid (Below w.heap.size w w4) := BB.out.trans (b4.mono (by omega))
  have T4 : Hid (w4.ownsRow w2.heap.size 5 1 (.slice (some ⟨k1, 0, none⟩) p.th.length p.th.length) p.th.length (Bytes.bys p.th)) := row_later_e TB.out b4 (Nat.le_refl _)
  have Y4 : Hid (w4.ownsRow w2.heap.size 2 1 (.slice (some ⟨k2, 0, none⟩) p.cd.length p.cd.length) p.cd.length (ints p.cd)) := row_later_e YB.out b4 (Nat.le_refl _)
  have R4 : Hid (w4.ownsRow w1.heap.size 41 1 v0 M.length (flts M)) := row_later_e RB.out b4 (Nat.le_refl _)
  have V4 : Hid (w4.ownsRow wb.heap.size 41 1 v1 S.length (flts S)) := r4
  have lv : Hid (∀ k, v1.ownBlock = some k → wb.heap.size ≤ k) := fun k hk => (V4.out.lt k hk).1
  have X4 : Hid (Box7 w4 w.heap.size (.int .i64 p.cnt) (.int .i64 p.dec) (.int .i64 p.ref) (.int .i64 p.exp) (.int .i64 p.bits) (.slice ta p.th.length tcap) (.slice ca p.cd.length ccap)) := XB.out.on b4 (by omega)
  have Z4 : Hid (Box7 w4 w3.heap.size (.int .i64 p.cnt) (.int .i64 p.dec) (.int .i64 p.ref) (.int .i64 p.exp) (.int .i64 p.bits) (.slice (some ⟨k1, 0, none⟩) p.th.length p.th.length) (.slice (some ⟨k2, 0, none⟩) p.cd.length p.cd.length)) := ZB.out.on b4 (by omega)
  clear r4 b4 RB TB YB XB ZB BB HWB
  go_wp2_with fail
  refine (Fls.eq_cn _ _ _ S M HM.out (Fls.reads_row V4.out) (Fls.reads_row R4.out)).mono ?_
  rintro e w5 ⟨rfl, n5, hw5⟩
  have z5 : w5.heap.size = w4.heap.size := by rw [hw5]; rfl
  have B5 : Hid (Below w.heap.size w w5) := (by show Below _ _ _; rw [hw5]; exact below_drewN B4.out n5)
  obtain ⟨c0, c1, c2, c3, c4, c5, c6⟩ : Box7 w5 w.heap.size (.int .i64 p.cnt) (.int .i64 p.dec) (.int .i64 p.ref) (.int .i64 p.exp) (.int .i64 p.bits) (.slice ta p.th.length tcap) (.slice ca p.cd.length ccap) := by rw [hw5]; exact X4.out
  obtain ⟨d0, d1, d2, d3, d4, d5, d6⟩ : Box7 w5 w3.heap.size (.int .i64 p.cnt) (.int .i64 p.dec) (.int .i64 p.ref) (.int .i64 p.exp) (.int .i64 p.bits) (.slice (some ⟨k1, 0, none⟩) p.th.length p.th.length) (.slice (some ⟨k2, 0, none⟩) p.cd.length p.cd.length) := by rw [hw5]; exact Z4.out
  have T5 : Hid ((w5.drew).ownsRow w2.heap.size 5 1 (.slice (some ⟨k1, 0, none⟩) p.th.length p.th.length) p.th.length (Bytes.bys p.th)) := (by show World.ownsRow _ _ _ _ _ _ _; rw [hw5]; exact T4.out)
  have Y5 : Hid ((w5.drew).ownsRow w2.heap.size 2 1 (.slice (some ⟨k2, 0, none⟩) p.cd.length p.cd.length) p.cd.length (ints p.cd)) := (by show World.ownsRow _ _ _ _ _ _ _; rw [hw5]; exact Y4.out)
  have R5 : Hid ((w5.drew).ownsRow w1.heap.size 41 1 v0 M.length (flts M)) := (by show World.ownsRow _ _ _ _ _ _ _; rw [hw5]; exact R4.out)
  have V5 : Hid ((w5.drew).ownsRow wb.heap.size 41 1 v1 S.length (flts S)) := (by show World.ownsRow _ _ _ _ _ _ _; rw [hw5]; exact V4.out)
  have D5 : Hid (Below w.heap.size w (w5.drew)) := below_drewN B5.out 1
  have X5 : Hid (Box7 (w5.drew) w.heap.size (.int .i64 p.cnt) (.int .i64 p.dec) (.int .i64 p.ref) (.int .i64 p.exp) (.int .i64 p.bits) (.slice ta p.th.length tcap) (.slice ca p.cd.length ccap)) := ⟨c0, c1, c2, c3, c4, c5, c6⟩
  have Z5 : Hid (Box7 (w5.drew) w3.heap.size (.int .i64 p.cnt) (.int .i64 p.dec) (.int .i64 p.ref) (.int .i64 p.exp) (.int .i64 p.bits) (.slice (some ⟨k1, 0, none⟩) p.th.length p.th.length) (.slice (some ⟨k2, 0, none⟩) p.cd.length p.cd.length)) := ⟨d0, d1, d2, d3, d4, d5, d6⟩
  have y5 : w.heap.size < w5.heap.size ∧ w3.heap.size < w5.heap.size := by omega
  clear T4 Y4 R4 V4 X4 Z4 B4 B5 hw5
  go_wp2_with fail
  go_region_held3 (fun w' => w'.cell? ⟨w.heap.size, 0, none⟩ = some (.int .i64 p.cnt) ∧ w'.cell? ⟨w.heap.size, 1, none⟩ = some (.int .i64 p.dec) ∧ w'.cell? ⟨w.heap.size, 2, none⟩ = some (.int .i64 p.ref) ∧ w'.cell? ⟨w.heap.size, 3, none⟩ = some (.int .i64 p.exp) ∧ w'.cell? ⟨w.heap.size, 4, none⟩ = some (.int .i64 p.bits) ∧ w'.cell? ⟨w.heap.size, 5, none⟩ = some (.slice ta p.th.length tcap) ∧ w'.cell? ⟨w.heap.size, 6, none⟩ = some (.slice ca p.cd.length ccap) ∧ w'.cell? ⟨w3.heap.size, 0, none⟩ = some (.int .i64 p.cnt) ∧ w'.cell? ⟨w3.heap.size, 1, none⟩ = some (.int .i64 p.dec) ∧ w'.cell? ⟨w3.heap.size, 2, none⟩ = some (.int .i64 p.ref) ∧ w'.cell? ⟨w3.heap.size, 3, none⟩ = some (.int .i64 p.exp) ∧ w'.cell? ⟨w3.heap.size, 4, none⟩ = some (.int .i64 p.bits) ∧ w'.cell? ⟨w3.heap.size, 5, none⟩ = some (.slice (some ⟨k1, 0, none⟩) p.th.length p.th.length) ∧ w'.cell? ⟨w3.heap.size, 6, none⟩ = some (.slice (some ⟨k2, 0, none⟩) p.cd.length p.cd.length)) (go_keep)
    (first
    | (go_at_call 15; refine (TO.out l1 l2 _ D5.out).mono ?_; rintro e w6 ⟨j1, j2, rfl, j3, j4, r6, r6', b6⟩; have z6 : w5.heap.size ≤ w6.heap.size := b6.size; have X6 : Box7 w6 w.heap.size (.int .i64 p.cnt) (.int .i64 p.dec) (.int .i64 p.ref) (.int .i64 p.exp) (.int .i64 p.bits) (.slice ta p.th.length tcap) (.slice ca p.cd.length ccap) := X5.out.on b6 y5.1; obtain ⟨e0, e1, e2, e3, e4, e5, e6⟩ := X6; have Z6 : Box7 w6 w3.heap.size (.int .i64 p.cnt) (.int .i64 p.dec) (.int .i64 p.ref) (.int .i64 p.exp) (.int .i64 p.bits) (.slice (some ⟨k1, 0, none⟩) p.th.length p.th.length) (.slice (some ⟨k2, 0, none⟩) p.cd.length p.cd.length) := Z5.out.on b6 y5.2; obtain ⟨f0, f1, f2, f3, f4, f5, f6⟩ := Z6; have T6 : Hid (w6.ownsRow w2.heap.size 5 1 (.slice (some ⟨k1, 0, none⟩) p.th.length p.th.length) p.th.length (Bytes.bys p.th)) := row_later_e T5.out b6 (Nat.le_refl _); have Y6 : Hid (w6.ownsRow w2.heap.size 2 1 (.slice (some ⟨k2, 0, none⟩) p.cd.length p.cd.length) p.cd.length (ints p.cd)) := row_later_e Y5.out b6 (Nat.le_refl _); have R6 : Hid (w6.ownsRow w1.heap.size 41 1 v0 M.length (flts M)) := row_later_e R5.out b6 (Nat.le_refl _); have V6 : Hid (w6.ownsRow wb.heap.size 41 1 v1 S.length (flts S)) := row_later_e V5.out b6 (Nat.le_refl _); have B6 : Hid (Below w.heap.size w w6) := D5.out.trans (b6.mono (by show w.heap.size ≤ w5.heap.size; exact Nat.le_of_lt y5.1)); have Q6 : Hid (w6.ownsRow (w5.drew).heap.size 5 1 (.slice (some ⟨j1, 0, none⟩) p.th.length p.th.length) p.th.length (Bytes.bys p.th)) := r6; have Q6' : Hid (w6.ownsRow (w5.drew).heap.size 2 1 (.slice (some ⟨j2, 0, none⟩) p.cd.length p.cd.length) p.cd.length (ints p.cd)) := r6'; clear r6 r6' b6)
    | (go_at_call 8; refine (eq_packed p _ _ _ _ _ _ _ _ _ T6.out Q6.out Y6.out Q6'.out).mono ?_; rintro e w7 ⟨rfl, b7⟩; have z7 := b7.size; have X7 : Box7 w7 w.heap.size (.int .i64 p.cnt) (.int .i64 p.dec) (.int .i64 p.ref) (.int .i64 p.exp) (.int .i64 p.bits) (.slice ta p.th.length tcap) (.slice ca p.cd.length ccap) := Box7.on ⟨e0, e1, e2, e3, e4, e5, e6⟩ b7 (by omega); have A7 : Hid (Box7 w7 w.heap.size (.int .i64 p.cnt) (.int .i64 p.dec) (.int .i64 p.ref) (.int .i64 p.exp) (.int .i64 p.bits) (.slice ta p.th.length tcap) (.slice ca p.cd.length ccap)) := X7; have T7 : Hid (w7.ownsRow w2.heap.size 5 1 (.slice (some ⟨k1, 0, none⟩) p.th.length p.th.length) p.th.length (Bytes.bys p.th)) := row_later_e T6.out b7 (Nat.le_refl _); have Y7 : Hid (w7.ownsRow w2.heap.size 2 1 (.slice (some ⟨k2, 0, none⟩) p.cd.length p.cd.length) p.cd.length (ints p.cd)) := row_later_e Y6.out b7 (Nat.le_refl _); have R7 : Hid (w7.ownsRow w1.heap.size 41 1 v0 M.length (flts M)) := row_later_e R6.out b7 (Nat.le_refl _); have V7 : Hid (w7.ownsRow wb.heap.size 41 1 v1 S.length (flts S)) := row_later_e V6.out b7 (Nat.le_refl _); have B7 : Hid (Below w.heap.size w w7) := B6.out.trans (b7.mono B6.out.size); obtain ⟨y0, y1, y2, y3', y4, y5', y6⟩ := X7; have Z7 : Box7 w7 w3.heap.size (.int .i64 p.cnt) (.int .i64 p.dec) (.int .i64 p.ref) (.int .i64 p.exp) (.int .i64 p.bits) (.slice (some ⟨k1, 0, none⟩) p.th.length p.th.length) (.slice (some ⟨k2, 0, none⟩) p.cd.length p.cd.length) := Box7.on ⟨f0, f1, f2, f3, f4, f5, f6⟩ b7 (by omega); obtain ⟨h0, h1, h2, h3, h4, h5, h6⟩ := Z7; clear b7))
  clear y0 y1 y2 y3' y4 y5' y6 e0 e1 e2 e3 e4 e5 e6 f0 f1 f2 f3 f4 f5 f6 c0 c1 c2 c3 c4 c5 c6 d0 d1 d2 d3 d4 d5 d6 T6 Y6 R6 V6 B6 Q6 Q6' T5 Y5 R5 V5 D5 X5 Z5
  go_wp2_with fail
  refine (mark_packed p k1 k2 w7 w2.heap.size T7.out Y7.out k4 l1 l2).mono ?_
  rintro e w8 ⟨rfl, ux, uy, b8, g8, g8'⟩
  have zx := b8.size
  have zy := g8.size
  have z8 := g8'.size
  have R8 : Hid (w8.ownsRow w1.heap.size 41 1 v0 M.length (flts M)) := row_grown_e (row_grown_e (row_later_e R7.out b8 (Nat.le_refl _)) g8 (fun k hk => by have := l0.out k hk; omega)) g8' (fun k hk => by have := l0.out k hk; omega)
  have V8 : Hid (w8.ownsRow wb.heap.size 41 1 v1 S.length (flts S)) := row_grown_e (row_grown_e (row_later_e V7.out b8 (Nat.le_refl _)) g8 (fun k hk => by have := lv.out k hk; omega)) g8' (fun k hk => by have := lv.out k hk; omega)
  have X8 : Hid (Box7 w8 w.heap.size (.int .i64 p.cnt) (.int .i64 p.dec) (.int .i64 p.ref) (.int .i64 p.exp) (.int .i64 p.bits) (.slice ta p.th.length tcap) (.slice ca p.cd.length ccap)) := ((A7.out.on b8 (by omega)).grown g8 (by omega)).grown g8' (by omega)
  have B8 : Hid (Below w.heap.size w w8) := ((B7.out.trans (b8.mono (by omega))).grown g8 (by omega) (fun k hk => by cases hk; omega)).grown g8' (by omega) (fun k hk => by cases hk; omega)
  clear b8 g8 g8' T7 Y7 R7 V7 A7 B7 h0 h1 h2 h3 h4 h5 h6
  go_wp2_with fail
  refine (Fls.eq_cn _ _ _ S M HM.out (Fls.reads_row V8.out) (Fls.reads_row R8.out)).mono ?_
  rintro e w9 ⟨rfl, n9, hw9⟩
  have z9 : w9.heap.size = w8.heap.size := by rw [hw9]; rfl
  have R9 : Hid (w9.ownsRow w1.heap.size 41 1 v0 M.length (flts M)) := (by show World.ownsRow _ _ _ _ _ _ _; rw [hw9]; exact R8.out)
  have V9 : Hid (w9.ownsRow wb.heap.size 41 1 v1 S.length (flts S)) := (by show World.ownsRow _ _ _ _ _ _ _; rw [hw9]; exact V8.out)
  have X9 : Hid (Box7 w9 w.heap.size (.int .i64 p.cnt) (.int .i64 p.dec) (.int .i64 p.ref) (.int .i64 p.exp) (.int .i64 p.bits) (.slice ta p.th.length tcap) (.slice ca p.cd.length ccap)) := (by show Box7 _ _ _ _ _ _ _ _ _; rw [hw9]; exact X8.out)
  have B9 : Hid (Below w.heap.size w w9) := (by show Below _ _ _; rw [hw9]; exact below_drewN B8.out n9)
  clear hw9 R8 V8 X8 B8
  go_wp2_with fail
  refine (Fls.mark_any w9 wb.heap.size v1 S 1 (by omega) (by omega) (by omega) V9.out).mono ?_
  rintro e w10 ⟨rfl, r10, g10⟩
  have z10 := g10.size
  have V10 : Hid (w10.ownsRow wb.heap.size 41 1 v1 S.length (flts (Fls.sq 1 S.length))) := r10
  have R10 : Hid (w10.ownsRow w1.heap.size 41 1 v0 M.length (flts M)) := row_apart_e R9.out g10 (fun k j hk hj => by have := l0.out k hk; have := lv.out j hj; omega)
  have X10 : Hid (Box7 w10 w.heap.size (.int .i64 p.cnt) (.int .i64 p.dec) (.int .i64 p.ref) (.int .i64 p.exp) (.int .i64 p.bits) (.slice ta p.th.length tcap) (.slice ca p.cd.length ccap)) := X9.out.apart g10 (fun k hk => by have := lv.out k hk; omega)
  have B10 : Hid (Below w.heap.size w w10) := B9.out.grown g10 (by omega) (fun k hk => by have := lv.out k hk; omega)
  clear r10 g10 R9 V9 X9 B9
  go_wp2_with fail
  refine (Fls.held_any w10 v1 S.length 1 (by omega) (by omega) (by omega) (Fls.reads_row (L := Fls.sq 1 S.length) (by rw [Fls.sq_len]; exact V10.out))).mono ?_
  rintro e w11 ⟨rfl, n11, hw11⟩
  have z11 : w11.heap.size = w10.heap.size := by rw [hw11]; rfl
  have R11 : Hid (w11.ownsRow w1.heap.size 41 1 v0 M.length (flts M)) := (by show World.ownsRow _ _ _ _ _ _ _; rw [hw11]; exact R10.out)
  have V11 : Hid (w11.ownsRow wb.heap.size 41 1 v1 S.length (flts (Fls.sq 1 S.length))) := (by show World.ownsRow _ _ _ _ _ _ _; rw [hw11]; exact V10.out)
  have X11 : Box7 w11 w.heap.size (.int .i64 p.cnt) (.int .i64 p.dec) (.int .i64 p.ref) (.int .i64 p.exp) (.int .i64 p.bits) (.slice ta p.th.length tcap) (.slice ca p.cd.length ccap) := by rw [hw11]; exact X10.out
  have B11 : Hid (Below w.heap.size w w11) := (by show Below _ _ _; rw [hw11]; exact below_drewN B10.out n11)
  obtain ⟨c0, c1, c2, c3, c4, c5, c6⟩ := X11
  clear hw11 R10 V10 X10 B10
  go_wp2_with fail
  refine (TO.out l1 l2 w11 B11.out).mono ?_
  rintro e w12 ⟨j1, j2, rfl, j3, j4, r12, r12', b12⟩
  have z12 := b12.size
  have T12 : Hid (w12.ownsRow w11.heap.size 5 1 (.slice (some ⟨j1, 0, none⟩) p.th.length p.th.length) p.th.length (Bytes.bys p.th)) := r12
  have Y12 : Hid (w12.ownsRow w11.heap.size 2 1 (.slice (some ⟨j2, 0, none⟩) p.cd.length p.cd.length) p.cd.length (ints p.cd)) := r12'
  have R12 : Hid (w12.ownsRow w1.heap.size 41 1 v0 M.length (flts M)) := row_later_e R11.out b12 (Nat.le_refl _)
  have V12 : Hid (w12.ownsRow wb.heap.size 41 1 v1 S.length (flts (Fls.sq 1 S.length))) := row_later_e V11.out b12 (Nat.le_refl _)
  have B12 : Hid (Below w.heap.size w w12) := B11.out.trans (b12.mono (by omega))
  clear r12 r12' b12 R11 V11 B11 c0 c1 c2 c3 c4 c5 c6
  go_wp2_with fail
  refine (IU.out l1 l2 w12 _ _ _ T12.out Y12.out).mono ?_
  rintro e w13 ⟨v2, rfl, r13, b13⟩
  have z13 := b13.size
  have R13 : Hid (w13.ownsRow w1.heap.size 41 1 v0 M.length (flts M)) := row_later_e R12.out b13 (Nat.le_refl _)
  have V13 : Hid (w13.ownsRow wb.heap.size 41 1 v1 S.length (flts (Fls.sq 1 S.length))) := row_later_e V12.out b13 (Nat.le_refl _)
  have N13 : Hid (w13.ownsRow w12.heap.size 41 1 v2 S.length (flts S)) := r13
  have B13 : Hid (Below w.heap.size w w13) := B12.out.trans (b13.mono (by omega))
  clear r13 b13 R12 V12 B12 T12 Y12
  go_wp2_with fail
  refine (Fls.eq_cn _ _ _ S M HM.out (Fls.reads_row N13.out) (Fls.reads_row R13.out)).mono ?_
  rintro e w14 ⟨rfl, n14, hw14⟩
  have V14 : Hid (w14.ownsRow wb.heap.size 41 1 v1 S.length (flts (Fls.sq 1 S.length))) := (by show World.ownsRow _ _ _ _ _ _ _; rw [hw14]; exact V13.out)
  have B14 : Hid (Below w.heap.size w w14) := (by show Below _ _ _; rw [hw14]; exact below_drewN B13.out n14)
  clear hw14
  go_wp2_with fail
  refine (Fls.held_any w14 v1 S.length 1 (by omega) (by omega) (by omega) (Fls.reads_row (L := Fls.sq 1 S.length) (by rw [Fls.sq_len]; exact V14.out))).mono ?_
  rintro e w15 ⟨rfl, n15, hw15⟩
  have B15 : Hid (Below w.heap.size w w15) := (by show Below _ _ _; rw [hw15]; exact below_drewN B14.out n15)
  clear hw15
  go_wp2_with fail
  go_ret
  exact ⟨rfl, B15.out⟩
end Go.Proofs.Ytjphljofhfokeaa.Pkd
