/- The law FnExactRequestText, walked. -/
import Derived.Test.YtkegllbedejkgaaDoorQb
import Derived.Test.YtkegllbedejkgaaDoorRt
import Derived.Deep.RegionHeld3
namespace Go.Proofs.YtkegllbedejkgaaDoor.Ix
open Go.ChangeShapes Go.WideShapes Go.ChangeAt Go.RowKit
open Stamp (Tb Tb.keep)
open Lists (ints)
attribute [local go_sem ↓] Go.wp_at_zero Go.wp_at_succ

set_option maxRecDepth 20000 in
set_option maxHeartbeats 4000000 in
theorem rtLaw (w : World) (hT : Tb w) (vP vT vS vL : Value) (R : Rq) (hr : RqI w vP vT vS vL R) :
    Calls Tryd.prog 3 #[.agg #[vP, vT, vS, vL]] w fun e w' => e = .returned (.bool true) ∧ Below w.heap.size w w' := by
  obtain ⟨pa, pc, e1⟩ := hr.p.form
  obtain ⟨ta, tc, e2⟩ := hr.t.form
  obtain ⟨sa, sc, e3⟩ := hr.s.form
  obtain ⟨la, lc, e4⟩ := hr.l.form
  generalize R.1.length = pn at *
  generalize R.2.1.length = tn at *
  generalize R.2.2.1.length = sn at *
  generalize R.2.2.2.length = ln at *
  subst e1 e2 e3 e4
  obtain ⟨bx, hbx⟩ : ∃ b, b = w.heap.size := ⟨_, rfl⟩
  have HBX : Hid (bx = w.heap.size) := hbx
  obtain ⟨wa, hwa⟩ : ∃ wa, wa = w.alloc (.cells #[.slice pa pn pc, .slice ta tn tc, .slice sa sn sc, .slice la ln lc] 25) := ⟨_, rfl⟩
  have HWA : Hid (wa = w.alloc (.cells #[.slice pa pn pc, .slice ta tn tc, .slice sa sn sc, .slice la ln lc] 25)) := hwa
  have BW : Hid (Below w.heap.size w wa) := (by show Below _ _ _; rw [hwa]; exact below_new _ _)
  have QA : Q4 wa bx 25 (.slice pa pn pc) (.slice ta tn tc) (.slice sa sn sc) (.slice la ln lc) := by rw [hwa, hbx]; exact Q4.new _ _ _ _ _ _
  have KB : Hid (∀ w', Below wa.heap.size wa w' → w'.cell? ⟨bx, 0, none⟩ = some (.slice pa pn pc) ∧ w'.cell? ⟨bx, 1, none⟩ = some (.slice ta tn tc) ∧ w'.cell? ⟨bx, 2, none⟩ = some (.slice sa sn sc) ∧ w'.cell? ⟨bx, 3, none⟩ = some (.slice la ln lc)) := fun w' hb => (by
    have q := (QA.on hb QA.lt).cells
    exact ⟨q.1, q.2.1, q.2.2.1, q.2.2.2.1⟩)
  have HTB : Hid (∀ w', Below wa.heap.size wa w' → Tb w') := fun w' hb => Tb.keep _ _ (Tb.keep _ _ hT BW.out) hb
  clear hwa hbx QA hT
  have HRR : Hid (∀ w', Below wa.heap.size wa w' → RqI w' (.slice pa pn pc) (.slice ta tn tc) (.slice sa sn sc) (.slice la ln lc) R) := fun w' hb => hr.on (BW.out.trans (hb.mono BW.out.size))
  have SZ1 : Hid (∀ (w' : World) (l : Int), Below wa.heap.size wa w' → 0 ≤ l → l ≤ 1048576 → Calls Tryd.prog 4 #[.agg #[.slice pa pn pc, .slice ta tn tc, .slice sa sn sc, .slice la ln lc], .int .i64 l] w' fun e w'' => (∃ r : Int, e = .returned (.int .i64 r) ∧ (0 ≤ r → FineR R) ∧ r ≤ 1048576) ∧ Below w'.heap.size w' w'') := fun w' l hb q0 q1 => szR_any R _ _ _ _ l w' q0 q1 (HRR.out w' hb)
  have TOR : Hid (FineR R → ∀ w', Below wa.heap.size wa w' → Calls Tryd.prog 6 #[.agg #[.slice pa pn pc, .slice ta tn tc, .slice sa sn sc, .slice la ln lc]] w' fun e w'' => ∃ u1 u2 u3 u4, e = .returned (.agg #[u1, u2, u3, u4]) ∧ RqO w'' w'.heap.size u1 u2 u3 u4 R ∧ Below w'.heap.size w' w'') := fun hf w' hb => toR_any R _ _ _ _ w' (HRR.out w' hb) hf
  obtain ⟨X, hX⟩ : ∃ X, X = txt R := ⟨_, rfl⟩
  have SU : Hid (FineR R → ∀ (w' : World) (B : Nat) (t1 t2 t3 t4 : Value), RqO w' B t1 t2 t3 t4 R → Calls Tryd.prog 5 #[.agg #[t1, t2, t3, t4]] w' fun e w'' => e = .returned (.string ⟨X.toArray⟩) ∧ Below w'.heap.size w' w'') := fun hf w' B t1 t2 t3 t4 r => (by
    rw [hX]
    exact smodel_any R t1 t2 t3 t4 w' (r.reads hf))
  have IU : Hid (FineR R → ∀ (w' : World) (B : Nat) (t1 t2 t3 t4 : Value), Below wa.heap.size wa w' → RqO w' B t1 t2 t3 t4 R → Calls Tryd.prog 7 #[.agg #[t1, t2, t3, t4]] w' fun e w'' => e = .returned (.string ⟨X.toArray⟩) ∧ Below w'.heap.size w' w'') := fun hf w' B t1 t2 t3 t4 hb r => (by
    rw [hX]
    exact imodel_any R t1 t2 t3 t4 w' (HTB.out w' hb) (r.reads hf))
  clear hX
  have EQR : Hid (∀ (w' : World) (B C : Nat) (y1 y2 y3 y4 z1 z2 z3 z4 : Value), RqO w' B y1 y2 y3 y4 R → RqO w' C z1 z2 z3 z4 R → Calls Tryd.prog 8 #[.agg #[y1, y2, y3, y4], .agg #[z1, z2, z3, z4]] w' fun e w'' => e = .returned (.bool true) ∧ Below w'.heap.size w' w'') := fun w' B C y1 y2 y3 y4 z1 z2 z3 z4 h h' => eqR_same R _ _ _ _ _ _ _ _ w' B C h h'
  clear hr
  have BBwa : Hid (Below wa.heap.size wa wa) := Below.refl _ _
  go_enter Tryd.func3, Tryd.ntmps3
  go_upto_region 2 with fail
  rw [← HWA.out, ← HBX.out]
  clear HWA
  obtain ⟨k0, k1, k2, k3⟩ := KB.out wa BBwa.out
  go_wp2_with fail
  refine (SZ1.out wa 1048576 BBwa.out (by omega) (by omega)).mono ?_
  rintro e w1 ⟨⟨z0, e', y0, l0⟩, b⟩
  subst e'
  clear k0 k1 k2 k3
  have BBw1 : Hid (Below wa.heap.size wa w1) := BBwa.out.trans (b.mono BBwa.out.size)
  clear b
  by_cases hneg0 : z0 < 0
  · go_wp2_with fail
    go_ret
    exact ⟨rfl, BW.out.trans (BBw1.out.mono BW.out.size)⟩
  have HLR : Hid (FineR R) := y0 (by omega)
  clear y0 l0 SZ1
  obtain ⟨k0, k1, k2, k3⟩ := KB.out w1 BBw1.out
  go_wp2_with fail
  refine (TOR.out HLR.out w1 BBw1.out).mono ?_
  rintro e w2 ⟨p1, p2, p3, p4, e', r, b⟩
  subst e'
  clear k0 k1 k2 k3
  have BBw2 : Hid (Below wa.heap.size wa w2) := BBw1.out.trans (b.mono BBw1.out.size)
  have Rq2 : Hid (RqO w2 w1.heap.size p1 p2 p3 p4 R) := r
  clear r b
  go_wp2_with fail
  refine (SU.out HLR.out w2 _ _ _ _ _ Rq2.out).mono ?_
  rintro e w3 ⟨e', b⟩
  subst e'
  have BBw3 : Hid (Below wa.heap.size wa w3) := BBw2.out.trans (b.mono BBw2.out.size)
  clear b Rq2 BBw2
  obtain ⟨k0, k1, k2, k3⟩ := KB.out w3 BBw3.out
  go_wp2_with fail
  refine (TOR.out HLR.out w3 BBw3.out).mono ?_
  rintro e w7 ⟨x1, x2, x3, x4, e', r, b⟩
  subst e'
  clear k0 k1 k2 k3
  have BBw7 : Hid (Below wa.heap.size wa w7) := BBw3.out.trans (b.mono BBw3.out.size)
  have Ry7 : Hid (RqO w7 w3.heap.size x1 x2 x3 x4 R) := r
  obtain ⟨xa, xc, g1⟩ := (sreads_row r.p).form
  obtain ⟨ya, yc, g2⟩ := (Lists.reads_row r.t).form
  obtain ⟨za, zc, g3⟩ := (Lists.reads_row r.s).form
  obtain ⟨qa, qc, g4⟩ := (Lists.reads_row r.l).form
  clear r b
  generalize R.1.length = xn at *
  generalize R.2.1.length = yn at *
  generalize R.2.2.1.length = zn at *
  generalize R.2.2.2.length = qn at *
  subst g1 g2 g3 g4
  obtain ⟨w8, hw8⟩ : ∃ w8, w8 = w7.alloc (.cells #[.slice xa xn xc, .slice ya yn yc, .slice za zn zc, .slice qa qn qc] 28) := ⟨_, rfl⟩
  have HW8 : Hid (w8 = w7.alloc (.cells #[.slice xa xn xc, .slice ya yn yc, .slice za zn zc, .slice qa qn qc] 28)) := hw8
  have b : Below w7.heap.size w7 w8 := by rw [hw8]; exact below_new _ _
  obtain ⟨bo, hbo⟩ : ∃ b, b = w7.heap.size := ⟨_, rfl⟩
  have HBO : Hid (bo = w7.heap.size) := hbo
  have BBw8 : Hid (Below wa.heap.size wa w8) := BBw7.out.trans (b.mono BBw7.out.size)
  have Qo8 : Hid (Q4 w8 bo 28 (.slice xa xn xc) (.slice ya yn yc) (.slice za zn zc) (.slice qa qn qc)) := (by show Q4 _ _ _ _ _ _ _; rw [hw8, hbo]; exact Q4.new _ _ _ _ _ _)
  have Ry8 : Hid (RqO w8 w3.heap.size (.slice xa xn xc) (.slice ya yn yc) (.slice za zn zc) (.slice qa qn qc) R) := Ry7.out.on b
  clear b Ry7 hw8 hbo
  go_upto_region 7 with fail
  rw [← HW8.out, ← HBO.out]
  clear HW8
  obtain ⟨k0, k1, k2, k3, kf⟩ := Qo8.out.cells
  clear kf
  go_wp2_with fail
  clear k0 k1 k2 k3
  refine (IU.out HLR.out w8 _ _ _ _ _ BBw8.out Ry8.out).mono ?_
  rintro e w9 ⟨e', b⟩
  subst e'
  have BBw9 : Hid (Below wa.heap.size wa w9) := BBw8.out.trans (b.mono BBw8.out.size)
  have Qo9 : Hid (Q4 w9 bo 28 (.slice xa xn xc) (.slice ya yn yc) (.slice za zn zc) (.slice qa qn qc)) := Qo8.out.on b Qo8.out.lt
  have Ry9 : Hid (RqO w9 w3.heap.size (.slice xa xn xc) (.slice ya yn yc) (.slice za zn zc) (.slice qa qn qc) R) := Ry8.out.on b
  clear b Ry8 Qo8
  have BBd : Hid (Below wa.heap.size wa w9.drew) := BBw9.out.drew
  have Rd : Hid (RqO w9.drew w3.heap.size (.slice xa xn xc) (.slice ya yn yc) (.slice za zn zc) (.slice qa qn qc) R) := Ry9.out.on (Below.refl _ _).drew
  obtain ⟨k0, k1, k2, k3⟩ := KB.out w9 BBw9.out
  obtain ⟨m0, m1, m2, m3, mf⟩ := Qo9.out.cells
  have HQ : Hid (∀ w', Below w9.drew.heap.size w9.drew w' → w'.cell? ⟨bo, 0, none⟩ = some (.slice xa xn xc) ∧ w'.cell? ⟨bo, 1, none⟩ = some (.slice ya yn yc) ∧ w'.cell? ⟨bo, 2, none⟩ = some (.slice za zn zc) ∧ w'.cell? ⟨bo, 3, none⟩ = some (.slice qa qn qc)) := fun w' hb => (by
    have q := (Q4.on (w := w9.drew) Qo9.out hb Qo9.out.lt).cells
    exact ⟨q.1, q.2.1, q.2.2.1, q.2.2.2.1⟩)
  clear mf
  go_upto_region 10 with fail
  go_region_held3 (fun w' => (w'.cell? ⟨bx, 0, none⟩ = some (.slice pa pn pc) ∧ w'.cell? ⟨bx, 1, none⟩ = some (.slice ta tn tc) ∧ w'.cell? ⟨bx, 2, none⟩ = some (.slice sa sn sc) ∧ w'.cell? ⟨bx, 3, none⟩ = some (.slice la ln lc)) ∧ w'.cell? ⟨bo, 0, none⟩ = some (.slice xa xn xc) ∧ w'.cell? ⟨bo, 1, none⟩ = some (.slice ya yn yc) ∧ w'.cell? ⟨bo, 2, none⟩ = some (.slice za zn zc) ∧ w'.cell? ⟨bo, 3, none⟩ = some (.slice qa qn qc)) (go_keep)
    (first
    | (go_at_call 6; refine (TOR.out HLR.out _ BBd.out).mono ?_; rintro e w10 ⟨y1, y2, y3, y4, e', r, b⟩; subst e'; have BBw10 : Hid (Below wa.heap.size wa w10) := BBd.out.trans (b.mono BBd.out.size); have HB10 : Hid (Below w9.drew.heap.size w9.drew w10) := b; have Rp10 : Hid (RqO w10 w9.drew.heap.size y1 y2 y3 y4 R) := r; have Rd10 : Hid (RqO w10 w3.heap.size (.slice xa xn xc) (.slice ya yn yc) (.slice za zn zc) (.slice qa qn qc) R) := Rd.out.on b; clear r b; obtain ⟨d0, d1, d2, d3⟩ := KB.out w10 BBw10.out; obtain ⟨f0, f1, f2, f3⟩ := HQ.out w10 HB10.out)
    | (go_at_call 8; refine (EQR.out _ _ _ _ _ _ _ _ _ _ _ Rd10.out Rp10.out).mono ?_; rintro e w11 ⟨e', b⟩; subst e'; have BBw11 : Hid (Below wa.heap.size wa w11) := BBw10.out.trans (b.mono BBw10.out.size); have HB11 : Hid (Below w9.drew.heap.size w9.drew w11) := HB10.out.trans (b.mono HB10.out.size); clear b; obtain ⟨d4, d5, d6, d7⟩ := KB.out w11 BBw11.out; obtain ⟨f4, f5, f6, f7⟩ := HQ.out w11 HB11.out))
  go_wp2_with fail
  go_ret
  exact ⟨rfl, BW.out.trans (BBw11.out.mono BW.out.size)⟩
end Go.Proofs.YtkegllbedejkgaaDoor.Ix
