/- The law of Pick, walked. -/
import Derived.Test.YtniejbefkijenaaRt
import Derived.Test.YtniejbefkijenaaPm
import Derived.Test.YtniejbefkijenaaEnZ
import Derived.Deep.RegionHeld3
namespace Go.Proofs.Ytniejbefkijenaa.Ix
open Go.ChangeShapes Go.WideShapes Go.ChangeAt Go.RowKit
open Al Eo Ky
open Lists (ints)
theorem row_win {S : Nat → Prop} {w w' : World} {base : Nat} {v : Value} {L : En.Ls} (h : Win S w w') (hr : En.Row w base v L) (hn : ∀ g, v.ownBlock = some g → ¬ S g) : En.Row w' base v L := by
  obtain ⟨xs, ho, hg⟩ := hr
  exact ⟨xs, h.row ho hn, hg⟩
theorem Q4.grown {w w' : World} {b t : Nat} {row : Option Nat} {x0 x1 x2 x3 : Value} (h : Q4 w b t x0 x1 x2 x3) (hg : w.grownBy w' row) (hn : row ≠ some b) : Q4 w' b t x0 x1 x2 x3 := (hg.block b h.lt (fun e => hn e.symm)).trans h

set_option maxRecDepth 20000 in
set_option maxHeartbeats 4000000 in
theorem pickLaw (w : World) (v0 : Value) (L : En.Ls) (h0 : En.Reads w v0 L) (f0 : En.Fit L) (vP vT vS vL : Value) (R : Rq) (hr : RqI w vP vT vS vL R) :
    Calls Try.prog 5 #[v0, .agg #[vP, vT, vS, vL]] w fun e w' => e = .returned (.bool true) ∧ Below w.heap.size w w' := by
  obtain ⟨s0, c0, e0⟩ := h0.form
  subst e0
  obtain ⟨pa, pc, e1⟩ := hr.p.form
  obtain ⟨ta, tc, e2⟩ := hr.t.form
  obtain ⟨sa, sc, e3⟩ := hr.s.form
  obtain ⟨la, lc, e4⟩ := hr.l.form
  generalize R.1.length = pn at *
  generalize R.2.1.length = tn at *
  generalize R.2.2.1.length = sn at *
  generalize R.2.2.2.length = ln at *
  subst e1 e2 e3 e4
  obtain ⟨bx, hbx⟩ : ∃ b, b = w.heap.size := ⟨_, rfl⟩
  have HBX : Hid (bx = w.heap.size) := hbx
  obtain ⟨wa, hwa⟩ : ∃ wa, wa = w.alloc (.cells #[.slice pa pn pc, .slice ta tn tc, .slice sa sn sc, .slice la ln lc] 44) := ⟨_, rfl⟩
  have HWA : Hid (wa = w.alloc (.cells #[.slice pa pn pc, .slice ta tn tc, .slice sa sn sc, .slice la ln lc] 44)) := hwa
  have BW : Hid (Below w.heap.size w wa) := (by show Below _ _ _; rw [hwa]; exact below_new _ _)
  have QA : Q4 wa bx 44 (.slice pa pn pc) (.slice ta tn tc) (.slice sa sn sc) (.slice la ln lc) := by rw [hwa, hbx]; exact Q4.new _ _ _ _ _ _
  have KB : Hid (∀ w', Below wa.heap.size wa w' → w'.cell? ⟨bx, 0, none⟩ = some (.slice pa pn pc) ∧ w'.cell? ⟨bx, 1, none⟩ = some (.slice ta tn tc) ∧ w'.cell? ⟨bx, 2, none⟩ = some (.slice sa sn sc) ∧ w'.cell? ⟨bx, 3, none⟩ = some (.slice la ln lc)) := fun w' hb => (by
    have q := (QA.on hb QA.lt).cells
    exact ⟨q.1, q.2.1, q.2.2.1, q.2.2.2.1⟩)
  clear hwa hbx QA
  have HR0 : Hid (∀ w', Below wa.heap.size wa w' → En.Reads w' (.slice s0 (List.length L) c0) L) := fun w' hb => h0.on (BW.out.trans (hb.mono BW.out.size))
  have HRR : Hid (∀ w', Below wa.heap.size wa w' → RqI w' (.slice pa pn pc) (.slice ta tn tc) (.slice sa sn sc) (.slice la ln lc) R) := fun w' hb => hr.on (BW.out.trans (hb.mono BW.out.size))
  have SZ0 : Hid (∀ (w' : World) (l : Int), Below wa.heap.size wa w' → 0 ≤ l → l ≤ 1048576 → Calls Try.prog 6 #[.slice s0 (List.length L) c0, .int .i64 l] w' fun e w'' => (∃ r : Int, e = .returned (.int .i64 r) ∧ (0 ≤ r → En.Fine L) ∧ r ≤ 1048576) ∧ Below w'.heap.size w' w'') := fun w' l hb q0 q1 => En.sz_any _ L l w' q0 q1 (HR0.out w' hb) f0
  have SZ1 : Hid (∀ (w' : World) (l : Int), Below wa.heap.size wa w' → 0 ≤ l → l ≤ 1048576 → Calls Try.prog 20 #[.agg #[.slice pa pn pc, .slice ta tn tc, .slice sa sn sc, .slice la ln lc], .int .i64 l] w' fun e w'' => (∃ r : Int, e = .returned (.int .i64 r) ∧ (0 ≤ r → FineR R) ∧ r ≤ 1048576) ∧ Below w'.heap.size w' w'') := fun w' l hb q0 q1 => szR_any R _ _ _ _ l w' q0 q1 (HRR.out w' hb)
  have TO0 : Hid (En.Fine L → ∀ w', Below wa.heap.size wa w' → Calls Try.prog 9 #[.slice s0 (List.length L) c0] w' fun e w'' => ∃ u, e = .returned u ∧ En.Row w'' w'.heap.size u L ∧ Below w'.heap.size w' w'') := fun hl w' hb => En.to_own w' _ L (HR0.out w' hb) hl.1
  have TOR : Hid (FineR R → ∀ w', Below wa.heap.size wa w' → Calls Try.prog 22 #[.agg #[.slice pa pn pc, .slice ta tn tc, .slice sa sn sc, .slice la ln lc]] w' fun e w'' => ∃ u1 u2 u3 u4, e = .returned (.agg #[u1, u2, u3, u4]) ∧ RqO w'' w'.heap.size u1 u2 u3 u4 R ∧ Below w'.heap.size w' w'') := fun hf w' hb => toR_any R _ _ _ _ w' (HRR.out w' hb) hf
  obtain ⟨X, hX⟩ : ∃ X : En.Ls, X = if okA L && okR R then pick L R else [] := ⟨_, rfl⟩
  have HXL : Hid (En.Fine L → List.length X ≤ 1048576) := fun hl => (by
    rw [hX]
    have h1 := hl.1
    have h2 := List.length_filter_le (asks R) L
    split
    · show (L.filter (asks R)).length ≤ _; omega
    · simp)
  have SU : Hid (En.Fine L → FineR R → ∀ (w' : World) (B B' : Nat) (t0 t1 t2 t3 t4 : Value), En.Row w' B t0 L → RqO w' B' t1 t2 t3 t4 R → Calls Try.prog 21 #[t0, .agg #[t1, t2, t3, t4]] w' fun e w'' => ∃ u, e = .returned u ∧ En.Row w'' w'.heap.size u X ∧ Below w'.heap.size w' w'') := fun hl hf w' B B' t0 t1 t2 t3 t4 r r' => (by
    rw [hX]
    exact spick_any L t0 R t1 t2 t3 t4 w' r.reads hl.2 (r'.reads hf) ⟨by have := hf.1.1; omega, by have := hf.2.1; omega, by have := hf.2.2.1; omega, by have := hf.2.2.2; omega⟩)
  have IU : Hid (En.Fine L → FineR R → ∀ (w' : World) (B B' : Nat) (t0 t1 t2 t3 t4 : Value), En.Row w' B t0 L → RqO w' B' t1 t2 t3 t4 R → Calls Try.prog 23 #[t0, .agg #[t1, t2, t3, t4]] w' fun e w'' => ∃ u, e = .returned u ∧ En.Row w'' w'.heap.size u X ∧ Below w'.heap.size w' w'') := fun hl hf w' B B' t0 t1 t2 t3 t4 r r' => (by
    rw [hX]
    exact ipick_any L t0 R t1 t2 t3 t4 w' r.reads hl.2 (r'.reads hf) ⟨by have := hf.1.1; omega, by have := hf.2.1; omega, by have := hf.2.2.1; omega, by have := hf.2.2.2; omega⟩)
  clear hX
  have hii : ∀ b : Int, (b != b) = false := fun b => by simp
  have EQ0 : Hid (∀ (w' : World) (y z : Value) (B C : Nat), En.Row w' B y L → En.Row w' C z L → Calls Try.prog 12 #[y, z] w' fun e w'' => e = .returned (.bool true) ∧ Below w'.heap.size w' w'') := fun w' y z B C h h' => En.eq_same w' y z L h.reads h'.reads
  have EX0 : Hid (∀ (w' : World) (y z : Value) (B C : Nat), En.Row w' B y X → En.Row w' C z X → Calls Try.prog 12 #[y, z] w' fun e w'' => e = .returned (.bool true) ∧ Below w'.heap.size w' w'') := fun w' y z B C h h' => En.eq_same w' y z X h.reads h'.reads
  have EQR : Hid (∀ (w' : World) (B C : Nat) (y1 y2 y3 y4 z1 z2 z3 z4 : Value), RqO w' B y1 y2 y3 y4 R → RqO w' C z1 z2 z3 z4 R → Calls Try.prog 24 #[.agg #[y1, y2, y3, y4], .agg #[z1, z2, z3, z4]] w' fun e w'' => e = .returned (.bool true) ∧ Below w'.heap.size w' w'') := fun w' B C y1 y2 y3 y4 z1 z2 z3 z4 h h' => eqR_same R _ _ _ _ _ _ _ _ w' B C h h'
  clear h0 f0 hr
  have BBwa : Hid (Below wa.heap.size wa wa) := Below.refl _ _
  go_enter Try.func5, Try.ntmps5
  go_upto_region 2 with fail
  rw [← HWA.out, ← HBX.out]
  clear HWA
  go_wp2_with fail
  refine (SZ0.out wa 1048576 BBwa.out (by omega) (by omega)).mono ?_
  rintro e w1 ⟨⟨z0, e', y0, l0⟩, b⟩
  subst e'
  have BBw1 : Hid (Below wa.heap.size wa w1) := BBwa.out.trans (b.mono BBwa.out.size)
  clear b
  by_cases hneg0 : z0 < 0
  · go_wp2_with fail
    go_ret
    exact ⟨rfl, BW.out.trans (BBw1.out.mono BW.out.size)⟩
  have HL0 : Hid (En.Fine L) := y0 (by omega)
  obtain ⟨k0, k1, k2, k3⟩ := KB.out w1 BBw1.out
  go_wp2_with fail
  refine (SZ1.out w1 z0 BBw1.out (by omega) l0).mono ?_
  rintro e w2 ⟨⟨z1, e', y1, l1⟩, b⟩
  subst e'
  clear k0 k1 k2 k3
  have BBw2 : Hid (Below wa.heap.size wa w2) := BBw1.out.trans (b.mono BBw1.out.size)
  clear b
  by_cases hneg1 : z1 < 0
  · go_wp2_with fail
    go_ret
    exact ⟨rfl, BW.out.trans (BBw2.out.mono BW.out.size)⟩
  have HLR : Hid (FineR R) := y1 (by omega)
  have HXX : Hid (List.length X ≤ 1048576) := HXL.out HL0.out
  clear y0 y1 l0 l1 SZ0 SZ1 HXL BBwa BBw1
  obtain ⟨k0, k1, k2, k3⟩ := KB.out w2 BBw2.out
  have BBw2d : Hid (Below wa.heap.size wa w2.drew) := BBw2.out.drew
  go_wp2_with fail
  go_region_held3 (fun w' => w'.cell? ⟨bx, 0, none⟩ = some (.slice pa pn pc) ∧ w'.cell? ⟨bx, 1, none⟩ = some (.slice ta tn tc) ∧ w'.cell? ⟨bx, 2, none⟩ = some (.slice sa sn sc) ∧ w'.cell? ⟨bx, 3, none⟩ = some (.slice la ln lc)) (go_keep)
    (first
    | (go_at_call 9; refine (TO0.out HL0.out _ BBw2d.out).mono ?_; rintro e w3 ⟨up, e', r, b⟩; subst e'; have ZZw3 : Hid (w2.heap.size ≤ w3.heap.size) := b.size; have BBw3 : Hid (Below wa.heap.size wa w3) := BBw2d.out.trans (b.mono BBw2d.out.size); have Rp3 : Hid (En.Row w3 w2.heap.size up L) := r; clear r b; obtain ⟨dw30, dw31, dw32, dw33⟩ := KB.out w3 BBw3.out)
    | (go_at_call 22; refine (TOR.out HLR.out _ BBw3.out).mono ?_; rintro e w4 ⟨p1, p2, p3, p4, e', r, b⟩; subst e'; have ZZw4 : Hid (w3.heap.size ≤ w4.heap.size) := b.size; have BBw4 : Hid (Below wa.heap.size wa w4) := BBw3.out.trans (b.mono BBw3.out.size); have Rp4 : Hid (En.Row w4 w2.heap.size up L) := Rp3.out.on b; have Rq4 : Hid (RqO w4 w3.heap.size p1 p2 p3 p4 R) := r; clear r b; obtain ⟨dw40, dw41, dw42, dw43⟩ := KB.out w4 BBw4.out)
    | (go_at_call 21; refine (SU.out HL0.out HLR.out _ _ _ _ _ _ _ _ Rp4.out Rq4.out).mono ?_; rintro e w5 ⟨us, e', r, b⟩; subst e'; have ZZw5 : Hid (w4.heap.size ≤ w5.heap.size) := b.size; have BBw5 : Hid (Below wa.heap.size wa w5) := BBw4.out.trans (b.mono BBw4.out.size); have Rs5 : Hid (En.Row w5 w4.heap.size us X) := r; have LTs : Hid (∀ k, us.ownBlock = some k → w4.heap.size ≤ k ∧ k < w5.heap.size) := fun k hk => Rs5.out.lt k hk; clear r b; obtain ⟨dw50, dw51, dw52, dw53⟩ := KB.out w5 BBw5.out))
  clear k0 k1 k2 k3
  go_wp2_with fail
  refine (TO0.out HL0.out w5 BBw5.out).mono ?_
  rintro e w6 ⟨ux, e', r, b⟩
  subst e'
  have ZZw6 : Hid (w5.heap.size ≤ w6.heap.size) := b.size
  have BBw6 : Hid (Below wa.heap.size wa w6) := BBw5.out.trans (b.mono BBw5.out.size)
  have Rs6 : Hid (En.Row w6 w4.heap.size us X) := Rs5.out.on b
  have Rx6 : Hid (En.Row w6 w5.heap.size ux L) := r
  have LTx : Hid (∀ k, ux.ownBlock = some k → w5.heap.size ≤ k ∧ k < w6.heap.size) := fun k hk => Rx6.out.lt k hk
  clear r b Rs5
  obtain ⟨k0, k1, k2, k3⟩ := KB.out w6 BBw6.out
  go_wp2_with fail
  refine (TOR.out HLR.out w6 BBw6.out).mono ?_
  rintro e w7 ⟨x1, x2, x3, x4, e', r, b⟩
  subst e'
  clear k0 k1 k2 k3
  have ZZw7 : Hid (w6.heap.size ≤ w7.heap.size) := b.size
  have BBw7 : Hid (Below wa.heap.size wa w7) := BBw6.out.trans (b.mono BBw6.out.size)
  have Rs7 : Hid (En.Row w7 w4.heap.size us X) := Rs6.out.on b
  have Rx7 : Hid (En.Row w7 w5.heap.size ux L) := Rx6.out.on b
  have Ry7 : Hid (RqO w7 w6.heap.size x1 x2 x3 x4 R) := r
  have LTy : Hid (∀ k, RqB x1 x2 x3 x4 k → w6.heap.size ≤ k ∧ k < w7.heap.size) := fun k hk => Ry7.out.lt k hk
  obtain ⟨xa, xc, g1⟩ := (sreads_row r.p).form
  obtain ⟨ya, yc, g2⟩ := (Lists.reads_row r.t).form
  obtain ⟨za, zc, g3⟩ := (Lists.reads_row r.s).form
  obtain ⟨qa, qc, g4⟩ := (Lists.reads_row r.l).form
  clear r b Rs6 Rx6
  generalize R.1.length = xn at *
  generalize R.2.1.length = yn at *
  generalize R.2.2.1.length = zn at *
  generalize R.2.2.2.length = qn at *
  subst g1 g2 g3 g4
  obtain ⟨w8, hw8⟩ : ∃ w8, w8 = w7.alloc (.cells #[.slice xa xn xc, .slice ya yn yc, .slice za zn zc, .slice qa qn qc] 47) := ⟨_, rfl⟩
  have HW8 : Hid (w8 = w7.alloc (.cells #[.slice xa xn xc, .slice ya yn yc, .slice za zn zc, .slice qa qn qc] 47)) := hw8
  have b : Below w7.heap.size w7 w8 := by rw [hw8]; exact below_new _ _
  obtain ⟨bo, hbo⟩ : ∃ b, b = w7.heap.size := ⟨_, rfl⟩
  have HBO : Hid (bo = w7.heap.size) := hbo
  have ZZw8 : Hid (w7.heap.size ≤ w8.heap.size) := b.size
  have BBw8 : Hid (Below wa.heap.size wa w8) := BBw7.out.trans (b.mono BBw7.out.size)
  have Zw8 : Hid (w8.heap.size = w7.heap.size + 1) := (by show _ = _; rw [hw8]; simp)
  have Qo8 : Hid (Q4 w8 bo 47 (.slice xa xn xc) (.slice ya yn yc) (.slice za zn zc) (.slice qa qn qc)) := (by show Q4 _ _ _ _ _ _ _; rw [hw8, hbo]; exact Q4.new _ _ _ _ _ _)
  have Rs8 : Hid (En.Row w8 w4.heap.size us X) := Rs7.out.on b
  have Rx8 : Hid (En.Row w8 w5.heap.size ux L) := Rx7.out.on b
  have Ry8 : Hid (RqO w8 w6.heap.size (.slice xa xn xc) (.slice ya yn yc) (.slice za zn zc) (.slice qa qn qc) R) := Ry7.out.on b
  clear b Rs7 Rx7 Ry7 hw8 hbo
  go_upto_region 11 with fail
  rw [← HW8.out, ← HBO.out]
  clear HW8
  obtain ⟨k0, k1, k2, k3, kf⟩ := Qo8.out.cells
  clear kf
  go_wp2_with fail
  clear k0 k1 k2 k3
  refine (IU.out HL0.out HLR.out w8 _ _ _ _ _ _ _ Rx8.out Ry8.out).mono ?_
  rintro e w9 ⟨ug, e', r, b⟩
  subst e'
  have ZZw9 : Hid (w8.heap.size ≤ w9.heap.size) := b.size
  have BBw9 : Hid (Below wa.heap.size wa w9) := BBw8.out.trans (b.mono BBw8.out.size)
  have Qo9 : Hid (Q4 w9 bo 47 (.slice xa xn xc) (.slice ya yn yc) (.slice za zn zc) (.slice qa qn qc)) := Qo8.out.on b Qo8.out.lt
  have Rs9 : Hid (En.Row w9 w4.heap.size us X) := Rs8.out.on b
  have Rx9 : Hid (En.Row w9 w5.heap.size ux L) := Rx8.out.on b
  have Ry9 : Hid (RqO w9 w6.heap.size (.slice xa xn xc) (.slice ya yn yc) (.slice za zn zc) (.slice qa qn qc) R) := Ry8.out.on b
  have Rg9 : Hid (En.Row w9 w8.heap.size ug X) := r
  have LTg : Hid (∀ k, ug.ownBlock = some k → w8.heap.size ≤ k ∧ k < w9.heap.size) := fun k hk => Rg9.out.lt k hk
  clear r b Rs8 Rx8 Ry8 Qo8
  go_wp2_with fail
  refine (EX0.out w9 _ _ _ _ Rg9.out Rs9.out).mono ?_
  rintro e w10 ⟨e', b⟩
  subst e'
  have ZZw10 : Hid (w9.heap.size ≤ w10.heap.size) := b.size
  have BBw10 : Hid (Below wa.heap.size wa w10) := BBw9.out.trans (b.mono BBw9.out.size)
  have Rs10 : Hid (En.Row w10 w4.heap.size us X) := Rs9.out.on b
  have Rx10 : Hid (En.Row w10 w5.heap.size ux L) := Rx9.out.on b
  have Ry10 : Hid (RqO w10 w6.heap.size (.slice xa xn xc) (.slice ya yn yc) (.slice za zn zc) (.slice qa qn qc) R) := Ry9.out.on b
  have Rg10 : Hid (En.Row w10 w8.heap.size ug X) := Rg9.out.on b
  have Qo10 : Hid (Q4 w10 bo 47 (.slice xa xn xc) (.slice ya yn yc) (.slice za zn zc) (.slice qa qn qc)) := Qo9.out.on b Qo9.out.lt
  clear b Rs9 Rx9 Ry9 Rg9 Qo9
  go_wp2_with fail
  refine (TO0.out HL0.out w10 BBw10.out).mono ?_
  rintro e w11 ⟨uz, e', r, b⟩
  subst e'
  have ZZw11 : Hid (w10.heap.size ≤ w11.heap.size) := b.size
  have BBw11 : Hid (Below wa.heap.size wa w11) := BBw10.out.trans (b.mono BBw10.out.size)
  have Rs11 : Hid (En.Row w11 w4.heap.size us X) := Rs10.out.on b
  have Rx11 : Hid (En.Row w11 w5.heap.size ux L) := Rx10.out.on b
  have Ry11 : Hid (RqO w11 w6.heap.size (.slice xa xn xc) (.slice ya yn yc) (.slice za zn zc) (.slice qa qn qc) R) := Ry10.out.on b
  have Rg11 : Hid (En.Row w11 w8.heap.size ug X) := Rg10.out.on b
  have Qo11 : Hid (Q4 w11 bo 47 (.slice xa xn xc) (.slice ya yn yc) (.slice za zn zc) (.slice qa qn qc)) := Qo10.out.on b Qo10.out.lt
  have Rz11 : Hid (En.Row w11 w10.heap.size uz L) := r
  clear r
  clear b Rs10 Rx10 Ry10 Rg10 Qo10
  go_wp2_with fail
  refine (EQ0.out w11 _ _ _ _ Rx11.out Rz11.out).mono ?_
  rintro e w12 ⟨e', b⟩
  subst e'
  have ZZw12 : Hid (w11.heap.size ≤ w12.heap.size) := b.size
  have BBw12 : Hid (Below wa.heap.size wa w12) := BBw11.out.trans (b.mono BBw11.out.size)
  have Rs12 : Hid (En.Row w12 w4.heap.size us X) := Rs11.out.on b
  have Rx12 : Hid (En.Row w12 w5.heap.size ux L) := Rx11.out.on b
  have Ry12 : Hid (RqO w12 w6.heap.size (.slice xa xn xc) (.slice ya yn yc) (.slice za zn zc) (.slice qa qn qc) R) := Ry11.out.on b
  have Rg12 : Hid (En.Row w12 w8.heap.size ug X) := Rg11.out.on b
  have Qo12 : Hid (Q4 w12 bo 47 (.slice xa xn xc) (.slice ya yn yc) (.slice za zn zc) (.slice qa qn qc)) := Qo11.out.on b Qo11.out.lt
  clear Rz11
  clear b Rs11 Rx11 Ry11 Rg11 Qo11
  obtain ⟨k0, k1, k2, k3⟩ := KB.out w12 BBw12.out
  obtain ⟨o0, o1, o2, o3, of⟩ := Qo12.out.cells
  clear of
  have BBw12d : Hid (Below wa.heap.size wa w12.drew) := BBw12.out.drew
  have Rs12d : Hid (En.Row w12.drew w4.heap.size us X) := Rs12.out
  have Rx12d : Hid (En.Row w12.drew w5.heap.size ux L) := Rx12.out
  have Ry12d : Hid (RqO w12.drew w6.heap.size (.slice xa xn xc) (.slice ya yn yc) (.slice za zn zc) (.slice qa qn qc) R) := Ry12.out.on ((Below.refl _ _).drew)
  have Rg12d : Hid (En.Row w12.drew w8.heap.size ug X) := Rg12.out
  have Qo12d : Hid (Q4 w12.drew bo 47 (.slice xa xn xc) (.slice ya yn yc) (.slice za zn zc) (.slice qa qn qc)) := Qo12.out
  clear Rs12 Rx12 Ry12 Rg12 Qo12
  go_wp2_with fail
  go_region_held3 (fun w' => w'.cell? ⟨bx, 0, none⟩ = some (.slice pa pn pc) ∧ w'.cell? ⟨bx, 1, none⟩ = some (.slice ta tn tc) ∧ w'.cell? ⟨bx, 2, none⟩ = some (.slice sa sn sc) ∧ w'.cell? ⟨bx, 3, none⟩ = some (.slice la ln lc) ∧ w'.cell? ⟨bo, 0, none⟩ = some (.slice xa xn xc) ∧ w'.cell? ⟨bo, 1, none⟩ = some (.slice ya yn yc) ∧ w'.cell? ⟨bo, 2, none⟩ = some (.slice za zn zc) ∧ w'.cell? ⟨bo, 3, none⟩ = some (.slice qa qn qc)) (go_keep)
    (first
    | (go_at_call 22; refine (TOR.out HLR.out _ BBw12d.out).mono ?_; rintro e w13 ⟨p1', p2', p3', p4', e', r, b⟩; subst e'; have ZZw13 : Hid (w12.heap.size ≤ w13.heap.size) := b.size; have BBw13 : Hid (Below wa.heap.size wa w13) := BBw12d.out.trans (b.mono BBw12d.out.size); have Rs13 : Hid (En.Row w13 w4.heap.size us X) := Rs12d.out.on b; have Rx13 : Hid (En.Row w13 w5.heap.size ux L) := Rx12d.out.on b; have Ry13 : Hid (RqO w13 w6.heap.size (.slice xa xn xc) (.slice ya yn yc) (.slice za zn zc) (.slice qa qn qc) R) := Ry12d.out.on b; have Rg13 : Hid (En.Row w13 w8.heap.size ug X) := Rg12d.out.on b; have Qo13 : Hid (Q4 w13 bo 47 (.slice xa xn xc) (.slice ya yn yc) (.slice za zn zc) (.slice qa qn qc)) := Qo12d.out.on b Qo12d.out.lt; have Rt13 : Hid (RqO w13 w12.heap.size p1' p2' p3' p4' R) := r; clear r b; obtain ⟨dw130, dw131, dw132, dw133⟩ := KB.out w13 BBw13.out; obtain ⟨f130, f131, f132, f133, ff⟩ := Qo13.out.cells; clear ff)
    | (go_at_call 24; refine (EQR.out _ _ _ _ _ _ _ _ _ _ _ Ry13.out Rt13.out).mono ?_; rintro e w14 ⟨e', b⟩; subst e'; have ZZw14 : Hid (w13.heap.size ≤ w14.heap.size) := b.size; have BBw14 : Hid (Below wa.heap.size wa w14) := BBw13.out.trans (b.mono BBw13.out.size); have Rs14 : Hid (En.Row w14 w4.heap.size us X) := Rs13.out.on b; have Rx14 : Hid (En.Row w14 w5.heap.size ux L) := Rx13.out.on b; have Ry14 : Hid (RqO w14 w6.heap.size (.slice xa xn xc) (.slice ya yn yc) (.slice za zn zc) (.slice qa qn qc) R) := Ry13.out.on b; have Rg14 : Hid (En.Row w14 w8.heap.size ug X) := Rg13.out.on b; have Qo14 : Hid (Q4 w14 bo 47 (.slice xa xn xc) (.slice ya yn yc) (.slice za zn zc) (.slice qa qn qc)) := Qo13.out.on b Qo13.out.lt; clear b; obtain ⟨dw140, dw141, dw142, dw143⟩ := KB.out w14 BBw14.out; obtain ⟨f140, f141, f142, f143, ff⟩ := Qo14.out.cells; clear ff))
  clear k0 k1 k2 k3 o0 o1 o2 o3
  go_wp2_with fail
  obtain ⟨xs, ho, _⟩ := Rx14.out
  refine (En.mark_any w14 _ _ _ xs HL0.out.1 ho).mono ?_
  rintro e w15 ⟨e', r, g⟩
  subst e'
  clear ho r
  have SZ : Hid (w4.heap.size ≤ w5.heap.size ∧ w5.heap.size ≤ w6.heap.size ∧ w6.heap.size ≤ w7.heap.size ∧ w8.heap.size = w7.heap.size + 1 ∧ w8.heap.size ≤ w9.heap.size ∧ bo = w7.heap.size ∧ wa.heap.size ≤ w4.heap.size) := ⟨ZZw5.out, ZZw6.out, ZZw7.out, Zw8.out, ZZw9.out, HBO.out, BBw4.out.size⟩
  have ZZw15 : Hid (w14.heap.size ≤ w15.heap.size) := g.size
  have BBw15 : Hid (Below wa.heap.size wa w15) := BBw14.out.grown g BBw14.out.size (fun k hk => by have := LTx.out k hk; have := SZ.out; omega)
  have Rs15 : Hid (En.Row w15 w4.heap.size us X) := Rs14.out.grown g (fun k hk hj => by have := LTs.out k hk; have := LTx.out k hj; have := SZ.out; omega)
  have Rg15 : Hid (En.Row w15 w8.heap.size ug X) := Rg14.out.grown g (fun k hk hj => by have := LTg.out k hk; have := LTx.out k hj; have := SZ.out; omega)
  have Ry15 : Hid (RqO w15 w6.heap.size (.slice xa xn xc) (.slice ya yn yc) (.slice za zn zc) (.slice qa qn qc) R) := Ry14.out.grown g (fun k hk hj => by have := LTy.out k hk; have := LTx.out k hj; have := SZ.out; omega)
  have Qo15 : Hid (Q4 w15 bo 47 (.slice xa xn xc) (.slice ya yn yc) (.slice za zn zc) (.slice qa qn qc)) := Qo14.out.grown g (fun hj => by have := LTx.out bo hj; have := SZ.out; omega)
  clear g Rs14 Rx14 Ry14 Rg14 Qo14
  obtain ⟨o0, o1, o2, o3, of⟩ := Qo15.out.cells
  clear of
  have lk : Hid (List.length L ≤ 1048576) := HL0.out.1
  go_wp2_with fail
  refine (markR_any R _ _ _ _ _ w15 _ Ry15.out HLR.out (by omega) (by have := lk.out; omega)).mono ?_
  rintro e w16 ⟨⟨kr, e', hkr⟩, g⟩
  subst e'
  clear o0 o1 o2 o3
  have ZZw16 : Hid (w15.heap.size ≤ w16.heap.size) := g.size
  have BBw16 : Hid (Below wa.heap.size wa w16) := g.below BBw15.out BBw15.out.size (fun k hk => by have := LTy.out k hk; have := SZ.out; omega)
  have Rs16 : Hid (En.Row w16 w4.heap.size us X) := row_win g Rs15.out (fun k hk hj => by have := LTs.out k hk; have := LTy.out k hj; have := SZ.out; omega)
  have Rg16 : Hid (En.Row w16 w8.heap.size ug X) := row_win g Rg15.out (fun k hk hj => by have := LTg.out k hk; have := LTy.out k hj; have := SZ.out; omega)
  clear g Rs15 Rg15 Ry15 Qo15
  have hk0 : ¬ kr < 0 := by omega
  have hkd : decide (kr < 0) = false := decide_eq_false hk0
  go_wp2_with fail
  refine (EX0.out w16 _ _ _ _ Rg16.out Rs16.out).mono ?_
  rintro e w17 ⟨e', b⟩
  subst e'
  have ZZw17 : Hid (w16.heap.size ≤ w17.heap.size) := b.size
  have BBw17 : Hid (Below wa.heap.size wa w17) := BBw16.out.trans (b.mono BBw16.out.size)
  have Rs17 : Hid (En.Row w17 w4.heap.size us X) := Rs16.out.on b
  have Rg17 : Hid (En.Row w17 w8.heap.size ug X) := Rg16.out.on b
  clear b Rs16 Rg16
  go_wp2_with fail
  obtain ⟨xg, hg, _⟩ := Rg17.out
  refine (En.mark_any w17 _ _ _ xg HXX.out hg).mono ?_
  rintro e w18 ⟨e', r, g⟩
  subst e'
  clear hg
  have ZZw18 : Hid (w17.heap.size ≤ w18.heap.size) := g.size
  have BBw18 : Hid (Below wa.heap.size wa w18) := BBw17.out.grown g BBw17.out.size (fun k hk => by have := LTg.out k hk; have := SZ.out; omega)
  have Rs18 : Hid (En.Row w18 w4.heap.size us X) := Rs17.out.grown g (fun k hk hj => by have := LTs.out k hk; have := LTg.out k hj; have := SZ.out; omega)
  have Rm18 : Hid (En.Row w18 w8.heap.size ug (En.mks (List.length X))) := r
  clear g r Rs17 Rg17
  have hm0 : ¬ (1 + (List.length X : Int) * 5) < 0 := by omega
  have hmm : ((1 + (List.length X : Int) * 5) != (1 + (List.length X : Int) * 5)) = false := hii _
  go_wp2_with fail
  refine (En.held_any w18 _ (List.length X) HXX.out Rm18.out.reads).mono ?_
  rintro e w19 ⟨e', b⟩
  subst e'
  have ZZw19 : Hid (w18.heap.size ≤ w19.heap.size) := b.size
  have BBw19 : Hid (Below wa.heap.size wa w19) := BBw18.out.trans (b.mono BBw18.out.size)
  have Rs19 : Hid (En.Row w19 w4.heap.size us X) := Rs18.out.on b
  have Rm19 : Hid (En.Row w19 w8.heap.size ug (En.mks (List.length X))) := Rm18.out.on b
  clear b Rs18 Rm18
  obtain ⟨k0, k1, k2, k3⟩ := KB.out w19 BBw19.out
  have BBw19d : Hid (Below wa.heap.size wa w19.drew) := BBw19.out.drew
  have Rs19d : Hid (En.Row w19.drew w4.heap.size us X) := Rs19.out
  have Rm19d : Hid (En.Row w19.drew w8.heap.size ug (En.mks (List.length X))) := Rm19.out
  clear Rs19 Rm19
  go_wp2_with fail
  go_region_held3 (fun w' => w'.cell? ⟨bx, 0, none⟩ = some (.slice pa pn pc) ∧ w'.cell? ⟨bx, 1, none⟩ = some (.slice ta tn tc) ∧ w'.cell? ⟨bx, 2, none⟩ = some (.slice sa sn sc) ∧ w'.cell? ⟨bx, 3, none⟩ = some (.slice la ln lc)) (go_keep)
    (first
    | (go_at_call 9; refine (TO0.out HL0.out _ BBw19d.out).mono ?_; rintro e w20 ⟨uq, e', r, b⟩; subst e'; have ZZw20 : Hid (w19.heap.size ≤ w20.heap.size) := b.size; have BBw20 : Hid (Below wa.heap.size wa w20) := BBw19d.out.trans (b.mono BBw19d.out.size); have Rs20 : Hid (En.Row w20 w4.heap.size us X) := Rs19d.out.on b; have Rm20 : Hid (En.Row w20 w8.heap.size ug (En.mks (List.length X))) := Rm19d.out.on b; have Rp20 : Hid (En.Row w20 w19.heap.size uq L) := r; clear r b; obtain ⟨dw200, dw201, dw202, dw203⟩ := KB.out w20 BBw20.out)
    | (go_at_call 22; refine (TOR.out HLR.out _ BBw20.out).mono ?_; rintro e w21 ⟨p1'', p2'', p3'', p4'', e', r, b⟩; subst e'; have ZZw21 : Hid (w20.heap.size ≤ w21.heap.size) := b.size; have BBw21 : Hid (Below wa.heap.size wa w21) := BBw20.out.trans (b.mono BBw20.out.size); have Rs21 : Hid (En.Row w21 w4.heap.size us X) := Rs20.out.on b; have Rm21 : Hid (En.Row w21 w8.heap.size ug (En.mks (List.length X))) := Rm20.out.on b; have Rp21 : Hid (En.Row w21 w19.heap.size uq L) := Rp20.out.on b; have Rq21 : Hid (RqO w21 w20.heap.size p1'' p2'' p3'' p4'' R) := r; clear r b; obtain ⟨dw210, dw211, dw212, dw213⟩ := KB.out w21 BBw21.out)
    | (go_at_call 23; refine (IU.out HL0.out HLR.out _ _ _ _ _ _ _ _ Rp21.out Rq21.out).mono ?_; rintro e w22 ⟨uh, e', r, b⟩; subst e'; have ZZw22 : Hid (w21.heap.size ≤ w22.heap.size) := b.size; have BBw22 : Hid (Below wa.heap.size wa w22) := BBw21.out.trans (b.mono BBw21.out.size); have Rs22 : Hid (En.Row w22 w4.heap.size us X) := Rs21.out.on b; have Rm22 : Hid (En.Row w22 w8.heap.size ug (En.mks (List.length X))) := Rm21.out.on b; have Rh22 : Hid (En.Row w22 w21.heap.size uh X) := r; clear r b; obtain ⟨dw220, dw221, dw222, dw223⟩ := KB.out w22 BBw22.out))
  clear k0 k1 k2 k3
  go_wp2_with fail
  refine (EX0.out w22 _ _ _ _ Rh22.out Rs22.out).mono ?_
  rintro e w23 ⟨e', b⟩
  subst e'
  have ZZw23 : Hid (w22.heap.size ≤ w23.heap.size) := b.size
  have BBw23 : Hid (Below wa.heap.size wa w23) := BBw22.out.trans (b.mono BBw22.out.size)
  have Rs23 : Hid (En.Row w23 w4.heap.size us X) := Rs22.out.on b
  have Rm23 : Hid (En.Row w23 w8.heap.size ug (En.mks (List.length X))) := Rm22.out.on b
  clear Rh22
  clear b Rs22 Rm22
  go_wp2_with fail
  refine (En.held_any w23 _ (List.length X) HXX.out Rm23.out.reads).mono ?_
  rintro e w24 ⟨e', b⟩
  subst e'
  have ZZw24 : Hid (w23.heap.size ≤ w24.heap.size) := b.size
  have BBw24 : Hid (Below wa.heap.size wa w24) := BBw23.out.trans (b.mono BBw23.out.size)
  have Rs24 : Hid (En.Row w24 w4.heap.size us X) := Rs23.out.on b
  have Rm24 : Hid (En.Row w24 w8.heap.size ug (En.mks (List.length X))) := Rm23.out.on b
  clear b Rs23 Rm23
  go_wp2_with fail
  go_ret
  exact ⟨rfl, BW.out.trans (BBw24.out.mono BW.out.size)⟩
end Go.Proofs.Ytniejbefkijenaa.Ix
