/- A Packed marked, and held against its marks. -/
import Derived.Test.YtgajajpcjbpalaaYo
import Derived.Test.YtgajajpcjbpalaaXpD
namespace Go.Proofs.Ytgajajpcjbpalaa.Pkd
open Go.ChangeShapes Go.WideShapes Go.ChangeAt Go.RowKit
open Go.Proofs.Ytgajajpcjbpalaa.Lists Go.Proofs.Ytgajajpcjbpalaa.Flt Go.Proofs.Ytgajajpcjbpalaa.Fls


set_option maxHeartbeats 1000000 in
theorem pmark_any (p : Pk) (tv cv : Value) (T C : List Int) (w : World) (A : Nat) (hT : w.ownsRow A 5 1 tv T.length (Bytes.bys T)) (hC : w.ownsRow A 2 1 cv C.length (ints C)) (l1 : T.length ≤ 4096) (l2 : C.length ≤ 4096) :
    Calls Try.prog 11 #[pkv p tv cv, .int .i64 1] w fun e w' => e = .returned (.int .i64 (1 + T.length + C.length)) ∧ (∃ M, MB M 1 T.length ∧ w'.ownsRow A 5 1 tv T.length (Bytes.bys M)) ∧ w'.ownsRow A 2 1 cv C.length (ints (Lists.sq (1 + T.length) C.length)) ∧ ∃ wa wb, Below w.heap.size w wa ∧ wa.grownBy wb tv.ownBlock ∧ wb.grownBy w' cv.ownBlock := by
  obtain ⟨nt, hnt⟩ : ∃ nt, nt = T.length := ⟨_, rfl⟩
  obtain ⟨nc, hnc⟩ : ∃ nc, nc = C.length := ⟨_, rfl⟩
  obtain ⟨ta, tc, et⟩ : ∃ a c, tv = .slice a nt c := by rw [hnt]; exact row_form hT
  obtain ⟨ca, cc, ec⟩ : ∃ a c, cv = .slice a nc c := by rw [hnc]; exact row_form hC
  subst et ec
  obtain ⟨w1, hw1⟩ : ∃ w1, w1 = w.alloc (.cells #[.int .i64 p.cnt, .int .i64 p.dec, .int .i64 p.ref, .int .i64 p.exp, .int .i64 p.bits, .slice ta nt tc, .slice ca nc cc] 26) := ⟨_, rfl⟩
  have HW : Hid (w1 = w.alloc (.cells #[.int .i64 p.cnt, .int .i64 p.dec, .int .i64 p.ref, .int .i64 p.exp, .int .i64 p.bits, .slice ta nt tc, .slice ca nc cc] 26)) := hw1
  have B1 : Hid (Below w.heap.size w w1) := (by show Below _ _ _; rw [hw1]; exact (Below.refl _ _).alloc (Nat.le_refl _) _)
  have Z1 : Hid (Box7 w1 w.heap.size (.int .i64 p.cnt) (.int .i64 p.dec) (.int .i64 p.ref) (.int .i64 p.exp) (.int .i64 p.bits) (.slice ta nt tc) (.slice ca nc cc)) := (by show Box7 _ _ _ _ _ _ _ _ _; rw [hw1]; unfold Box7; simp [go_sem])
  have hT1 : w1.ownsRow A 5 1 (.slice ta nt tc) T.length (Bytes.bys T) := (by rw [hw1]; exact hT.alloc _)
  have hC1 : w1.ownsRow A 2 1 (.slice ca nc cc) C.length (ints C) := (by rw [hw1]; exact hC.alloc _)
  have CT : Hid (Calls Try.prog 26 #[.slice ta nt tc, .int .i64 1] w1 fun e w' => e = .returned (.int .i64 (1 + nt)) ∧ (∃ M, MB M 1 nt ∧ w'.ownsRow A 5 1 (.slice ta nt tc) nt (Bytes.bys M)) ∧ w1.grownBy w' (Value.slice ta nt tc).ownBlock) := (by rw [hnt]; rw [hnt] at hT1; exact bmark_any w1 A _ T 1 (by omega) (by omega) (by omega) hT1)
  have HC1 : Hid (w1.ownsRow A 2 1 (.slice ca nc cc) C.length (ints C)) := hC1
  have HT1 : Hid (w1.ownsRow A 5 1 (.slice ta nt tc) T.length (Bytes.bys T)) := hT1
  have HNT : Hid (nt = T.length) := hnt
  have HNC : Hid (nc = C.length) := hnc
  have hlt : ∀ k, (Value.slice ta nt tc).ownBlock = some k → k < w.heap.size := fun k hk => (hT.lt k hk).2
  have HLT : Hid (∀ k, (Value.slice ta nt tc).ownBlock = some k → k < w.heap.size) := hlt
  rw [← hnt, ← hnc]
  rw [← hnt] at l1
  rw [← hnc] at l2
  clear hw1 hT hC hT1 hC1 hnt hnc hlt
  obtain ⟨x0, x1, x2, x3, x4, x5, x6⟩ := Z1.out
  unfold pkv
  go_enter Try.func11, Try.ntmps11
  go_upto_region 1 with fail
  rw [← HW.out]
  go_wp2_with fail
  refine CT.out.mono ?_
  rintro e w2 ⟨rfl, ⟨M, hM, hMO⟩, g2⟩
  obtain ⟨y0, y1, y2, y3, y4, y5, y6⟩ := Z1.out.apart g2 (fun k hk => by have := HLT.out k hk; omega)
  have C2 : Hid (w2.ownsRow A 2 1 (.slice ca nc cc) C.length (ints C)) := row_apart_e HC1.out g2 (fun k j hk hj e => type_ne HC1.out HT1.out (by decide) k hk (by rw [hj, e]))
  have CC : Hid (Calls Try.prog 27 #[.slice ca nc cc, .int .i64 (1 + nt)] w2 fun e w' => e = .returned (.int .i64 (1 + nt + nc)) ∧ w'.ownsRow A 2 1 (.slice ca nc cc) nc (ints (Lists.sq (1 + nt) nc)) ∧ w2.grownBy w' (Value.slice ca nc cc).ownBlock) := (by
    have h := C2.out
    rw [HNC.out] at h ⊢
    exact Lists.mark_any w2 A _ C (1 + nt) (by omega) (by omega) (by rw [← HNC.out]; omega) h)
  have G2 : Hid (w1.grownBy w2 (Value.slice ta nt tc).ownBlock) := g2
  have M2 : Hid (MB M 1 nt) := hM
  have O2 : Hid (w2.ownsRow A 5 1 (.slice ta nt tc) nt (Bytes.bys M)) := hMO
  clear g2 hM hMO x0 x1 x2 x3 x4 x5 x6 CT
  go_wp2_with fail
  refine CC.out.mono ?_
  rintro e w3 ⟨rfl, o3, g3⟩
  have O3 : Hid (w3.ownsRow A 2 1 (.slice ca nc cc) nc (ints (Lists.sq (1 + nt) nc))) := o3
  have T3 : Hid (w3.ownsRow A 5 1 (.slice ta nt tc) nt (Bytes.bys M)) := row_apart_e O2.out g3 (fun k j hk hj e => type_ne O2.out C2.out (by decide) k hk (by rw [hj, e]))
  have G3 : Hid (w2.grownBy w3 (Value.slice ca nc cc).ownBlock) := g3
  clear o3 g3 CC
  go_wp2_with fail
  go_ret
  exact ⟨rfl, ⟨M, M2.out, T3.out⟩, O3.out, w1, w2, B1.out, G2.out, G3.out⟩

set_option maxHeartbeats 1000000 in
theorem pheld_any (p : Pk) (tv cv : Value) (M : List Int) (nt nc : Nat) (w : World) (hM : MB M 1 nt) (hT : Bytes.Reads w tv M) (hC : Lists.Reads w cv (Lists.sq (1 + nt) nc)) (l1 : nt ≤ 4096) (l2 : nc ≤ 4096) :
    Calls Try.prog 12 #[pkv p tv cv, .int .i64 1] w fun e w' => e = .returned (.int .i64 (1 + nt + nc)) ∧ Below w.heap.size w w' := by
  obtain ⟨ta, tc, et⟩ : ∃ a c, tv = .slice a nt c := by obtain ⟨a, c, h⟩ := hT.form; rw [hM.1] at h; exact ⟨a, c, h⟩
  obtain ⟨ca, cc, ec⟩ : ∃ a c, cv = .slice a nc c := by obtain ⟨a, c, h⟩ := hC.form; rw [Lists.sq_len] at h; exact ⟨a, c, h⟩
  subst et ec
  obtain ⟨w1, hw1⟩ : ∃ w1, w1 = w.alloc (.cells #[.int .i64 p.cnt, .int .i64 p.dec, .int .i64 p.ref, .int .i64 p.exp, .int .i64 p.bits, .slice ta nt tc, .slice ca nc cc] 26) := ⟨_, rfl⟩
  have HW : Hid (w1 = w.alloc (.cells #[.int .i64 p.cnt, .int .i64 p.dec, .int .i64 p.ref, .int .i64 p.exp, .int .i64 p.bits, .slice ta nt tc, .slice ca nc cc] 26)) := hw1
  have B1 : Hid (Below w.heap.size w w1) := (by show Below _ _ _; rw [hw1]; exact (Below.refl _ _).alloc (Nat.le_refl _) _)
  have Z1 : Hid (Box7 w1 w.heap.size (.int .i64 p.cnt) (.int .i64 p.dec) (.int .i64 p.ref) (.int .i64 p.exp) (.int .i64 p.bits) (.slice ta nt tc) (.slice ca nc cc)) := (by show Box7 _ _ _ _ _ _ _ _ _; rw [hw1]; unfold Box7; simp [go_sem])
  have CT : Hid (Calls Try.prog 28 #[.slice ta nt tc, .int .i64 1] w1 fun e w' => e = .returned (.int .i64 (1 + nt)) ∧ ∃ m, w' = w1.drewN m) := bheld_any w1 _ M nt 1 (by omega) (by omega) (by omega) hM (hT.on B1.out)
  have CC : Hid (∀ m, Calls Try.prog 29 #[.slice ca nc cc, .int .i64 (1 + nt)] (w1.drewN m) fun e w' => e = .returned (.int .i64 (1 + nt + nc)) ∧ ∃ q, w' = (w1.drewN m).drewN q) := fun m => iheld_any (w1.drewN m) _ nc (1 + nt) (by omega) (by omega) (by omega) (hC.on (below_drewN B1.out m))
  clear hw1 hT hC hM
  obtain ⟨x0, x1, x2, x3, x4, x5, x6⟩ := Z1.out
  have n1 : (0 : Int) ≤ 1 + nt := by omega
  have n2 : (0 : Int) ≤ 1 + nt + nc := by omega
  unfold pkv
  go_enter Try.func12, Try.ntmps12
  go_upto_region 1 with fail
  rw [← HW.out]
  go_wp2_with fail
  refine CT.out.mono ?_
  rintro e w2 ⟨rfl, m, hw2⟩
  subst hw2
  go_wp2_with fail
  refine (CC.out m).mono ?_
  rintro e w3 ⟨rfl, q, hw3⟩
  subst hw3
  go_wp2_with fail
  go_ret
  exact ⟨rfl, below_drewN B1.out (m + q)⟩

end Go.Proofs.Ytgajajpcjbpalaa.Pkd
