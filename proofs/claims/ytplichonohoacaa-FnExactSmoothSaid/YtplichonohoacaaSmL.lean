/- Smooth: the law, walked. -/
import Derived.Test.YtplichonohoacaaSmI
import Derived.Test.YtplichonohoacaaSmQ
import Derived.Test.YtplichonohoacaaFlH
namespace Go.Proofs.Ytplichonohoacaa.Gd
open Go.ChangeShapes Go.WideShapes Go.ChangeAt Go.RowKit
open Go.Proofs.Ytplichonohoacaa.Flt

def ResS (r c s ws st : Int) (L : List Nat) (P : List Nat) : Prop := P.length = (if right r c s ws st L.length then L.length else 0) ∧ P.length ≤ 4096 ∧ ∀ k, k < P.length → cn (P.getD k 0) = smN r c L k
theorem right_le {r c s ws st : Int} {n : Nat} (h : right r c s ws st n = true) : n ≤ 4096 := by
  have h' : gok r c s ws st = true ∧ (n : Int) = r * c := by unfold right at h; simpa only [Bool.and_eq_true, decide_eq_true_eq] using h
  obtain ⟨hr, hc, _⟩ := gok_parts h'.1
  have := prod_le2 hr hc
  omega
theorem ResS.eq {r c s ws st : Int} {L : List Nat} {P Q : List Nat} (h : ResS r c s ws st L P) (g : ResS r c s ws st L Q) : P.map cn = Q.map cn := by
  have hl : P.length = Q.length := h.1.trans g.1.symm
  refine List.ext_getElem (by simpa using hl) (fun k h1 h2 => ?_)
  simp at h1 h2
  have e := (h.2.2 k h1).trans (g.2.2 k h2).symm
  simpa [List.getD_eq_getElem?_getD, List.getElem?_eq_getElem h1, List.getElem?_eq_getElem h2] using e
theorem ssm_any (r c s ws st : Int) (L : List Nat) (v : Value) (w : World) (hL : Fls.Reads w v L) : Calls Try.prog 5 #[gv r c s ws st, v] w fun e w' => ∃ v' P, e = .returned v' ∧ w'.ownsRow w.heap.size 37 1 v' (List.length P) (Fls.flts P) ∧ ResS r c s ws st L P ∧ Below w.heap.size w w' := by
  cases h : right r c s ws st L.length
  · obtain ⟨a, cap, rfl⟩ := hL.form
    exact (ssmooth_no r c s ws st a L.length cap w h).mono (by
      rintro e w' ⟨v', rfl, h1, h2⟩
      exact ⟨v', [], rfl, h1, ⟨by rw [h]; rfl, by simp, fun k hk => absurd hk (by simp)⟩, h2⟩)
  · exact (ssmooth_yes r c s ws st L v w hL h).mono (by
      rintro e w' ⟨v', P, rfl, h1, h2, h3, h4⟩
      exact ⟨v', P, rfl, h1, ⟨by rw [h]; exact h2, by rw [h2]; exact right_le h, h3⟩, h4⟩)
theorem ism_any (r c s ws st : Int) (L : List Nat) (v : Value) (w : World) (hL : Fls.Reads w v L) (hb : ∀ z ∈ L, z < 18446744073709551616) : Calls Try.prog 8 #[gv r c s ws st, v] w fun e w' => ∃ v' P, e = .returned v' ∧ w'.ownsRow w.heap.size 37 1 v' (List.length P) (Fls.flts P) ∧ ResS r c s ws st L P ∧ Below w.heap.size w w' := by
  cases h : right r c s ws st L.length
  · obtain ⟨a, cap, rfl⟩ := hL.form
    exact (ismooth_no r c s ws st a L.length cap w h).mono (by
      rintro e w' ⟨rfl, h2⟩
      exact ⟨_, [], rfl, World.ownsRow_nil _ _ _ _, ⟨by rw [h]; rfl, by simp, fun k hk => absurd hk (by simp)⟩, h2⟩)
  · exact (ismooth_yes r c s ws st L v w hL h hb).mono (by
      rintro e w' ⟨v', P, rfl, h1, h2, h3, h4⟩
      exact ⟨v', P, rfl, h1, ⟨by rw [h]; exact h2, by rw [h2]; exact right_le h, h3⟩, h4⟩)

set_option maxRecDepth 20000 in
set_option maxHeartbeats 4000000 in
theorem smoothLaw (W : World) (r c s ws st : Int) (v : Value) (L : List Nat) (hL : Fls.Reads W v L) (hbd : ∀ z ∈ L, z < 18446744073709551616) :
    Calls Try.prog 3 #[gv r c s ws st, v] W fun e w' => e = .returned (.bool true) ∧ Below W.heap.size W w' := by
  obtain ⟨a, cap, rfl⟩ := hL.form
  by_cases far : 1048576 < L.length
  · have i1 : (1048576 : Int) < (L.length : Int) := by omega
    go_enter Try.func3, Try.ntmps3
    go_wp2_with fail
    go_ret
    exact ⟨rfl, (Below.refl _ _).alloc (Nat.le_refl _) _⟩
  have TG : Hid (∀ w, Calls Try.prog 6 #[gv r c s ws st] w fun e w' => e = .returned (gv r c s ws st) ∧ Below w.heap.size w w') := fun w => to1_any r c s ws st w
  have TF : Hid (∀ w, Below W.heap.size W w → Calls Try.prog 7 #[.slice a L.length cap] w fun e w' => e = .returned (.slice (some ⟨w.heap.size, 0, none⟩) L.length L.length) ∧ w'.ownsRow w.heap.size 37 1 (.slice (some ⟨w.heap.size, 0, none⟩) L.length L.length) L.length (Fls.flts L) ∧ Below w.heap.size w w') := fun w hw => Fls.to_own w _ L (hL.on hw) (by omega)
  have SA : Hid (∀ (w : World) (B : Nat) (v : Value), w.ownsRow B 37 1 v L.length (Fls.flts L) → Calls Try.prog 5 #[gv r c s ws st, v] w fun e w' => ∃ v' P, e = .returned v' ∧ w'.ownsRow w.heap.size 37 1 v' (List.length P) (Fls.flts P) ∧ ResS r c s ws st L P ∧ Below w.heap.size w w') := fun w B v h => ssm_any r c s ws st L v w (Fls.reads_row h)
  have IA : Hid (∀ (w : World) (B : Nat) (v : Value), w.ownsRow B 37 1 v L.length (Fls.flts L) → Calls Try.prog 8 #[gv r c s ws st, v] w fun e w' => ∃ v' P, e = .returned v' ∧ w'.ownsRow w.heap.size 37 1 v' (List.length P) (Fls.flts P) ∧ ResS r c s ws st L P ∧ Below w.heap.size w w') := fun w B v h => ism_any r c s ws st L v w (Fls.reads_row h) hbd
  have EF : Hid (∀ (w : World) (A B : Nat) (v1 v2 : Value), w.ownsRow A 37 1 v1 L.length (Fls.flts L) → w.ownsRow B 37 1 v2 L.length (Fls.flts L) → Calls Try.prog 9 #[v1, v2] w fun e w' => e = .returned (.bool true) ∧ ∃ n, w' = w.drewN n) := fun w A B v1 v2 h1 h2 => Fls.eq_cn w v1 v2 L L rfl (Fls.reads_row h1) (Fls.reads_row h2)
  have EP : Hid (∀ (w : World) (A B : Nat) (v1 v2 : Value) (P Q : List Nat), w.ownsRow A 37 1 v1 P.length (Fls.flts P) → w.ownsRow B 37 1 v2 Q.length (Fls.flts Q) → ResS r c s ws st L P → ResS r c s ws st L Q → Calls Try.prog 9 #[v1, v2] w fun e w' => e = .returned (.bool true) ∧ ∃ n, w' = w.drewN n) := fun w A B v1 v2 P Q h1 h2 h3 h4 => Fls.eq_cn w v1 v2 P Q (h3.eq h4) (Fls.reads_row h1) (Fls.reads_row h2)
  have MF : Hid (∀ (w : World) (B : Nat) (v : Value), w.ownsRow B 37 1 v L.length (Fls.flts L) → Calls Try.prog 10 #[v, .int .i64 1] w fun e w' => e = .returned (.int .i64 (1 + (L.length : Int))) ∧ w.grownBy w' v.ownBlock) := fun w B v h => (Fls.mark_any w B v L 1 (by omega) (by omega) (by omega) h).mono (by rintro e w' ⟨h1, _, h3⟩; exact ⟨h1, h3⟩)
  have i1 : ¬ (1048576 : Int) < (L.length : Int) := by omega
  have i2 : ¬ (1 : Int) + (L.length : Int) < 0 := by omega
  obtain ⟨w0, hw0⟩ : ∃ w0, w0 = W.alloc (Obj.cells #[.int .i64 r, .int .i64 c, .int .i64 s, .int .i64 ws, .int .i64 st] 23) := ⟨_, rfl⟩
  have HW : Hid (w0 = W.alloc (Obj.cells #[.int .i64 r, .int .i64 c, .int .i64 s, .int .i64 ws, .int .i64 st] 23)) := hw0
  have BB0 : Hid (Below W.heap.size W w0) := (by show Below _ _ _; rw [hw0]; exact (Below.refl _ _).alloc (Nat.le_refl _) _)
  have Rbox_w0 : Hid (Gx w0 W.heap.size r c s ws st) := (by show Gx _ _ _ _ _ _ _; rw [hw0]; unfold Gx; simp [go_sem])
  have LT0 : Hid (W.heap.size < w0.heap.size) := (by show _ < _; rw [hw0]; simp)
  obtain ⟨n, hn⟩ : ∃ n, n = L.length := ⟨_, rfl⟩
  rw [← hn] at TF SA IA EF MF i1 i2 ⊢
  clear hL hbd far hw0 hn
  obtain ⟨g0, g1, g2, g3, g4⟩ := Rbox_w0.out
  go_enter Try.func3, Try.ntmps3
  go_wp2_with fail
  rw [← HW.out]
  clear i1 HW g0 g1 g2 g3 g4
  refine (TG.out w0).mono ?_
  rintro e w1 ⟨rfl, b⟩
  have BBw1 : Hid (Below W.heap.size W w1) := BB0.out.trans (b.mono BB0.out.size)
  have LTw1 : Hid (W.heap.size < w1.heap.size) := Nat.lt_of_lt_of_le LT0.out b.size
  have ZZw1 : Hid (w0.heap.size ≤ w1.heap.size) := b.size
  have Rbox_w1 : Hid (Gx w1 W.heap.size r c s ws st) := Rbox_w0.out.on b LT0.out
  clear b Rbox_w0
  go_wp2_with fail
  refine (TF.out w1 BBw1.out).mono ?_
  rintro e w2 ⟨rfl, r0, b⟩
  have RN : Hid (w2.ownsRow w1.heap.size 37 1 (.slice (some ⟨w1.heap.size, 0, none⟩) n n) n (Fls.flts L)) := r0
  clear r0
  have BBw2 : Hid (Below W.heap.size W w2) := BBw1.out.trans (b.mono BBw1.out.size)
  have LTw2 : Hid (W.heap.size < w2.heap.size) := Nat.lt_of_lt_of_le LTw1.out b.size
  have ZZw2 : Hid (w1.heap.size ≤ w2.heap.size) := b.size
  have Rbox_w2 : Hid (Gx w2 W.heap.size r c s ws st) := Rbox_w1.out.on b LTw1.out
  clear b Rbox_w1
  have Rp_w2 : Hid (w2.ownsRow w1.heap.size 37 1 (.slice (some ⟨w1.heap.size, 0, none⟩) n n) n (Fls.flts L)) := RN.out
  have LBp : Hid (∀ k, (Value.slice (some ⟨w1.heap.size, 0, none⟩) n n).ownBlock = some k → w1.heap.size ≤ k ∧ k < w2.heap.size) := fun k hk => Rp_w2.out.lt k hk
  clear RN
  go_wp2_with fail
  refine (SA.out w2 _ _ Rp_w2.out).mono ?_
  rintro e w3 ⟨us, Ps, rfl, r0, s0, b⟩
  have RN : Hid (w3.ownsRow w2.heap.size 37 1 us (List.length Ps) (Fls.flts Ps)) := r0
  have RSs : Hid (ResS r c s ws st L Ps) := s0
  clear r0 s0
  have BBw3 : Hid (Below W.heap.size W w3) := BBw2.out.trans (b.mono BBw2.out.size)
  have LTw3 : Hid (W.heap.size < w3.heap.size) := Nat.lt_of_lt_of_le LTw2.out b.size
  have ZZw3 : Hid (w2.heap.size ≤ w3.heap.size) := b.size
  have Rbox_w3 : Hid (Gx w3 W.heap.size r c s ws st) := Rbox_w2.out.on b LTw2.out
  have Rp_w3 : Hid (w3.ownsRow w1.heap.size 37 1 (.slice (some ⟨w1.heap.size, 0, none⟩) n n) n (Fls.flts L)) := Pr.row_below Rp_w2.out b
  clear b Rbox_w2 Rp_w2
  have Rs_w3 : Hid (w3.ownsRow w2.heap.size 37 1 us (List.length Ps) (Fls.flts Ps)) := RN.out
  have LBs : Hid (∀ k, us.ownBlock = some k → w2.heap.size ≤ k ∧ k < w3.heap.size) := fun k hk => Rs_w3.out.lt k hk
  clear RN
  clear Rp_w3
  go_wp2_with fail
  refine (TF.out w3 BBw3.out).mono ?_
  rintro e w4 ⟨rfl, r0, b⟩
  have RN : Hid (w4.ownsRow w3.heap.size 37 1 (.slice (some ⟨w3.heap.size, 0, none⟩) n n) n (Fls.flts L)) := r0
  clear r0
  have BBw4 : Hid (Below W.heap.size W w4) := BBw3.out.trans (b.mono BBw3.out.size)
  have LTw4 : Hid (W.heap.size < w4.heap.size) := Nat.lt_of_lt_of_le LTw3.out b.size
  have ZZw4 : Hid (w3.heap.size ≤ w4.heap.size) := b.size
  have Rbox_w4 : Hid (Gx w4 W.heap.size r c s ws st) := Rbox_w3.out.on b LTw3.out
  have Rs_w4 : Hid (w4.ownsRow w2.heap.size 37 1 us (List.length Ps) (Fls.flts Ps)) := Pr.row_below Rs_w3.out b
  clear b Rbox_w3 Rs_w3
  have Rx_w4 : Hid (w4.ownsRow w3.heap.size 37 1 (.slice (some ⟨w3.heap.size, 0, none⟩) n n) n (Fls.flts L)) := RN.out
  have LBx : Hid (∀ k, (Value.slice (some ⟨w3.heap.size, 0, none⟩) n n).ownBlock = some k → w3.heap.size ≤ k ∧ k < w4.heap.size) := fun k hk => Rx_w4.out.lt k hk
  clear RN
  obtain ⟨g0, g1, g2, g3, g4⟩ := Rbox_w4.out
  go_wp2_with fail
  clear g0 g1 g2 g3 g4
  refine (TG.out w4).mono ?_
  rintro e w5 ⟨rfl, b⟩
  have BBw5 : Hid (Below W.heap.size W w5) := BBw4.out.trans (b.mono BBw4.out.size)
  have LTw5 : Hid (W.heap.size < w5.heap.size) := Nat.lt_of_lt_of_le LTw4.out b.size
  have ZZw5 : Hid (w4.heap.size ≤ w5.heap.size) := b.size
  have Rbox_w5 : Hid (Gx w5 W.heap.size r c s ws st) := Rbox_w4.out.on b LTw4.out
  have Rs_w5 : Hid (w5.ownsRow w2.heap.size 37 1 us (List.length Ps) (Fls.flts Ps)) := Pr.row_below Rs_w4.out b
  have Rx_w5 : Hid (w5.ownsRow w3.heap.size 37 1 (.slice (some ⟨w3.heap.size, 0, none⟩) n n) n (Fls.flts L)) := Pr.row_below Rx_w4.out b
  clear b Rbox_w4 Rs_w4 Rx_w4
  go_wp2_with fail
  refine (IA.out w5 _ _ Rx_w5.out).mono ?_
  rintro e w6 ⟨ug, Pg, rfl, r0, s0, b⟩
  have RN : Hid (w6.ownsRow w5.heap.size 37 1 ug (List.length Pg) (Fls.flts Pg)) := r0
  have RSg : Hid (ResS r c s ws st L Pg) := s0
  clear r0 s0
  have BBw6 : Hid (Below W.heap.size W w6) := BBw5.out.trans (b.mono BBw5.out.size)
  have LTw6 : Hid (W.heap.size < w6.heap.size) := Nat.lt_of_lt_of_le LTw5.out b.size
  have ZZw6 : Hid (w5.heap.size ≤ w6.heap.size) := b.size
  have Rbox_w6 : Hid (Gx w6 W.heap.size r c s ws st) := Rbox_w5.out.on b LTw5.out
  have Rs_w6 : Hid (w6.ownsRow w2.heap.size 37 1 us (List.length Ps) (Fls.flts Ps)) := Pr.row_below Rs_w5.out b
  have Rx_w6 : Hid (w6.ownsRow w3.heap.size 37 1 (.slice (some ⟨w3.heap.size, 0, none⟩) n n) n (Fls.flts L)) := Pr.row_below Rx_w5.out b
  clear b Rbox_w5 Rs_w5 Rx_w5
  have Rg_w6 : Hid (w6.ownsRow w5.heap.size 37 1 ug (List.length Pg) (Fls.flts Pg)) := RN.out
  have LBg : Hid (∀ k, ug.ownBlock = some k → w5.heap.size ≤ k ∧ k < w6.heap.size) := fun k hk => Rg_w6.out.lt k hk
  clear RN
  go_wp2_with fail
  refine (EP.out w6 _ _ _ _ _ _ Rg_w6.out Rs_w6.out RSg.out RSs.out).mono ?_
  rintro e w7 ⟨rfl, m, hw⟩
  have BBw7 : Hid (Below W.heap.size W w7) := (by show Below _ _ _; rw [hw]; exact below_drewN BBw6.out _)
  have LTw7 : Hid (W.heap.size < w7.heap.size) := (by show _ < _; rw [hw]; exact LTw6.out)
  have ZZw7 : Hid (w6.heap.size ≤ w7.heap.size) := (by show _ ≤ _; rw [hw]; exact Nat.le_refl _)
  have Rbox_w7 : Hid (Gx w7 W.heap.size r c s ws st) := (by show Gx _ _ _ _ _ _ _; rw [hw]; exact Rbox_w6.out)
  have Rs_w7 : Hid (w7.ownsRow w2.heap.size 37 1 us (List.length Ps) (Fls.flts Ps)) := (by show World.ownsRow _ _ _ _ _ _ _; rw [hw]; exact Rs_w6.out)
  have Rx_w7 : Hid (w7.ownsRow w3.heap.size 37 1 (.slice (some ⟨w3.heap.size, 0, none⟩) n n) n (Fls.flts L)) := (by show World.ownsRow _ _ _ _ _ _ _; rw [hw]; exact Rx_w6.out)
  have Rg_w7 : Hid (w7.ownsRow w5.heap.size 37 1 ug (List.length Pg) (Fls.flts Pg)) := (by show World.ownsRow _ _ _ _ _ _ _; rw [hw]; exact Rg_w6.out)
  clear hw Rbox_w6 Rs_w6 Rx_w6 Rg_w6
  go_wp2_with fail
  refine (TF.out w7 BBw7.out).mono ?_
  rintro e w8 ⟨rfl, r0, b⟩
  have RN : Hid (w8.ownsRow w7.heap.size 37 1 (.slice (some ⟨w7.heap.size, 0, none⟩) n n) n (Fls.flts L)) := r0
  clear r0
  have BBw8 : Hid (Below W.heap.size W w8) := BBw7.out.trans (b.mono BBw7.out.size)
  have LTw8 : Hid (W.heap.size < w8.heap.size) := Nat.lt_of_lt_of_le LTw7.out b.size
  have ZZw8 : Hid (w7.heap.size ≤ w8.heap.size) := b.size
  have Rbox_w8 : Hid (Gx w8 W.heap.size r c s ws st) := Rbox_w7.out.on b LTw7.out
  have Rs_w8 : Hid (w8.ownsRow w2.heap.size 37 1 us (List.length Ps) (Fls.flts Ps)) := Pr.row_below Rs_w7.out b
  have Rx_w8 : Hid (w8.ownsRow w3.heap.size 37 1 (.slice (some ⟨w3.heap.size, 0, none⟩) n n) n (Fls.flts L)) := Pr.row_below Rx_w7.out b
  have Rg_w8 : Hid (w8.ownsRow w5.heap.size 37 1 ug (List.length Pg) (Fls.flts Pg)) := Pr.row_below Rg_w7.out b
  clear b Rbox_w7 Rs_w7 Rx_w7 Rg_w7
  have Ry_w8 : Hid (w8.ownsRow w7.heap.size 37 1 (.slice (some ⟨w7.heap.size, 0, none⟩) n n) n (Fls.flts L)) := RN.out
  have LBy : Hid (∀ k, (Value.slice (some ⟨w7.heap.size, 0, none⟩) n n).ownBlock = some k → w7.heap.size ≤ k ∧ k < w8.heap.size) := fun k hk => Ry_w8.out.lt k hk
  clear RN
  go_wp2_with fail
  refine (EF.out w8 _ _ _ _ Rx_w8.out Ry_w8.out).mono ?_
  rintro e w9 ⟨rfl, m, hw⟩
  have BBw9 : Hid (Below W.heap.size W w9) := (by show Below _ _ _; rw [hw]; exact below_drewN BBw8.out _)
  have LTw9 : Hid (W.heap.size < w9.heap.size) := (by show _ < _; rw [hw]; exact LTw8.out)
  have ZZw9 : Hid (w8.heap.size ≤ w9.heap.size) := (by show _ ≤ _; rw [hw]; exact Nat.le_refl _)
  have Rbox_w9 : Hid (Gx w9 W.heap.size r c s ws st) := (by show Gx _ _ _ _ _ _ _; rw [hw]; exact Rbox_w8.out)
  have Rs_w9 : Hid (w9.ownsRow w2.heap.size 37 1 us (List.length Ps) (Fls.flts Ps)) := (by show World.ownsRow _ _ _ _ _ _ _; rw [hw]; exact Rs_w8.out)
  have Rx_w9 : Hid (w9.ownsRow w3.heap.size 37 1 (.slice (some ⟨w3.heap.size, 0, none⟩) n n) n (Fls.flts L)) := (by show World.ownsRow _ _ _ _ _ _ _; rw [hw]; exact Rx_w8.out)
  have Rg_w9 : Hid (w9.ownsRow w5.heap.size 37 1 ug (List.length Pg) (Fls.flts Pg)) := (by show World.ownsRow _ _ _ _ _ _ _; rw [hw]; exact Rg_w8.out)
  have Ry_w9 : Hid (w9.ownsRow w7.heap.size 37 1 (.slice (some ⟨w7.heap.size, 0, none⟩) n n) n (Fls.flts L)) := (by show World.ownsRow _ _ _ _ _ _ _; rw [hw]; exact Ry_w8.out)
  clear hw Rbox_w8 Rs_w8 Rx_w8 Rg_w8 Ry_w8
  clear Ry_w9
  go_wp2_with fail
  refine (MF.out w9 _ _ Rx_w9.out).mono ?_
  rintro e w10 ⟨rfl, g⟩
  have BBw10 : Hid (Below W.heap.size W w10) := BBw9.out.grown g BBw9.out.size (fun k hk => by have q0 := LT0.out; have q1 := ZZw1.out; have q2 := ZZw2.out; have q3 := ZZw3.out; have q4 := ZZw4.out; have q5 := ZZw5.out; have q6 := ZZw6.out; have q7 := ZZw7.out; have q8 := ZZw8.out; have q9 := ZZw9.out;  have := LBx.out k hk; omega)
  have LTw10 : Hid (W.heap.size < w10.heap.size) := Nat.lt_of_lt_of_le LTw9.out g.size
  have ZZw10 : Hid (w9.heap.size ≤ w10.heap.size) := g.size
  have Rbox_w10 : Hid (Gx w10 W.heap.size r c s ws st) := (by
    have e0 : w10.heap[W.heap.size]? = w9.heap[W.heap.size]? := g.block _ LTw9.out (fun e => by have q0 := LT0.out; have q1 := ZZw1.out; have q2 := ZZw2.out; have q3 := ZZw3.out; have q4 := ZZw4.out; have q5 := ZZw5.out; have q6 := ZZw6.out; have q7 := ZZw7.out; have q8 := ZZw8.out; have q9 := ZZw9.out;  have := LBx.out _ e.symm; omega)
    have h := Rbox_w9.out
    exact ⟨(World.cell?_of_block e0).trans h.1, (World.cell?_of_block e0).trans h.2.1, (World.cell?_of_block e0).trans h.2.2.1, (World.cell?_of_block e0).trans h.2.2.2.1, (World.cell?_of_block e0).trans h.2.2.2.2⟩)
  have Rs_w10 : Hid (w10.ownsRow w2.heap.size 37 1 us (List.length Ps) (Fls.flts Ps)) := Pr.row_grown Rs_w9.out g (fun k hk e => by have q0 := LT0.out; have q1 := ZZw1.out; have q2 := ZZw2.out; have q3 := ZZw3.out; have q4 := ZZw4.out; have q5 := ZZw5.out; have q6 := ZZw6.out; have q7 := ZZw7.out; have q8 := ZZw8.out; have q9 := ZZw9.out;  have := LBs.out k hk; have := LBx.out k e; omega)
  have Rg_w10 : Hid (w10.ownsRow w5.heap.size 37 1 ug (List.length Pg) (Fls.flts Pg)) := Pr.row_grown Rg_w9.out g (fun k hk e => by have q0 := LT0.out; have q1 := ZZw1.out; have q2 := ZZw2.out; have q3 := ZZw3.out; have q4 := ZZw4.out; have q5 := ZZw5.out; have q6 := ZZw6.out; have q7 := ZZw7.out; have q8 := ZZw8.out; have q9 := ZZw9.out;  have := LBg.out k hk; have := LBx.out k e; omega)
  clear g Rbox_w9 Rs_w9 Rx_w9 Rg_w9
  go_wp2_with fail
  refine (EP.out w10 _ _ _ _ _ _ Rg_w10.out Rs_w10.out RSg.out RSs.out).mono ?_
  rintro e w11 ⟨rfl, m, hw⟩
  have BBw11 : Hid (Below W.heap.size W w11) := (by show Below _ _ _; rw [hw]; exact below_drewN BBw10.out _)
  have LTw11 : Hid (W.heap.size < w11.heap.size) := (by show _ < _; rw [hw]; exact LTw10.out)
  have ZZw11 : Hid (w10.heap.size ≤ w11.heap.size) := (by show _ ≤ _; rw [hw]; exact Nat.le_refl _)
  have Rbox_w11 : Hid (Gx w11 W.heap.size r c s ws st) := (by show Gx _ _ _ _ _ _ _; rw [hw]; exact Rbox_w10.out)
  have Rs_w11 : Hid (w11.ownsRow w2.heap.size 37 1 us (List.length Ps) (Fls.flts Ps)) := (by show World.ownsRow _ _ _ _ _ _ _; rw [hw]; exact Rs_w10.out)
  have Rg_w11 : Hid (w11.ownsRow w5.heap.size 37 1 ug (List.length Pg) (Fls.flts Pg)) := (by show World.ownsRow _ _ _ _ _ _ _; rw [hw]; exact Rg_w10.out)
  clear hw Rbox_w10 Rs_w10 Rg_w10
  go_wp2_with fail
  refine (Fls.mark_any w11 _ _ _ 1 (by omega) (by omega) (by have := RSg.out.2.1; omega) Rg_w11.out).mono ?_
  rintro e w12 ⟨rfl, rm, g⟩
  have BBw12 : Hid (Below W.heap.size W w12) := BBw11.out.grown g BBw11.out.size (fun k hk => by have q0 := LT0.out; have q1 := ZZw1.out; have q2 := ZZw2.out; have q3 := ZZw3.out; have q4 := ZZw4.out; have q5 := ZZw5.out; have q6 := ZZw6.out; have q7 := ZZw7.out; have q8 := ZZw8.out; have q9 := ZZw9.out; have q10 := ZZw10.out; have q11 := ZZw11.out;  have := LBg.out k hk; omega)
  have LTw12 : Hid (W.heap.size < w12.heap.size) := Nat.lt_of_lt_of_le LTw11.out g.size
  have ZZw12 : Hid (w11.heap.size ≤ w12.heap.size) := g.size
  have Rbox_w12 : Hid (Gx w12 W.heap.size r c s ws st) := (by
    have e0 : w12.heap[W.heap.size]? = w11.heap[W.heap.size]? := g.block _ LTw11.out (fun e => by have q0 := LT0.out; have q1 := ZZw1.out; have q2 := ZZw2.out; have q3 := ZZw3.out; have q4 := ZZw4.out; have q5 := ZZw5.out; have q6 := ZZw6.out; have q7 := ZZw7.out; have q8 := ZZw8.out; have q9 := ZZw9.out; have q10 := ZZw10.out; have q11 := ZZw11.out;  have := LBg.out _ e.symm; omega)
    have h := Rbox_w11.out
    exact ⟨(World.cell?_of_block e0).trans h.1, (World.cell?_of_block e0).trans h.2.1, (World.cell?_of_block e0).trans h.2.2.1, (World.cell?_of_block e0).trans h.2.2.2.1, (World.cell?_of_block e0).trans h.2.2.2.2⟩)
  have Rs_w12 : Hid (w12.ownsRow w2.heap.size 37 1 us (List.length Ps) (Fls.flts Ps)) := Pr.row_grown Rs_w11.out g (fun k hk e => by have q0 := LT0.out; have q1 := ZZw1.out; have q2 := ZZw2.out; have q3 := ZZw3.out; have q4 := ZZw4.out; have q5 := ZZw5.out; have q6 := ZZw6.out; have q7 := ZZw7.out; have q8 := ZZw8.out; have q9 := ZZw9.out; have q10 := ZZw10.out; have q11 := ZZw11.out;  have := LBs.out k hk; have := LBg.out k e; omega)
  have Rg_w12 : Hid (w12.ownsRow w5.heap.size 37 1 ug (List.length (Fls.sq 1 Pg.length)) (Fls.flts (Fls.sq 1 Pg.length))) := (by show World.ownsRow _ _ _ _ _ _ _; rw [Fls.sq_len]; exact rm)
  clear rm g Rbox_w11 Rs_w11 Rg_w11
  have j1 : ¬ (1 : Int) + (Pg.length : Int) < 0 := by omega
  have j2 : ((1 : Int) + (Pg.length : Int) != 1 + (Pg.length : Int)) = false := by simp
  go_wp2_with fail
  refine (Fls.held_any w12 _ Pg.length (by have := RSg.out.2.1; omega) (Fls.reads_row Rg_w12.out)).mono ?_
  rintro e w13 ⟨rfl, hw⟩
  replace hw : w13 = w12.drewN 0 := hw
  have BBw13 : Hid (Below W.heap.size W w13) := (by show Below _ _ _; rw [hw]; exact below_drewN BBw12.out _)
  have LTw13 : Hid (W.heap.size < w13.heap.size) := (by show _ < _; rw [hw]; exact LTw12.out)
  have ZZw13 : Hid (w12.heap.size ≤ w13.heap.size) := (by show _ ≤ _; rw [hw]; exact Nat.le_refl _)
  have Rbox_w13 : Hid (Gx w13 W.heap.size r c s ws st) := (by show Gx _ _ _ _ _ _ _; rw [hw]; exact Rbox_w12.out)
  have Rs_w13 : Hid (w13.ownsRow w2.heap.size 37 1 us (List.length Ps) (Fls.flts Ps)) := (by show World.ownsRow _ _ _ _ _ _ _; rw [hw]; exact Rs_w12.out)
  have Rg_w13 : Hid (w13.ownsRow w5.heap.size 37 1 ug (List.length (Fls.sq 1 Pg.length)) (Fls.flts (Fls.sq 1 Pg.length))) := (by show World.ownsRow _ _ _ _ _ _ _; rw [hw]; exact Rg_w12.out)
  clear hw Rbox_w12 Rs_w12 Rg_w12
  obtain ⟨g0, g1, g2, g3, g4⟩ := Rbox_w13.out
  go_wp2_with fail
  clear g0 g1 g2 g3 g4
  refine (TG.out w13).mono ?_
  rintro e w14 ⟨rfl, b⟩
  have BBw14 : Hid (Below W.heap.size W w14) := BBw13.out.trans (b.mono BBw13.out.size)
  have LTw14 : Hid (W.heap.size < w14.heap.size) := Nat.lt_of_lt_of_le LTw13.out b.size
  have ZZw14 : Hid (w13.heap.size ≤ w14.heap.size) := b.size
  have Rbox_w14 : Hid (Gx w14 W.heap.size r c s ws st) := Rbox_w13.out.on b LTw13.out
  have Rs_w14 : Hid (w14.ownsRow w2.heap.size 37 1 us (List.length Ps) (Fls.flts Ps)) := Pr.row_below Rs_w13.out b
  have Rg_w14 : Hid (w14.ownsRow w5.heap.size 37 1 ug (List.length (Fls.sq 1 Pg.length)) (Fls.flts (Fls.sq 1 Pg.length))) := Pr.row_below Rg_w13.out b
  clear b Rbox_w13 Rs_w13 Rg_w13
  go_wp2_with fail
  refine (TF.out w14 BBw14.out).mono ?_
  rintro e w15 ⟨rfl, r0, b⟩
  have RN : Hid (w15.ownsRow w14.heap.size 37 1 (.slice (some ⟨w14.heap.size, 0, none⟩) n n) n (Fls.flts L)) := r0
  clear r0
  have BBw15 : Hid (Below W.heap.size W w15) := BBw14.out.trans (b.mono BBw14.out.size)
  have LTw15 : Hid (W.heap.size < w15.heap.size) := Nat.lt_of_lt_of_le LTw14.out b.size
  have ZZw15 : Hid (w14.heap.size ≤ w15.heap.size) := b.size
  have Rbox_w15 : Hid (Gx w15 W.heap.size r c s ws st) := Rbox_w14.out.on b LTw14.out
  have Rs_w15 : Hid (w15.ownsRow w2.heap.size 37 1 us (List.length Ps) (Fls.flts Ps)) := Pr.row_below Rs_w14.out b
  have Rg_w15 : Hid (w15.ownsRow w5.heap.size 37 1 ug (List.length (Fls.sq 1 Pg.length)) (Fls.flts (Fls.sq 1 Pg.length))) := Pr.row_below Rg_w14.out b
  clear b Rbox_w14 Rs_w14 Rg_w14
  have Rz_w15 : Hid (w15.ownsRow w14.heap.size 37 1 (.slice (some ⟨w14.heap.size, 0, none⟩) n n) n (Fls.flts L)) := RN.out
  have LBz : Hid (∀ k, (Value.slice (some ⟨w14.heap.size, 0, none⟩) n n).ownBlock = some k → w14.heap.size ≤ k ∧ k < w15.heap.size) := fun k hk => Rz_w15.out.lt k hk
  clear RN
  go_wp2_with fail
  refine (IA.out w15 _ _ Rz_w15.out).mono ?_
  rintro e w16 ⟨uh, Ph, rfl, r0, s0, b⟩
  have RN : Hid (w16.ownsRow w15.heap.size 37 1 uh (List.length Ph) (Fls.flts Ph)) := r0
  have RSh : Hid (ResS r c s ws st L Ph) := s0
  clear r0 s0
  have BBw16 : Hid (Below W.heap.size W w16) := BBw15.out.trans (b.mono BBw15.out.size)
  have LTw16 : Hid (W.heap.size < w16.heap.size) := Nat.lt_of_lt_of_le LTw15.out b.size
  have ZZw16 : Hid (w15.heap.size ≤ w16.heap.size) := b.size
  have Rbox_w16 : Hid (Gx w16 W.heap.size r c s ws st) := Rbox_w15.out.on b LTw15.out
  have Rs_w16 : Hid (w16.ownsRow w2.heap.size 37 1 us (List.length Ps) (Fls.flts Ps)) := Pr.row_below Rs_w15.out b
  have Rg_w16 : Hid (w16.ownsRow w5.heap.size 37 1 ug (List.length (Fls.sq 1 Pg.length)) (Fls.flts (Fls.sq 1 Pg.length))) := Pr.row_below Rg_w15.out b
  have Rz_w16 : Hid (w16.ownsRow w14.heap.size 37 1 (.slice (some ⟨w14.heap.size, 0, none⟩) n n) n (Fls.flts L)) := Pr.row_below Rz_w15.out b
  clear b Rbox_w15 Rs_w15 Rg_w15 Rz_w15
  have Rh_w16 : Hid (w16.ownsRow w15.heap.size 37 1 uh (List.length Ph) (Fls.flts Ph)) := RN.out
  have LBh : Hid (∀ k, uh.ownBlock = some k → w15.heap.size ≤ k ∧ k < w16.heap.size) := fun k hk => Rh_w16.out.lt k hk
  clear RN
  clear Rz_w16
  go_wp2_with fail
  refine (EP.out w16 _ _ _ _ _ _ Rh_w16.out Rs_w16.out RSh.out RSs.out).mono ?_
  rintro e w17 ⟨rfl, m, hw⟩
  have BBw17 : Hid (Below W.heap.size W w17) := (by show Below _ _ _; rw [hw]; exact below_drewN BBw16.out _)
  have LTw17 : Hid (W.heap.size < w17.heap.size) := (by show _ < _; rw [hw]; exact LTw16.out)
  have ZZw17 : Hid (w16.heap.size ≤ w17.heap.size) := (by show _ ≤ _; rw [hw]; exact Nat.le_refl _)
  have Rbox_w17 : Hid (Gx w17 W.heap.size r c s ws st) := (by show Gx _ _ _ _ _ _ _; rw [hw]; exact Rbox_w16.out)
  have Rs_w17 : Hid (w17.ownsRow w2.heap.size 37 1 us (List.length Ps) (Fls.flts Ps)) := (by show World.ownsRow _ _ _ _ _ _ _; rw [hw]; exact Rs_w16.out)
  have Rg_w17 : Hid (w17.ownsRow w5.heap.size 37 1 ug (List.length (Fls.sq 1 Pg.length)) (Fls.flts (Fls.sq 1 Pg.length))) := (by show World.ownsRow _ _ _ _ _ _ _; rw [hw]; exact Rg_w16.out)
  have Rh_w17 : Hid (w17.ownsRow w15.heap.size 37 1 uh (List.length Ph) (Fls.flts Ph)) := (by show World.ownsRow _ _ _ _ _ _ _; rw [hw]; exact Rh_w16.out)
  clear hw Rbox_w16 Rs_w16 Rg_w16 Rh_w16
  go_wp2_with fail
  refine (Fls.held_any w17 _ Pg.length (by have := RSg.out.2.1; omega) (Fls.reads_row Rg_w17.out)).mono ?_
  rintro e w18 ⟨rfl, hw⟩
  replace hw : w18 = w17.drewN 0 := hw
  have BBw18 : Hid (Below W.heap.size W w18) := (by show Below _ _ _; rw [hw]; exact below_drewN BBw17.out _)
  have LTw18 : Hid (W.heap.size < w18.heap.size) := (by show _ < _; rw [hw]; exact LTw17.out)
  have ZZw18 : Hid (w17.heap.size ≤ w18.heap.size) := (by show _ ≤ _; rw [hw]; exact Nat.le_refl _)
  have Rbox_w18 : Hid (Gx w18 W.heap.size r c s ws st) := (by show Gx _ _ _ _ _ _ _; rw [hw]; exact Rbox_w17.out)
  have Rs_w18 : Hid (w18.ownsRow w2.heap.size 37 1 us (List.length Ps) (Fls.flts Ps)) := (by show World.ownsRow _ _ _ _ _ _ _; rw [hw]; exact Rs_w17.out)
  have Rg_w18 : Hid (w18.ownsRow w5.heap.size 37 1 ug (List.length (Fls.sq 1 Pg.length)) (Fls.flts (Fls.sq 1 Pg.length))) := (by show World.ownsRow _ _ _ _ _ _ _; rw [hw]; exact Rg_w17.out)
  have Rh_w18 : Hid (w18.ownsRow w15.heap.size 37 1 uh (List.length Ph) (Fls.flts Ph)) := (by show World.ownsRow _ _ _ _ _ _ _; rw [hw]; exact Rh_w17.out)
  clear hw Rbox_w17 Rs_w17 Rg_w17 Rh_w17
  go_wp2_with fail
  go_ret
  exact ⟨rfl, BBw18.out⟩
end Go.Proofs.Ytplichonohoacaa.Gd
