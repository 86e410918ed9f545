/- Order: the law, walked. -/
import Derived.Test.YtfjkchkcgnjkaaaIo
namespace Go.Proofs.Ytfjkchkcgnjkaaa.Srt
open Go.ChangeShapes Go.WideShapes Go.ChangeAt Go.RowKit
open Go.Proofs.Ytfjkchkcgnjkaaa.Flt Go.Proofs.Ytfjkchkcgnjkaaa.St Go.Proofs.Ytfjkchkcgnjkaaa.Fls
attribute [local go_sem] Fls.run_store_flt

set_option maxHeartbeats 1000000 in
theorem iorder_none (a : Option Addr) (c : Nat) (w : World) :
    Calls Try.prog 7 #[.slice a 0 c] w fun e w' => ∃ v' M, e = .returned v' ∧ w'.ownsRow w.heap.size 31 1 v' (List.length M) (flts M) ∧ OR [] M ∧ Below w.heap.size w w' := by
  obtain ⟨i0, hi, hzz⟩ := Option.map_eq_some_iff.1 Fls.Try.info31
  have hz0 : i0.zero = some (.float .f64 0) := congrArg Prod.fst hzz
  have hz1 : i0.size = 1 := congrArg (fun q => q.2.1) hzz
  have hz2 : i0.bytes = 8 := congrArg (fun q => q.2.2) hzz
  clear hzz
  have FZ : Hid ((madeCells (Value.float .f64 0).cells (0 * 1)).toList = flts []) := fill_zero []
  have SO : Hid (∀ (w5 : World), w5.ownsRow w.heap.size 31 1 (.slice (some ⟨w.heap.size, 0, none⟩) 0 0) 0 (flts []) → Below w.heap.size w w5 → Calls Try.prog 15 #[.slice (some ⟨w.heap.size, 0, none⟩) 0 0, .func (.func 16) #[] #[]] w5 fun e w' => e = .returned (.tuple #[]) ∧ ∃ M, w'.ownsRow w.heap.size 31 1 (.slice (some ⟨w.heap.size, 0, none⟩) 0 0) (List.length M) (flts M) ∧ OR [] M ∧ Below w.heap.size w w') := by
    intro w5 ho hB
    refine (sorted_any w w.heap.size w.heap.size 0 0 (Nat.le_refl _) (by omega) [] w5 ⟨ho, hB, rfl, by simp⟩).mono ?_
    rintro e w' ⟨rfl, M, r, p, s⟩
    have hl : M.length = 0 := r.len
    refine ⟨rfl, M, by rw [hl]; exact r.own, ?_, r.bel⟩
    unfold OR
    rw [if_pos (by simp)]
    exact ⟨p.perm, asc_small (by omega)⟩
  go_enter Try.func7, Try.ntmps7
  go_upto_region 4 with (at_make; refine wpList_make_full _ rfl _ _ 22 rfl w.heap.size 31 i0 (.float .f64 0) 1 Try.underlying22 hi hz0 hz1 .i64 .i64 (0 : Int) (0 : Int) 0 rfl rfl rfl rfl (by omega) (by unfold maxLen; omega) (Nat.le_refl _) ?_; intro w4 hown hgrow)
  rw [FZ.out] at hown
  have R4 : Hid (w4.ownsRow w.heap.size 31 1 (.slice (some ⟨w.heap.size, 0, none⟩) 0 0) 0 (flts [])) := hown
  have B4 : Hid (Below w.heap.size w w4) := (Below.refl _ _).grown hgrow (Nat.le_refl _) (fun k hk => by cases hk)
  clear hown hgrow FZ
  have C := SO.out w4 R4.out B4.out
  have hsz : (Try.prog.info? 31).map (·.size) = some 1 := by kernel_rfl
  go_wp2_with (refine wpList_copy_nothing rfl (.tmp 10) (.tmp 11) 22 22 rfl 31 Try.underlying22 hsz _ _ _ _ _ _ (by rfl) (by rfl) (by rfl) ?_)
  refine C.mono ?_
  rintro e w6 ⟨rfl, M, m1, m2, m3⟩
  have X : Hid (w6.ownsRow w.heap.size 31 1 (.slice (some ⟨w.heap.size, 0, none⟩) 0 0) (List.length M) (flts M) ∧ OR [] M ∧ Below w.heap.size w w6) := ⟨m1, m2, m3⟩
  clear m1 m2 m3 C SO R4 B4
  go_wp2_with fail
  go_ret
  exact ⟨_, M, rfl, X.out⟩

theorem iorder_any (L : List Nat) (w : World) (v : Value) (bd : Bd L) (r : Reads w v L) :
    Calls Try.prog 7 #[v] w fun e w' => ∃ v' M, e = .returned v' ∧ w'.ownsRow w.heap.size 31 1 v' (List.length M) (flts M) ∧ OR L M ∧ Below w.heap.size w w' := by
  by_cases h : L.length ≤ 4000
  · rcases r with ⟨rfl, a, c, rfl⟩ | ⟨b, o, c, rfl, x1, x2, x3, x4⟩
    · exact iorder_none a c w
    · by_cases h0 : L.length = 0
      · have e : L = [] := List.eq_nil_of_length_eq_zero h0
        subst e
        exact iorder_none _ c w
      · exact iorder_yes w b o c L L.length rfl (by omega) h x3 bd x4
  · obtain ⟨a, c, rfl⟩ := r.form
    refine (iorder_far a L.length c w (by omega)).mono ?_
    rintro e w' ⟨rfl, rfl⟩
    exact ⟨_, [], rfl, World.ownsRow_nil _ _ _ _, by unfold OR; rw [if_neg h], Below.refl _ _⟩

set_option maxRecDepth 20000 in
set_option maxHeartbeats 4000000 in
theorem orderLaw (W : World) (v : Value) (L : List Nat) (hL : Reads W v L) (hbd : Bd L) :
    Calls Try.prog 3 #[v] W fun e w' => e = .returned (.bool true) ∧ Below W.heap.size W w' := by
  obtain ⟨a, cap, rfl⟩ := hL.form
  by_cases far : 1048576 < L.length
  · have i1 : (1048576 : Int) < (L.length : Int) := by omega
    go_enter Try.func3, Try.ntmps3
    go_wp2_with fail
    go_ret
    exact ⟨rfl, Below.refl _ _⟩
  have TF : Hid (∀ w, Below W.heap.size W w → Calls Try.prog 6 #[.slice a L.length cap] w fun e w' => e = .returned (.slice (some ⟨w.heap.size, 0, none⟩) L.length L.length) ∧ w'.ownsRow w.heap.size 31 1 (.slice (some ⟨w.heap.size, 0, none⟩) L.length L.length) L.length (Fls.flts L) ∧ Below w.heap.size w w') := fun w hw => Fls.to_own w _ L (hL.on hw) (by omega)
  have SA : Hid (∀ (w : World) (B : Nat) (v : Value), w.ownsRow B 31 1 v L.length (Fls.flts L) → Calls Try.prog 5 #[v] w fun e w' => ∃ v' P, e = .returned v' ∧ w'.ownsRow w.heap.size 31 1 v' (List.length P) (Fls.flts P) ∧ OR L P ∧ Below w.heap.size w w') := fun w B v h => sorder_any L w v hbd (Fls.reads_row h)
  have IA : Hid (∀ (w : World) (B : Nat) (v : Value), w.ownsRow B 31 1 v L.length (Fls.flts L) → Calls Try.prog 7 #[v] w fun e w' => ∃ v' P, e = .returned v' ∧ w'.ownsRow w.heap.size 31 1 v' (List.length P) (Fls.flts P) ∧ OR L P ∧ Below w.heap.size w w') := fun w B v h => iorder_any L w v hbd (Fls.reads_row h)
  have EF : Hid (∀ (w : World) (A B : Nat) (v1 v2 : Value), w.ownsRow A 31 1 v1 L.length (Fls.flts L) → w.ownsRow B 31 1 v2 L.length (Fls.flts L) → Calls Try.prog 8 #[v1, v2] w fun e w' => e = .returned (.bool true) ∧ ∃ n, w' = w.drewN n) := fun w A B v1 v2 h1 h2 => Fls.eq_cn w v1 v2 L L rfl (Fls.reads_row h1) (Fls.reads_row h2)
  have EP : Hid (∀ (w : World) (A B : Nat) (v1 v2 : Value) (P Q : List Nat), w.ownsRow A 31 1 v1 P.length (Fls.flts P) → w.ownsRow B 31 1 v2 Q.length (Fls.flts Q) → OR L P → OR L Q → Calls Try.prog 8 #[v1, v2] w fun e w' => e = .returned (.bool true) ∧ ∃ n, w' = w.drewN n) := fun w A B v1 v2 P Q h1 h2 h3 h4 => Fls.eq_cn w v1 v2 P Q (h3.cn h4 hbd) (Fls.reads_row h1) (Fls.reads_row h2)
  have MF : Hid (∀ (w : World) (B : Nat) (v : Value), w.ownsRow B 31 1 v L.length (Fls.flts L) → Calls Try.prog 9 #[v, .int .i64 1] w fun e w' => e = .returned (.int .i64 (1 + (L.length : Int))) ∧ w.grownBy w' v.ownBlock) := fun w B v h => (Fls.mark_any w B v L 1 (by omega) (by omega) (by omega) h).mono (by rintro e w' ⟨h1, _, h3⟩; exact ⟨h1, h3⟩)
  have i1 : ¬ (1048576 : Int) < (L.length : Int) := by omega
  have i2 : ¬ (1 : Int) + (L.length : Int) < 0 := by omega
  have BBw0 : Hid (Below W.heap.size W W) := Below.refl _ _
  obtain ⟨n, hn⟩ : ∃ n, n = L.length := ⟨_, rfl⟩
  rw [← hn] at TF SA IA EF MF i1 i2 ⊢
  clear hL hbd far hn
  go_enter Try.func3, Try.ntmps3
  go_wp2_with fail
  refine (TF.out W BBw0.out).mono ?_
  rintro e w1 ⟨rfl, r0, b⟩
  have RN : Hid (w1.ownsRow W.heap.size 31 1 (.slice (some ⟨W.heap.size, 0, none⟩) n n) n (Fls.flts L)) := r0
  clear r0
  have BBw1 : Hid (Below W.heap.size W w1) := BBw0.out.trans (b.mono BBw0.out.size)
  have ZZw1 : Hid (W.heap.size ≤ w1.heap.size) := b.size
  clear b
  have Rp_w1 : Hid (w1.ownsRow W.heap.size 31 1 (.slice (some ⟨W.heap.size, 0, none⟩) n n) n (Fls.flts L)) := RN.out
  have LBp : Hid (∀ k, (Value.slice (some ⟨W.heap.size, 0, none⟩) n n).ownBlock = some k → W.heap.size ≤ k ∧ k < w1.heap.size) := fun k hk => Rp_w1.out.lt k hk
  clear RN
  go_wp2_with fail
  refine (SA.out w1 _ _ Rp_w1.out).mono ?_
  rintro e w2 ⟨us, Ps, rfl, r0, s0, b⟩
  have RN : Hid (w2.ownsRow w1.heap.size 31 1 us (List.length Ps) (Fls.flts Ps)) := r0
  have RSs : Hid (OR L Ps) := s0
  clear r0 s0
  have BBw2 : Hid (Below W.heap.size W w2) := BBw1.out.trans (b.mono BBw1.out.size)
  have ZZw2 : Hid (w1.heap.size ≤ w2.heap.size) := b.size
  have Rp_w2 : Hid (w2.ownsRow W.heap.size 31 1 (.slice (some ⟨W.heap.size, 0, none⟩) n n) n (Fls.flts L)) := Fls.row_below Rp_w1.out b
  clear Rp_w1
  clear b
  have Rs_w2 : Hid (w2.ownsRow w1.heap.size 31 1 us (List.length Ps) (Fls.flts Ps)) := RN.out
  have LBs : Hid (∀ k, us.ownBlock = some k → w1.heap.size ≤ k ∧ k < w2.heap.size) := fun k hk => Rs_w2.out.lt k hk
  clear RN
  clear Rp_w2
  go_wp2_with fail
  refine (TF.out w2 BBw2.out).mono ?_
  rintro e w3 ⟨rfl, r0, b⟩
  have RN : Hid (w3.ownsRow w2.heap.size 31 1 (.slice (some ⟨w2.heap.size, 0, none⟩) n n) n (Fls.flts L)) := r0
  clear r0
  have BBw3 : Hid (Below W.heap.size W w3) := BBw2.out.trans (b.mono BBw2.out.size)
  have ZZw3 : Hid (w2.heap.size ≤ w3.heap.size) := b.size
  have Rs_w3 : Hid (w3.ownsRow w1.heap.size 31 1 us (List.length Ps) (Fls.flts Ps)) := Fls.row_below Rs_w2.out b
  clear Rs_w2
  clear b
  have Rx_w3 : Hid (w3.ownsRow w2.heap.size 31 1 (.slice (some ⟨w2.heap.size, 0, none⟩) n n) n (Fls.flts L)) := RN.out
  have LBx : Hid (∀ k, (Value.slice (some ⟨w2.heap.size, 0, none⟩) n n).ownBlock = some k → w2.heap.size ≤ k ∧ k < w3.heap.size) := fun k hk => Rx_w3.out.lt k hk
  clear RN
  go_wp2_with fail
  refine (IA.out w3 _ _ Rx_w3.out).mono ?_
  rintro e w4 ⟨ug, Pg, rfl, r0, s0, b⟩
  have RN : Hid (w4.ownsRow w3.heap.size 31 1 ug (List.length Pg) (Fls.flts Pg)) := r0
  have RSg : Hid (OR L Pg) := s0
  clear r0 s0
  have BBw4 : Hid (Below W.heap.size W w4) := BBw3.out.trans (b.mono BBw3.out.size)
  have ZZw4 : Hid (w3.heap.size ≤ w4.heap.size) := b.size
  have Rs_w4 : Hid (w4.ownsRow w1.heap.size 31 1 us (List.length Ps) (Fls.flts Ps)) := Fls.row_below Rs_w3.out b
  have Rx_w4 : Hid (w4.ownsRow w2.heap.size 31 1 (.slice (some ⟨w2.heap.size, 0, none⟩) n n) n (Fls.flts L)) := Fls.row_below Rx_w3.out b
  clear Rs_w3 Rx_w3
  clear b
  have Rg_w4 : Hid (w4.ownsRow w3.heap.size 31 1 ug (List.length Pg) (Fls.flts Pg)) := RN.out
  have LBg : Hid (∀ k, ug.ownBlock = some k → w3.heap.size ≤ k ∧ k < w4.heap.size) := fun k hk => Rg_w4.out.lt k hk
  clear RN
  go_wp2_with fail
  refine (EP.out w4 _ _ _ _ _ _ Rg_w4.out Rs_w4.out RSg.out RSs.out).mono ?_
  rintro e w5 ⟨rfl, m, hw⟩
  have BBw5 : Hid (Below W.heap.size W w5) := (by show Below _ _ _; rw [hw]; exact below_drewN BBw4.out _)
  have ZZw5 : Hid (w4.heap.size ≤ w5.heap.size) := (by show _ ≤ _; rw [hw]; exact Nat.le_refl _)
  have Rs_w5 : Hid (w5.ownsRow w1.heap.size 31 1 us (List.length Ps) (Fls.flts Ps)) := (by show World.ownsRow _ _ _ _ _ _ _; rw [hw]; exact Rs_w4.out)
  have Rx_w5 : Hid (w5.ownsRow w2.heap.size 31 1 (.slice (some ⟨w2.heap.size, 0, none⟩) n n) n (Fls.flts L)) := (by show World.ownsRow _ _ _ _ _ _ _; rw [hw]; exact Rx_w4.out)
  have Rg_w5 : Hid (w5.ownsRow w3.heap.size 31 1 ug (List.length Pg) (Fls.flts Pg)) := (by show World.ownsRow _ _ _ _ _ _ _; rw [hw]; exact Rg_w4.out)
  clear hw Rs_w4 Rx_w4 Rg_w4
  go_wp2_with fail
  refine (TF.out w5 BBw5.out).mono ?_
  rintro e w6 ⟨rfl, r0, b⟩
  have RN : Hid (w6.ownsRow w5.heap.size 31 1 (.slice (some ⟨w5.heap.size, 0, none⟩) n n) n (Fls.flts L)) := r0
  clear r0
  have BBw6 : Hid (Below W.heap.size W w6) := BBw5.out.trans (b.mono BBw5.out.size)
  have ZZw6 : Hid (w5.heap.size ≤ w6.heap.size) := b.size
  have Rs_w6 : Hid (w6.ownsRow w1.heap.size 31 1 us (List.length Ps) (Fls.flts Ps)) := Fls.row_below Rs_w5.out b
  have Rx_w6 : Hid (w6.ownsRow w2.heap.size 31 1 (.slice (some ⟨w2.heap.size, 0, none⟩) n n) n (Fls.flts L)) := Fls.row_below Rx_w5.out b
  have Rg_w6 : Hid (w6.ownsRow w3.heap.size 31 1 ug (List.length Pg) (Fls.flts Pg)) := Fls.row_below Rg_w5.out b
  clear Rs_w5 Rx_w5 Rg_w5
  clear b
  have Ry_w6 : Hid (w6.ownsRow w5.heap.size 31 1 (.slice (some ⟨w5.heap.size, 0, none⟩) n n) n (Fls.flts L)) := RN.out
  have LBy : Hid (∀ k, (Value.slice (some ⟨w5.heap.size, 0, none⟩) n n).ownBlock = some k → w5.heap.size ≤ k ∧ k < w6.heap.size) := fun k hk => Ry_w6.out.lt k hk
  clear RN
  go_wp2_with fail
  refine (EF.out w6 _ _ _ _ Rx_w6.out Ry_w6.out).mono ?_
  rintro e w7 ⟨rfl, m, hw⟩
  have BBw7 : Hid (Below W.heap.size W w7) := (by show Below _ _ _; rw [hw]; exact below_drewN BBw6.out _)
  have ZZw7 : Hid (w6.heap.size ≤ w7.heap.size) := (by show _ ≤ _; rw [hw]; exact Nat.le_refl _)
  have Rs_w7 : Hid (w7.ownsRow w1.heap.size 31 1 us (List.length Ps) (Fls.flts Ps)) := (by show World.ownsRow _ _ _ _ _ _ _; rw [hw]; exact Rs_w6.out)
  have Rx_w7 : Hid (w7.ownsRow w2.heap.size 31 1 (.slice (some ⟨w2.heap.size, 0, none⟩) n n) n (Fls.flts L)) := (by show World.ownsRow _ _ _ _ _ _ _; rw [hw]; exact Rx_w6.out)
  have Rg_w7 : Hid (w7.ownsRow w3.heap.size 31 1 ug (List.length Pg) (Fls.flts Pg)) := (by show World.ownsRow _ _ _ _ _ _ _; rw [hw]; exact Rg_w6.out)
  have Ry_w7 : Hid (w7.ownsRow w5.heap.size 31 1 (.slice (some ⟨w5.heap.size, 0, none⟩) n n) n (Fls.flts L)) := (by show World.ownsRow _ _ _ _ _ _ _; rw [hw]; exact Ry_w6.out)
  clear hw Rs_w6 Rx_w6 Rg_w6 Ry_w6
  clear Ry_w7
  go_wp2_with fail
  refine (MF.out w7 _ _ Rx_w7.out).mono ?_
  rintro e w8 ⟨rfl, g⟩
  have BBw8 : Hid (Below W.heap.size W w8) := BBw7.out.grown g BBw7.out.size (fun k hk => by have q1 := ZZw1.out; have q2 := ZZw2.out; have q3 := ZZw3.out; have q4 := ZZw4.out; have q5 := ZZw5.out; have q6 := ZZw6.out; have q7 := ZZw7.out; have := LBx.out k hk; omega)
  have ZZw8 : Hid (w7.heap.size ≤ w8.heap.size) := g.size
  have Rs_w8 : Hid (w8.ownsRow w1.heap.size 31 1 us (List.length Ps) (Fls.flts Ps)) := Fls.row_grown Rs_w7.out g (fun k hk e => by have q1 := ZZw1.out; have q2 := ZZw2.out; have q3 := ZZw3.out; have q4 := ZZw4.out; have q5 := ZZw5.out; have q6 := ZZw6.out; have q7 := ZZw7.out; have := LBs.out k hk; have := LBx.out k e; omega)
  have Rg_w8 : Hid (w8.ownsRow w3.heap.size 31 1 ug (List.length Pg) (Fls.flts Pg)) := Fls.row_grown Rg_w7.out g (fun k hk e => by have q1 := ZZw1.out; have q2 := ZZw2.out; have q3 := ZZw3.out; have q4 := ZZw4.out; have q5 := ZZw5.out; have q6 := ZZw6.out; have q7 := ZZw7.out; have := LBg.out k hk; have := LBx.out k e; omega)
  clear g Rs_w7 Rx_w7 Rg_w7
  go_wp2_with fail
  refine (EP.out w8 _ _ _ _ _ _ Rg_w8.out Rs_w8.out RSg.out RSs.out).mono ?_
  rintro e w9 ⟨rfl, m, hw⟩
  have BBw9 : Hid (Below W.heap.size W w9) := (by show Below _ _ _; rw [hw]; exact below_drewN BBw8.out _)
  have ZZw9 : Hid (w8.heap.size ≤ w9.heap.size) := (by show _ ≤ _; rw [hw]; exact Nat.le_refl _)
  have Rs_w9 : Hid (w9.ownsRow w1.heap.size 31 1 us (List.length Ps) (Fls.flts Ps)) := (by show World.ownsRow _ _ _ _ _ _ _; rw [hw]; exact Rs_w8.out)
  have Rg_w9 : Hid (w9.ownsRow w3.heap.size 31 1 ug (List.length Pg) (Fls.flts Pg)) := (by show World.ownsRow _ _ _ _ _ _ _; rw [hw]; exact Rg_w8.out)
  clear hw Rs_w8 Rg_w8
  go_wp2_with fail
  refine (Fls.mark_any w9 _ _ _ 1 (by omega) (by omega) (by have := RSg.out.len; omega) Rg_w9.out).mono ?_
  rintro e w10 ⟨rfl, rm, g⟩
  have BBw10 : Hid (Below W.heap.size W w10) := BBw9.out.grown g BBw9.out.size (fun k hk => by have q1 := ZZw1.out; have q2 := ZZw2.out; have q3 := ZZw3.out; have q4 := ZZw4.out; have q5 := ZZw5.out; have q6 := ZZw6.out; have q7 := ZZw7.out; have q8 := ZZw8.out; have q9 := ZZw9.out; have := LBg.out k hk; omega)
  have ZZw10 : Hid (w9.heap.size ≤ w10.heap.size) := g.size
  have Rs_w10 : Hid (w10.ownsRow w1.heap.size 31 1 us (List.length Ps) (Fls.flts Ps)) := Fls.row_grown Rs_w9.out g (fun k hk e => by have q1 := ZZw1.out; have q2 := ZZw2.out; have q3 := ZZw3.out; have q4 := ZZw4.out; have q5 := ZZw5.out; have q6 := ZZw6.out; have q7 := ZZw7.out; have q8 := ZZw8.out; have q9 := ZZw9.out; have := LBs.out k hk; have := LBg.out k e; omega)
  have Rg_w10 : Hid (w10.ownsRow w3.heap.size 31 1 ug (List.length (Fls.sq 1 Pg.length)) (Fls.flts (Fls.sq 1 Pg.length))) := (by show World.ownsRow _ _ _ _ _ _ _; rw [Fls.sq_len]; exact rm)
  clear rm g Rs_w9 Rg_w9
  have j1 : ¬ (1 : Int) + (Pg.length : Int) < 0 := by omega
  have j2 : ((1 : Int) + (Pg.length : Int) != 1 + (Pg.length : Int)) = false := by simp
  go_wp2_with fail
  refine (Fls.held_any w10 _ Pg.length (by have := RSg.out.len; omega) (Fls.reads_row Rg_w10.out)).mono ?_
  rintro e w11 ⟨rfl, hw⟩
  replace hw : w11 = w10.drewN 0 := hw
  have BBw11 : Hid (Below W.heap.size W w11) := (by show Below _ _ _; rw [hw]; exact below_drewN BBw10.out _)
  have ZZw11 : Hid (w10.heap.size ≤ w11.heap.size) := (by show _ ≤ _; rw [hw]; exact Nat.le_refl _)
  have Rs_w11 : Hid (w11.ownsRow w1.heap.size 31 1 us (List.length Ps) (Fls.flts Ps)) := (by show World.ownsRow _ _ _ _ _ _ _; rw [hw]; exact Rs_w10.out)
  have Rg_w11 : Hid (w11.ownsRow w3.heap.size 31 1 ug (List.length (Fls.sq 1 Pg.length)) (Fls.flts (Fls.sq 1 Pg.length))) := (by show World.ownsRow _ _ _ _ _ _ _; rw [hw]; exact Rg_w10.out)
  clear hw Rs_w10 Rg_w10
  go_wp2_with fail
  refine (TF.out w11 BBw11.out).mono ?_
  rintro e w12 ⟨rfl, r0, b⟩
  have RN : Hid (w12.ownsRow w11.heap.size 31 1 (.slice (some ⟨w11.heap.size, 0, none⟩) n n) n (Fls.flts L)) := r0
  clear r0
  have BBw12 : Hid (Below W.heap.size W w12) := BBw11.out.trans (b.mono BBw11.out.size)
  have ZZw12 : Hid (w11.heap.size ≤ w12.heap.size) := b.size
  have Rs_w12 : Hid (w12.ownsRow w1.heap.size 31 1 us (List.length Ps) (Fls.flts Ps)) := Fls.row_below Rs_w11.out b
  have Rg_w12 : Hid (w12.ownsRow w3.heap.size 31 1 ug (List.length (Fls.sq 1 Pg.length)) (Fls.flts (Fls.sq 1 Pg.length))) := Fls.row_below Rg_w11.out b
  clear Rs_w11 Rg_w11
  clear b
  have Rz_w12 : Hid (w12.ownsRow w11.heap.size 31 1 (.slice (some ⟨w11.heap.size, 0, none⟩) n n) n (Fls.flts L)) := RN.out
  have LBz : Hid (∀ k, (Value.slice (some ⟨w11.heap.size, 0, none⟩) n n).ownBlock = some k → w11.heap.size ≤ k ∧ k < w12.heap.size) := fun k hk => Rz_w12.out.lt k hk
  clear RN
  go_wp2_with fail
  refine (IA.out w12 _ _ Rz_w12.out).mono ?_
  rintro e w13 ⟨uh, Ph, rfl, r0, s0, b⟩
  have RN : Hid (w13.ownsRow w12.heap.size 31 1 uh (List.length Ph) (Fls.flts Ph)) := r0
  have RSh : Hid (OR L Ph) := s0
  clear r0 s0
  have BBw13 : Hid (Below W.heap.size W w13) := BBw12.out.trans (b.mono BBw12.out.size)
  have ZZw13 : Hid (w12.heap.size ≤ w13.heap.size) := b.size
  have Rs_w13 : Hid (w13.ownsRow w1.heap.size 31 1 us (List.length Ps) (Fls.flts Ps)) := Fls.row_below Rs_w12.out b
  have Rg_w13 : Hid (w13.ownsRow w3.heap.size 31 1 ug (List.length (Fls.sq 1 Pg.length)) (Fls.flts (Fls.sq 1 Pg.length))) := Fls.row_below Rg_w12.out b
  have Rz_w13 : Hid (w13.ownsRow w11.heap.size 31 1 (.slice (some ⟨w11.heap.size, 0, none⟩) n n) n (Fls.flts L)) := Fls.row_below Rz_w12.out b
  clear Rs_w12 Rg_w12 Rz_w12
  clear b
  have Rh_w13 : Hid (w13.ownsRow w12.heap.size 31 1 uh (List.length Ph) (Fls.flts Ph)) := RN.out
  have LBh : Hid (∀ k, uh.ownBlock = some k → w12.heap.size ≤ k ∧ k < w13.heap.size) := fun k hk => Rh_w13.out.lt k hk
  clear RN
  clear Rz_w13
  go_wp2_with fail
  refine (EP.out w13 _ _ _ _ _ _ Rh_w13.out Rs_w13.out RSh.out RSs.out).mono ?_
  rintro e w14 ⟨rfl, m, hw⟩
  have BBw14 : Hid (Below W.heap.size W w14) := (by show Below _ _ _; rw [hw]; exact below_drewN BBw13.out _)
  have ZZw14 : Hid (w13.heap.size ≤ w14.heap.size) := (by show _ ≤ _; rw [hw]; exact Nat.le_refl _)
  have Rs_w14 : Hid (w14.ownsRow w1.heap.size 31 1 us (List.length Ps) (Fls.flts Ps)) := (by show World.ownsRow _ _ _ _ _ _ _; rw [hw]; exact Rs_w13.out)
  have Rg_w14 : Hid (w14.ownsRow w3.heap.size 31 1 ug (List.length (Fls.sq 1 Pg.length)) (Fls.flts (Fls.sq 1 Pg.length))) := (by show World.ownsRow _ _ _ _ _ _ _; rw [hw]; exact Rg_w13.out)
  have Rh_w14 : Hid (w14.ownsRow w12.heap.size 31 1 uh (List.length Ph) (Fls.flts Ph)) := (by show World.ownsRow _ _ _ _ _ _ _; rw [hw]; exact Rh_w13.out)
  clear hw Rs_w13 Rg_w13 Rh_w13
  go_wp2_with fail
  refine (Fls.held_any w14 _ Pg.length (by have := RSg.out.len; omega) (Fls.reads_row Rg_w14.out)).mono ?_
  rintro e w15 ⟨rfl, hw⟩
  replace hw : w15 = w14.drewN 0 := hw
  have BBw15 : Hid (Below W.heap.size W w15) := (by show Below _ _ _; rw [hw]; exact below_drewN BBw14.out _)
  have ZZw15 : Hid (w14.heap.size ≤ w15.heap.size) := (by show _ ≤ _; rw [hw]; exact Nat.le_refl _)
  have Rs_w15 : Hid (w15.ownsRow w1.heap.size 31 1 us (List.length Ps) (Fls.flts Ps)) := (by show World.ownsRow _ _ _ _ _ _ _; rw [hw]; exact Rs_w14.out)
  have Rg_w15 : Hid (w15.ownsRow w3.heap.size 31 1 ug (List.length (Fls.sq 1 Pg.length)) (Fls.flts (Fls.sq 1 Pg.length))) := (by show World.ownsRow _ _ _ _ _ _ _; rw [hw]; exact Rg_w14.out)
  have Rh_w15 : Hid (w15.ownsRow w12.heap.size 31 1 uh (List.length Ph) (Fls.flts Ph)) := (by show World.ownsRow _ _ _ _ _ _ _; rw [hw]; exact Rh_w14.out)
  clear hw Rs_w14 Rg_w14 Rh_w14
  go_wp2_with fail
  go_ret
  exact ⟨rfl, BBw15.out⟩
end Go.Proofs.Ytfjkchkcgnjkaaa.Srt
