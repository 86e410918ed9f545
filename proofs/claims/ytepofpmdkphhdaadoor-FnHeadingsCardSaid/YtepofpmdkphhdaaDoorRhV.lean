/- ReadHeading in the model: pieces that make a heading. -/
import Derived.Test.YtepofpmdkphhdaaDoorRhU
namespace Go.Proofs.YtepofpmdkphhdaaDoor.Head
open Go.ChangeShapes Go.WideShapes Go.ChangeAt Go.RowKit Mk Fig
attribute [local go_sem ↓] Go.wp_at_zero Go.wp_at_succ

theorem got8 (w1 : World) (v0 v1 v2 v3 v4 v5 v6 v7 : Value) : Hid (Below w1.heap.size w1 (w1.alloc (.cells #[v0, v1, v2, v3, v4, v5, v6, v7] 25)).drew) ∧ Hid (w1.heap.size < (w1.alloc (.cells #[v0, v1, v2, v3, v4, v5, v6, v7] 25)).drew.heap.size) ∧ (w1.alloc (.cells #[v0, v1, v2, v3, v4, v5, v6, v7] 25)).drew.cell? ⟨w1.heap.size, 0, none⟩ = some v0 ∧ (w1.alloc (.cells #[v0, v1, v2, v3, v4, v5, v6, v7] 25)).drew.cell? ⟨w1.heap.size, 1, none⟩ = some v1 ∧ (w1.alloc (.cells #[v0, v1, v2, v3, v4, v5, v6, v7] 25)).drew.cell? ⟨w1.heap.size, 2, none⟩ = some v2 ∧ (w1.alloc (.cells #[v0, v1, v2, v3, v4, v5, v6, v7] 25)).drew.cell? ⟨w1.heap.size, 3, none⟩ = some v3 ∧ (w1.alloc (.cells #[v0, v1, v2, v3, v4, v5, v6, v7] 25)).drew.cell? ⟨w1.heap.size, 4, none⟩ = some v4 ∧ (w1.alloc (.cells #[v0, v1, v2, v3, v4, v5, v6, v7] 25)).drew.cell? ⟨w1.heap.size, 5, none⟩ = some v5 ∧ (w1.alloc (.cells #[v0, v1, v2, v3, v4, v5, v6, v7] 25)).drew.cell? ⟨w1.heap.size, 6, none⟩ = some v6 ∧ (w1.alloc (.cells #[v0, v1, v2, v3, v4, v5, v6, v7] 25)).drew.cell? ⟨w1.heap.size, 7, none⟩ = some v7 ∧ (∀ o, (w1.alloc (.cells #[v0, v1, v2, v3, v4, v5, v6, v7] 25)).drew.frozen? ⟨w1.heap.size, o, none⟩ = false) :=
  ⟨((Below.refl _ _).alloc (Nat.le_refl _) _).drew, by show _ < _; simp, by simp [go_sem], by simp [go_sem], by simp [go_sem], by simp [go_sem], by simp [go_sem], by simp [go_sem], by simp [go_sem], by simp [go_sem], fun o => by simp [go_sem]⟩
theorem Two.next {w w1 w2 : World} (h : Two w w1) (hb : Below w1.heap.size w1 w2) : Two w w2 := by
  have z := h.z
  refine ⟨fun o => ?_, fun o => ?_, fun o => ?_, h.b.trans (hb.mono h.b.size), Nat.lt_of_lt_of_le h.z hb.size⟩
  · rw [hb.cell (p := ⟨w.heap.size, o, none⟩) (by show w.heap.size < _; omega)]; exact h.r o
  · rw [hb.frozen (p := ⟨w.heap.size, o, none⟩) (by show w.heap.size < _; omega)]; exact h.f o
  · rw [hb.cell (p := ⟨w.heap.size + 1, o, none⟩) (by show w.heap.size + 1 < _; omega)]; exact h.n o
theorem Two.set {w w1 : World} (h : Two w w1) (g o : Nat) (v : Value) (hg : w.heap.size + 1 < g) : Two w (w1.setCell ⟨g, o, none⟩ v) := by
  have hb : Below (w.heap.size + 2) w1 (w1.setCell ⟨g, o, none⟩ v) := (Below.refl (w.heap.size + 2) w1).setCell (p := ⟨g, o, none⟩) (by show w.heap.size + 2 ≤ g; omega) v
  refine ⟨fun o => ?_, fun o => ?_, fun o => ?_, h.b.setCell (by show w.heap.size ≤ g; omega) v, Nat.lt_of_lt_of_le h.z hb.size⟩
  · rw [hb.cell (p := ⟨w.heap.size, o, none⟩) (by show w.heap.size < _; omega)]; exact h.r o
  · rw [hb.frozen (p := ⟨w.heap.size, o, none⟩) (by show w.heap.size < _; omega)]; exact h.f o
  · rw [hb.cell (p := ⟨w.heap.size + 1, o, none⟩) (by show w.heap.size + 1 < _; omega)]; exact h.n o

set_option maxHeartbeats 8000000 in
set_option maxRecDepth 100000 in
theorem sread_last (s : ByteArray) (w : World) (hs : s.size ≤ 1048576) (n : Nat) (p : Nat → ByteArray) (P0 P1 P2 M : ByteArray) (hP0 : P0 = p 0) (hP1 : P1 = p 1) (hP2 : P2 = p 2) (hn : n = 3 ∨ n = 4) (hM : n = 3 ∧ M = em ∨ n = 4 ∧ M = p 3) (hp : pcs s = (List.range n).map p) (hz : ∀ j, j < n → (p j).size ≠ 0)
    (N D H I : Int) (b1 b2 : Bool) (h6 : P0.size = 6) (g6 : P2.size = 6)
    (hLE : ∀ w, Calls Tryd.prog 25 #[.string (P0.extract 0 4)] w fun e w' => e = .returned (.bool true) ∧ w' = w)
    (hFN : ∀ w, Calls Tryd.prog 26 #[.string (P0.extract 4 6)] w fun e w' => e = .returned (.int .i64 N) ∧ w' = w) (hN : 0 ≤ N)
    (hCN : ∀ w, Calls Tryd.prog 27 #[.string P1] w fun e w' => e = .returned (.bool true) ∧ w' = w)
    (f2 : Int) (hf2 : 0 ≤ f2) (hF2 : ∀ w, Calls Tryd.prog 26 #[.string P2] w fun e w' => e = .returned (.int .i64 f2) ∧ w' = w)
    (hFD : ∀ w, Calls Tryd.prog 26 #[.string (P2.extract 0 2)] w fun e w' => e = .returned (.int .i64 D) ∧ w' = w)
    (hFH : ∀ w, Calls Tryd.prog 26 #[.string (P2.extract 2 4)] w fun e w' => e = .returned (.int .i64 H) ∧ w' = w)
    (hFI : ∀ w, Calls Tryd.prog 26 #[.string (P2.extract 4 6)] w fun e w' => e = .returned (.int .i64 I) ∧ w' = w)
    (h1 : ∀ w, Calls Tryd.prog 14 #[hd (P0.extract 0 2) (P0.extract 2 4) N P1 D H I em] w fun e w' => e = .returned (.bool b1) ∧ Below w.heap.size w w')
    (h2 : ∀ w, Calls Tryd.prog 14 #[hd (P0.extract 0 2) (P0.extract 2 4) N P1 D H I M] w fun e w' => e = .returned (.bool b2) ∧ Below w.heap.size w w') :
    Calls Tryd.prog 10 #[.string s] w fun e w' => e = .returned (if b1 = false then out 4 else if b2 = false then out 5 else .tuple #[hd (P0.extract 0 2) (P0.extract 2 4) N P1 D H I M, .int .i64 0]) ∧ Below w.heap.size w w' := by
  have HM : Hid (n = 3 ∧ M = em ∨ n = 4 ∧ M = p 3) := hM
  have HP0 : Hid (P0 = p 0) := hP0
  have HP1 : Hid (P1 = p 1) := hP1
  have HP2 : Hid (P2 = p 2) := hP2
  have LE : Hid _ := hLE
  have FN : Hid _ := hFN
  have CN : Hid _ := hCN
  have F2 : Hid _ := hF2
  have FD : Hid _ := hFD
  have FH : Hid _ := hFH
  have FI : Hid _ := hFI
  have O1 : Hid _ := h1
  have O2 : Hid _ := h2
  clear hM hP0 hP1 hP2 hLE hFN hCN hF2 hFD hFH hFI h1 h2
  have SP : Hid (∀ w, Calls Tryd.prog 24 #[.string s] w fun e w' => ∃ v, e = .returned v ∧ w'.ownsRow w.heap.size 9 1 v (pcs s).length ((pcs s).map Value.string) ∧ Below w.heap.size w w') := fun w => spieces s w hs
  have hl : (pcs s).length = n := by rw [hp]; simp
  have HZ : Hid (∀ j, j < n → (p j).size ≠ 0) := hz
  have HP : Hid (pcs s = (List.range n).map p) := hp
  have n0' : 3 ≤ n := by omega
  have n1' : n ≤ 4 := by omega
  clear hz hp
  go_enter Tryd.func10, Tryd.ntmps10
  go_wp2_with fail
  refine (SP.out _).mono ?_
  rintro e w1 ⟨v, rfl, R, hb⟩
  rw [hl] at R
  clear hl
  obtain ⟨aa, cap, hv⟩ := row_form R
  subst hv
  have hpa : ∃ g, aa = some ⟨g, 0, none⟩ := by
    rcases R.2 with ⟨_, h⟩ | ⟨g, cap', cur, h, _⟩
    · omega
    · simp at h; exact ⟨g, h.1⟩
  obtain ⟨g, rfl⟩ := hpa
  have CE : Hid (∀ j, j < n → w1.cell? ⟨g, j, none⟩ = some (.string (p j))) := fun j hj => by
    rw [R.cellAt j (by omega), HP.out]
    simp [hj]
  have gz : g < w1.heap.size := (R.lt g rfl).2
  have T : Hid (Two w w1) := two_of hb
  obtain ⟨r0, r1, r2, r3, r4, r5, r6, r7, n0, n1, n2, n3, n4, n5, n6, n7⟩ := T.out.cells
  have rf := T.out.f
  clear hb R
  have HN : Hid (n = 3 ∨ n = 4) := hn
  have e34 : ((n : Int) != 3) = false ∨ ((n : Int) != 3) = true ∧ ((n : Int) != 4) = false := by
    rcases hn with rfl | rfl
    · exact .inl rfl
    · exact .inr ⟨rfl, rfl⟩
  clear hn
  rcases e34 with e3 | ⟨e3, e4⟩
  · go_wp2_with fail
    go_loop [6] (fun i => ∃ k : Nat, k ≤ n ∧ i = .int .i64 k ∧ Hid (∀ j, j < k → (p j).size ≠ 0)) (fun i => n - (intOf i).toNat)
    case atStart => exact ⟨0, Nat.zero_le _, rfl, fun j hj => by omega⟩
    case round =>
      obtain ⟨k, hk, rfl, NZ⟩ := hrel
      by_cases hlt : k < n
      · have q := CE.out k hlt
        have i0 : (0 : Int) ≤ (k : Int) := by omega
        have i1 : (k : Int) < (n : Int) := by omega
        by_cases hz : (p k).size = 0
        · have he : (p k).toList.isEmpty = true := by rw [empty_eq, decide_eq_true hz]
          exact absurd hz (HZ.out k hlt)
        · have he : (p k).toList.isEmpty = false := by rw [empty_eq, decide_eq_false hz]
          have NZ' : Hid (∀ j, j < k + 1 → (p j).size ≠ 0) := fun j hj => by
            by_cases c : j = k
            · rw [c]; exact hz
            · exact NZ.out j (by omega)
          clear hz
          go_wp2_with fail
          go_round
          case rel => exact ⟨k + 1, by omega, by go_num, NZ'⟩
          case measure => simp [intOf]; omega
      · have ek : k = n := by omega
        subst ek
        clear NZ
        have q0 := CE.out 0 (by omega)
        have q1 := CE.out 1 (by omega)
        have q2 := CE.out 2 (by omega)
        have k2 : (2 : Int) < (k : Int) := by omega
        have k1 : (1 : Int) < (k : Int) := by omega
        have k0 : (0 : Int) < (k : Int) := by omega
        have kk2 : 2 < k := by omega
        have kk1 : 1 < k := by omega
        have kk0 : 0 < k := by omega
        rw [← HP0.out] at q0
        rw [← HP1.out] at q1
        rw [← HP2.out] at q2
        have e6 : ((P0.size : Int) != 6) = false := by rw [h6]; rfl
        have e62 : ((P2.size : Int) != 6) = false := by rw [g6]; rfl
        go_upto_region 16 with (first
            | (go_at_call 25; refine (LE.out _).mono ?_; rintro e wz ⟨rfl, hw⟩; have hw' := hw.symm; subst hw')
            | (go_at_call 27; refine (CN.out _).mono ?_; rintro e wz ⟨rfl, hw⟩; have hw' := hw.symm; subst hw')
            | (go_at_call_of 26 (Value.string (P0.extract 4 6)); refine (FN.out _).mono ?_; rintro e wz ⟨rfl, hw⟩; have hw' := hw.symm; subst hw')
            | (go_at_call_of 26 (Value.string P2); refine (F2.out _).mono ?_; rintro e wz ⟨rfl, hw⟩; have hw' := hw.symm; subst hw'))
        go_cut [7] (fun a wx => a = .pointer (some ⟨w1.heap.size, 0, none⟩) ∧ Hid (Below w1.heap.size w1 wx) ∧ Hid (w1.heap.size < wx.heap.size) ∧ wx.cell? ⟨w1.heap.size, 0, none⟩ = some (.string (P0.extract 0 2)) ∧ wx.cell? ⟨w1.heap.size, 1, none⟩ = some (.string (P0.extract 2 4)) ∧ wx.cell? ⟨w1.heap.size, 2, none⟩ = some (.int .i64 N) ∧ wx.cell? ⟨w1.heap.size, 3, none⟩ = some (.string P1) ∧ wx.cell? ⟨w1.heap.size, 4, none⟩ = some (.int .i64 D) ∧ wx.cell? ⟨w1.heap.size, 5, none⟩ = some (.int .i64 H) ∧ wx.cell? ⟨w1.heap.size, 6, none⟩ = some (.int .i64 I) ∧ wx.cell? ⟨w1.heap.size, 7, none⟩ = some (.string em) ∧ (∀ o, wx.frozen? ⟨w1.heap.size, o, none⟩ = false))
        case first =>
          go_region_held3 (fun w' => w'.cell? ⟨g, 0, none⟩ = some (.string P0) ∧ w'.cell? ⟨g, 1, none⟩ = some (.string P1) ∧ w'.cell? ⟨g, 2, none⟩ = some (.string P2)) (go_keep)
            (first
            | (go_at_call_of 26 (Value.string (P0.extract 4 6)); refine (FN.out _).mono ?_; rintro e wz ⟨rfl, hw⟩; have hw' := hw.symm; subst hw')
            | (go_at_call_of 26 (Value.string (P2.extract 0 2)); refine (FD.out _).mono ?_; rintro e wz ⟨rfl, hw⟩; have hw' := hw.symm; subst hw')
            | (go_at_call_of 26 (Value.string (P2.extract 2 4)); refine (FH.out _).mono ?_; rintro e wz ⟨rfl, hw⟩; have hw' := hw.symm; subst hw')
            | (go_at_call_of 26 (Value.string (P2.extract 4 6)); refine (FI.out _).mono ?_; rintro e wz ⟨rfl, hw⟩; have hw' := hw.symm; subst hw'))
          all_goals
            go_wp2_with fail
            go_meet
            exact ⟨rfl, got8 w1 _ _ _ _ _ _ _ _⟩
        case rest =>
          obtain ⟨rfl, BX, ZX, c0, c1, c2, c3, c4, c5, c6, c7, cf⟩ := hcut
          have T1 : Hid (Two w wc) := T.out.next BX.out
          have ZW : Hid (w.heap.size + 1 < w1.heap.size) := T.out.z
          have CP : Hid (∀ j, j < k → wc.cell? ⟨g, j, none⟩ = some (.string (p j))) := fun j hj => by rw [BX.out.cell (p := ⟨g, j, none⟩) gz]; exact CE.out j hj
          have GZ : Hid (g < wc.heap.size) := Nat.lt_of_lt_of_le gz BX.out.size
          have NG : Hid (g < w1.heap.size) := gz
          obtain ⟨B, hB⟩ : ∃ B, B = w1.heap.size := ⟨_, rfl⟩
          rw [← hB] at c0 c1 c2 c3 c4 c5 c6 c7 cf ZX ZW NG
          have cf0 : ∀ o, wc.frozen? ⟨B, o, none⟩ = false := cf
          simp only [← hB]
          clear r0 r1 r2 r3 r4 r5 r6 r7 n0 n1 n2 n3 n4 n5 n6 n7 rf q0 q1 q2 CE gz T BX cf hB
          obtain ⟨r0, r1, r2, r3, r4, r5, r6, r7, n0, n1, n2, n3, n4, n5, n6, n7⟩ := T1.out.cells
          have rf := T1.out.f
          go_wp2_with fail
          refine (O1.out _).mono ?_
          rintro e w2 ⟨rfl, hb2⟩
          have T2 : Hid (Two w w2) := T1.out.next hb2
          obtain ⟨d0, d1, d2, d3, d4, d5, d6, d7, d8⟩ := keep8 hb2 ZX.out c0 c1 c2 c3 c4 c5 c6 c7
          have df : ∀ o, w2.frozen? ⟨B, o, none⟩ = false := fun o => by rw [hb2.frozen (p := ⟨B, o, none⟩) ZX.out]; exact cf0 o
          have CQ : Hid (∀ j, j < k → w2.cell? ⟨g, j, none⟩ = some (.string (p j))) := fun j hj => by rw [hb2.cell (p := ⟨g, j, none⟩) GZ.out]; exact CP.out j hj
          clear r0 r1 r2 r3 r4 r5 r6 r7 n0 n1 n2 n3 n4 n5 n6 n7 rf c0 c1 c2 c3 c4 c5 c6 c7 cf0 hb2 T1 CP
          obtain ⟨r0, r1, r2, r3, r4, r5, r6, r7, n0, n1, n2, n3, n4, n5, n6, n7⟩ := T2.out.cells
          have rf := T2.out.f
          cases b1
          · go_wp2_with fail
            exact bodyPost_ret (v := .tuple #[none8, .int .i64 4]) (by simp [results, Tryd.results10, go_sem, r0, r1, r2, r3, r4, r5, r6, r7]) rfl ⟨rfl, set8 T2.out.b w.heap.size (Nat.le_refl _) _ _ _ _ _ _ _ _⟩
          have hk3 : k ≠ 4 := fun h => by rw [h] at e3; exact absurd e3 (by decide)
          have hM : M = em := HM.out.elim (fun h => h.2) (fun h => absurd h.1 hk3)
          have e44 : ((k : Int) == 4) = false := by rw [beq_eq_false_iff_ne]; omega
          subst hM
          clear hk3
          go_wp2_with fail
          refine (O2.out _).mono ?_
          rintro e w3 ⟨rfl, hb3⟩
          have T3 : Hid (Two w w3) := T2.out.next hb3
          obtain ⟨c0, c1, c2, c3, c4, c5, c6, c7, c8⟩ := keep8 (g := B) (v0 := .string (P0.extract 0 2)) (v1 := .string (P0.extract 2 4)) (v2 := .int .i64 N) (v3 := .string P1) (v4 := .int .i64 D) (v5 := .int .i64 H) (v6 := .int .i64 I) (v7 := .string em) hb3 d8 d0 d1 d2 d3 d4 d5 d6 d7
          clear r0 r1 r2 r3 r4 r5 r6 r7 n0 n1 n2 n3 n4 n5 n6 n7 rf d0 d1 d2 d3 d4 d5 d6 d7 df hb3 T2
          obtain ⟨r0, r1, r2, r3, r4, r5, r6, r7, n0, n1, n2, n3, n4, n5, n6, n7⟩ := T3.out.cells
          have rf := T3.out.f
          cases b2
          · go_wp2_with fail
            exact bodyPost_ret (v := .tuple #[none8, .int .i64 5]) (by simp [results, Tryd.results10, go_sem, r0, r1, r2, r3, r4, r5, r6, r7]) rfl ⟨rfl, set8 T3.out.b w.heap.size (Nat.le_refl _) _ _ _ _ _ _ _ _⟩
          · go_wp2_with fail
            exact bodyPost_ret (v := .tuple #[hd (P0.extract 0 2) (P0.extract 2 4) N P1 D H I em, .int .i64 0]) (by simp [results, Tryd.results10, go_sem, r0, r1, r2, r3, r4, r5, r6, r7]) rfl ⟨rfl, set8 T3.out.b w.heap.size (Nat.le_refl _) _ _ _ _ _ _ _ _⟩

  · go_wp2_with fail
    go_loop [6] (fun i => ∃ k : Nat, k ≤ n ∧ i = .int .i64 k ∧ Hid (∀ j, j < k → (p j).size ≠ 0)) (fun i => n - (intOf i).toNat)
    case atStart => exact ⟨0, Nat.zero_le _, rfl, fun j hj => by omega⟩
    case round =>
      obtain ⟨k, hk, rfl, NZ⟩ := hrel
      by_cases hlt : k < n
      · have q := CE.out k hlt
        have i0 : (0 : Int) ≤ (k : Int) := by omega
        have i1 : (k : Int) < (n : Int) := by omega
        by_cases hz : (p k).size = 0
        · have he : (p k).toList.isEmpty = true := by rw [empty_eq, decide_eq_true hz]
          exact absurd hz (HZ.out k hlt)
        · have he : (p k).toList.isEmpty = false := by rw [empty_eq, decide_eq_false hz]
          have NZ' : Hid (∀ j, j < k + 1 → (p j).size ≠ 0) := fun j hj => by
            by_cases c : j = k
            · rw [c]; exact hz
            · exact NZ.out j (by omega)
          clear hz
          go_wp2_with fail
          go_round
          case rel => exact ⟨k + 1, by omega, by go_num, NZ'⟩
          case measure => simp [intOf]; omega
      · have ek : k = n := by omega
        subst ek
        clear NZ
        have q0 := CE.out 0 (by omega)
        have q1 := CE.out 1 (by omega)
        have q2 := CE.out 2 (by omega)
        have k2 : (2 : Int) < (k : Int) := by omega
        have k1 : (1 : Int) < (k : Int) := by omega
        have k0 : (0 : Int) < (k : Int) := by omega
        have kk2 : 2 < k := by omega
        have kk1 : 1 < k := by omega
        have kk0 : 0 < k := by omega
        rw [← HP0.out] at q0
        rw [← HP1.out] at q1
        rw [← HP2.out] at q2
        have e6 : ((P0.size : Int) != 6) = false := by rw [h6]; rfl
        have e62 : ((P2.size : Int) != 6) = false := by rw [g6]; rfl
        go_upto_region 16 with (first
            | (go_at_call 25; refine (LE.out _).mono ?_; rintro e wz ⟨rfl, hw⟩; have hw' := hw.symm; subst hw')
            | (go_at_call 27; refine (CN.out _).mono ?_; rintro e wz ⟨rfl, hw⟩; have hw' := hw.symm; subst hw')
            | (go_at_call_of 26 (Value.string (P0.extract 4 6)); refine (FN.out _).mono ?_; rintro e wz ⟨rfl, hw⟩; have hw' := hw.symm; subst hw')
            | (go_at_call_of 26 (Value.string P2); refine (F2.out _).mono ?_; rintro e wz ⟨rfl, hw⟩; have hw' := hw.symm; subst hw'))
        go_cut [7] (fun a wx => a = .pointer (some ⟨w1.heap.size, 0, none⟩) ∧ Hid (Below w1.heap.size w1 wx) ∧ Hid (w1.heap.size < wx.heap.size) ∧ wx.cell? ⟨w1.heap.size, 0, none⟩ = some (.string (P0.extract 0 2)) ∧ wx.cell? ⟨w1.heap.size, 1, none⟩ = some (.string (P0.extract 2 4)) ∧ wx.cell? ⟨w1.heap.size, 2, none⟩ = some (.int .i64 N) ∧ wx.cell? ⟨w1.heap.size, 3, none⟩ = some (.string P1) ∧ wx.cell? ⟨w1.heap.size, 4, none⟩ = some (.int .i64 D) ∧ wx.cell? ⟨w1.heap.size, 5, none⟩ = some (.int .i64 H) ∧ wx.cell? ⟨w1.heap.size, 6, none⟩ = some (.int .i64 I) ∧ wx.cell? ⟨w1.heap.size, 7, none⟩ = some (.string em) ∧ (∀ o, wx.frozen? ⟨w1.heap.size, o, none⟩ = false))
        case first =>
          go_region_held3 (fun w' => w'.cell? ⟨g, 0, none⟩ = some (.string P0) ∧ w'.cell? ⟨g, 1, none⟩ = some (.string P1) ∧ w'.cell? ⟨g, 2, none⟩ = some (.string P2)) (go_keep)
            (first
            | (go_at_call_of 26 (Value.string (P0.extract 4 6)); refine (FN.out _).mono ?_; rintro e wz ⟨rfl, hw⟩; have hw' := hw.symm; subst hw')
            | (go_at_call_of 26 (Value.string (P2.extract 0 2)); refine (FD.out _).mono ?_; rintro e wz ⟨rfl, hw⟩; have hw' := hw.symm; subst hw')
            | (go_at_call_of 26 (Value.string (P2.extract 2 4)); refine (FH.out _).mono ?_; rintro e wz ⟨rfl, hw⟩; have hw' := hw.symm; subst hw')
            | (go_at_call_of 26 (Value.string (P2.extract 4 6)); refine (FI.out _).mono ?_; rintro e wz ⟨rfl, hw⟩; have hw' := hw.symm; subst hw'))
          all_goals
            go_wp2_with fail
            go_meet
            exact ⟨rfl, got8 w1 _ _ _ _ _ _ _ _⟩
        case rest =>
          obtain ⟨rfl, BX, ZX, c0, c1, c2, c3, c4, c5, c6, c7, cf⟩ := hcut
          have T1 : Hid (Two w wc) := T.out.next BX.out
          have ZW : Hid (w.heap.size + 1 < w1.heap.size) := T.out.z
          have CP : Hid (∀ j, j < k → wc.cell? ⟨g, j, none⟩ = some (.string (p j))) := fun j hj => by rw [BX.out.cell (p := ⟨g, j, none⟩) gz]; exact CE.out j hj
          have GZ : Hid (g < wc.heap.size) := Nat.lt_of_lt_of_le gz BX.out.size
          have NG : Hid (g < w1.heap.size) := gz
          obtain ⟨B, hB⟩ : ∃ B, B = w1.heap.size := ⟨_, rfl⟩
          rw [← hB] at c0 c1 c2 c3 c4 c5 c6 c7 cf ZX ZW NG
          have cf0 : ∀ o, wc.frozen? ⟨B, o, none⟩ = false := cf
          simp only [← hB]
          clear r0 r1 r2 r3 r4 r5 r6 r7 n0 n1 n2 n3 n4 n5 n6 n7 rf q0 q1 q2 CE gz T BX cf hB
          obtain ⟨r0, r1, r2, r3, r4, r5, r6, r7, n0, n1, n2, n3, n4, n5, n6, n7⟩ := T1.out.cells
          have rf := T1.out.f
          go_wp2_with fail
          refine (O1.out _).mono ?_
          rintro e w2 ⟨rfl, hb2⟩
          have T2 : Hid (Two w w2) := T1.out.next hb2
          obtain ⟨d0, d1, d2, d3, d4, d5, d6, d7, d8⟩ := keep8 hb2 ZX.out c0 c1 c2 c3 c4 c5 c6 c7
          have df : ∀ o, w2.frozen? ⟨B, o, none⟩ = false := fun o => by rw [hb2.frozen (p := ⟨B, o, none⟩) ZX.out]; exact cf0 o
          have CQ : Hid (∀ j, j < k → w2.cell? ⟨g, j, none⟩ = some (.string (p j))) := fun j hj => by rw [hb2.cell (p := ⟨g, j, none⟩) GZ.out]; exact CP.out j hj
          clear r0 r1 r2 r3 r4 r5 r6 r7 n0 n1 n2 n3 n4 n5 n6 n7 rf c0 c1 c2 c3 c4 c5 c6 c7 cf0 hb2 T1 CP
          obtain ⟨r0, r1, r2, r3, r4, r5, r6, r7, n0, n1, n2, n3, n4, n5, n6, n7⟩ := T2.out.cells
          have rf := T2.out.f
          cases b1
          · go_wp2_with fail
            exact bodyPost_ret (v := .tuple #[none8, .int .i64 4]) (by simp [results, Tryd.results10, go_sem, r0, r1, r2, r3, r4, r5, r6, r7]) rfl ⟨rfl, set8 T2.out.b w.heap.size (Nat.le_refl _) _ _ _ _ _ _ _ _⟩
          have hk3 : k ≠ 3 := fun h => by rw [h] at e3; exact absurd e3 (by decide)
          have hk4 : k = 4 := HM.out.elim (fun h => absurd h.1 hk3) (fun h => h.1)
          have hM : M = p 3 := HM.out.elim (fun h => absurd h.1 hk3) (fun h => h.2)
          have e44 : ((k : Int) == 4) = true := by rw [hk4]; rfl
          have q3 := CQ.out 3 (by omega)
          rw [← hM] at q3
          have kk3 : 3 < k := by omega
          have k3 : (3 : Int) < (k : Int) := by omega
          clear hM hk4 hk3
          go_wp2_with fail
          refine (O2.out _).mono ?_
          rintro e w3 ⟨rfl, hb3⟩
          have T3 : Hid (Two w w3) := (T2.out.set B 7 _ ZW.out).next hb3
          obtain ⟨c0, c1, c2, c3, c4, c5, c6, c7, c8⟩ := keep8 (g := B) (v0 := .string (P0.extract 0 2)) (v1 := .string (P0.extract 2 4)) (v2 := .int .i64 N) (v3 := .string P1) (v4 := .int .i64 D) (v5 := .int .i64 H) (v6 := .int .i64 I) (v7 := .string M) hb3 (by simp; exact d8) (by simp [go_sem]; exact d0) (by simp [go_sem]; exact d1) (by simp [go_sem]; exact d2) (by simp [go_sem]; exact d3) (by simp [go_sem]; exact d4) (by simp [go_sem]; exact d5) (by simp [go_sem]; exact d6) (by simp [go_sem, d7])
          clear r0 r1 r2 r3 r4 r5 r6 r7 n0 n1 n2 n3 n4 n5 n6 n7 rf d0 d1 d2 d3 d4 d5 d6 d7 df hb3 T2
          obtain ⟨r0, r1, r2, r3, r4, r5, r6, r7, n0, n1, n2, n3, n4, n5, n6, n7⟩ := T3.out.cells
          have rf := T3.out.f
          cases b2
          · go_wp2_with fail
            exact bodyPost_ret (v := .tuple #[none8, .int .i64 5]) (by simp [results, Tryd.results10, go_sem, r0, r1, r2, r3, r4, r5, r6, r7]) rfl ⟨rfl, set8 T3.out.b w.heap.size (Nat.le_refl _) _ _ _ _ _ _ _ _⟩
          · go_wp2_with fail
            exact bodyPost_ret (v := .tuple #[hd (P0.extract 0 2) (P0.extract 2 4) N P1 D H I M, .int .i64 0]) (by simp [results, Tryd.results10, go_sem, r0, r1, r2, r3, r4, r5, r6, r7]) rfl ⟨rfl, set8 T3.out.b w.heap.size (Nat.le_refl _) _ _ _ _ _ _ _ _⟩

end Go.Proofs.YtepofpmdkphhdaaDoor.Head
