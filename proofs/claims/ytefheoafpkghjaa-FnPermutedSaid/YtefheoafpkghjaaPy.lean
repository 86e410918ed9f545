/- The law of permutations walked. -/
import Derived.Test.YtefheoafpkghjaaDq
namespace Go.Proofs.Ytefheoafpkghjaa.Dp
open Go.ChangeShapes Go.WideShapes Go.ChangeAt Go.RowKit
open Go.Proofs.Ytefheoafpkghjaa.Lists Go.Proofs.Ytefheoafpkghjaa.Al Go.Proofs.Ytefheoafpkghjaa.Rd Go.Proofs.Ytefheoafpkghjaa.Pe

theorem ng_take (L : List Int) (k : Nat) (h : k < L.length) : (ng L).take (k + 1) = (ng L).take k ++ [-(L.getD k 0)] := by
  have h' : k < (ng L).length := by rw [ng_len]; exact h
  rw [List.take_succ_eq_append_getElem h']
  congr 2
  simp [ng, List.getD_eq_getElem?_getD, h]
theorem ng_tl (L : List Int) (k : Nat) (h : k ≤ L.length) : ((ng L).take k).length = k := by rw [List.length_take, ng_len]; omega

set_option maxHeartbeats 2000000 in
theorem permLaw (a : Option Addr) (len cap : Nat) (w : World) (hc : Go.Proofs.Ytefheoafpkghjaa.Rd.Code w a len cap) (hn : len < 9223372036854775808) : Calls Try.prog 3 #[.slice a len cap] w fun e w' => e = .returned (.bool true) ∧ Below w.heap.size w w' := by
  by_cases hl : 1048576 < len
  · have C : Hid (Calls Try.prog 4 #[.slice a len cap] w fun e w' => e = .returned (.bool true) ∧ w' = w) := big_yes a len cap w hl hn
    clear hc
    go_enter Try.func3, Try.ntmps3
    go_wp2_with fail
    refine C.out.mono ?_
    rintro e w1 ⟨rfl, hw⟩
    subst hw
    go_wp2_with fail
    go_ret
    exact ⟨rfl, Below.refl _ _⟩
  have C : Hid (Calls Try.prog 4 #[.slice a len cap] w fun e w' => e = .returned (.bool false) ∧ w' = w) := big_no a len cap w (by omega)
  have D : Hid (Calls Try.prog 5 #[.slice a len cap] w fun e w' => ∃ v s V S, e = .returned (.tuple #[v, s]) ∧ Lists.Reads w' v V ∧ Lists.Reads w' s S ∧ V.length ≤ 9 ∧ S.length ≤ 9 ∧ Below w.heap.size w w') := draw_any a len cap w hc (by omega)
  obtain ⟨i0, hi, hz0, hz1, hz2⟩ := info_parts Lists.Try.info2
  clear hc
  go_enter Try.func3, Try.ntmps3
  go_wp2_with fail
  refine C.out.mono ?_
  rintro e w1 ⟨rfl, hw⟩
  have hw' := hw.symm
  subst hw'
  clear hw
  go_wp2_with fail
  refine D.out.mono ?_
  rintro e w1 ⟨v, s, V, S, rfl, h1, h2, lv, ls, h3⟩
  have B1 : Hid (Below w.heap.size w w1) := h3
  have SA : Hid (Calls Try.prog 6 #[v, s] w1 fun e w' => e = .returned (.tuple #[.int .i64 (pm V S).1, .int .i64 (pm V S).2]) ∧ Below w1.heap.size w1 w') := smod_any V S v s w1 h1 h2 (by omega) (by omega)
  have IA : Hid (∀ w', Below w1.heap.size w1 w' → Calls Try.prog 7 #[v, s] w' fun e w'' => e = .returned (.tuple #[.int .i64 (pm V S).1, .int .i64 (pm V S).2]) ∧ Below w'.heap.size w' w'') := fun w' hb => imod_any V S v s w' (h1.on hb) (h2.on hb) (by omega) (by omega)
  have IX : Hid (∀ w' x y, Lists.Reads w' x (ng V) → Lists.Reads w' y (ng S) → Calls Try.prog 7 #[x, y] w' fun e w'' => e = .returned (.tuple #[.int .i64 (pm (ng V) (ng S)).1, .int .i64 (pm (ng V) (ng S)).2]) ∧ Below w'.heap.size w' w'') := fun w' x y hx hy => imod_any (ng V) (ng S) x y w' hx hy (by rw [ng_len]; omega) (by rw [ng_len]; omega)
  have hii : ∀ b : Int, (b == b) = true := fun b => by simp
  have hnn : ∀ b : Int, (b != b) = false := fun b => by simp
  cases ho : (okU V 8 && okU S 8)
  · rw [perm_no ho] at SA IA
    obtain ⟨sa, sc, ev⟩ := h1.form
    obtain ⟨sb, sd, es⟩ := h2.form
    subst ev es
    clear h1 h2 h3 IX ho
    generalize V.length = n at *
    generalize S.length = m at *
    go_wp2_with fail
    refine SA.out.mono ?_
    rintro e w2 ⟨rfl, b2⟩
    have B2 : Hid (Below w1.heap.size w1 w2) := b2
    clear b2
    go_wp2_with fail
    refine (IA.out w2 B2.out).mono ?_
    rintro e w3 ⟨rfl, b3⟩
    have B3 : Hid (Below w.heap.size w w3) := B1.out.trans ((B2.out.trans (b3.mono B2.out.size)).mono B1.out.size)
    clear b3
    go_wp2_with fail
    go_ret
    exact ⟨rfl, B3.out⟩
  obtain ⟨f1, f2, f3, f4, f5, f6⟩ := perm_holds ho
  have f7 : (pm (ng V) (ng S)).1 ≤ (pm (ng V) (ng S)).2 := (perm_holds (A := ng V) (B := ng S) (by rw [okU_ng, okU_ng]; exact ho)).2.2.2.1
  rw [Bool.and_eq_true] at ho
  have lV := (okU_parts ho.1).1
  have lS := (okU_parts ho.2).1
  have iV := (okU_parts ho.1).2
  have iS := (okU_parts ho.2).2
  rw [f1] at SA IA f4 f6
  rw [f2] at IX f7
  have top := ch_top S.length V.length (by omega) (by omega)
  obtain ⟨b, o, hcell, hvv⟩ := Al.reads_at h1
  obtain ⟨bl, sc, ev⟩ := hvv (by omega)
  obtain ⟨d, p, hcell2, hvv2⟩ := Al.reads_at h2
  obtain ⟨dl, sd, es⟩ := hvv2 (by omega)
  subst ev es
  obtain ⟨n, hn'⟩ : ∃ n, n = V.length := ⟨_, rfl⟩
  obtain ⟨m, hm'⟩ : ∃ m, m = S.length := ⟨_, rfl⟩
  have HC : Hid (∀ i, i < n → ∀ w', Below w1.heap.size w1 w' → w'.cell? ⟨b, o + i, none⟩ = some (.int .i64 (V.getD i 0)) ∧ (-1000000 ≤ V.getD i 0 ∧ V.getD i 0 ≤ 1000000)) := fun i hi w' hb => by
    rw [hb.cell (p := ⟨b, o + i, none⟩) bl]
    exact ⟨hcell i (by omega), iV _ (by simp [List.getD_eq_getElem?_getD, show i < V.length by omega])⟩
  have HD : Hid (∀ i, i < m → ∀ w', Below w1.heap.size w1 w' → w'.cell? ⟨d, p + i, none⟩ = some (.int .i64 (S.getD i 0)) ∧ (-1000000 ≤ S.getD i 0 ∧ S.getD i 0 ≤ 1000000)) := fun i hi w' hb => by
    rw [hb.cell (p := ⟨d, p + i, none⟩) dl]
    exact ⟨hcell2 i (by omega), iS _ (by simp [List.getD_eq_getElem?_getD, show i < S.length by omega])⟩
  have HN : Hid (n = V.length) := hn'
  have HM : Hid (m = S.length) := hm'
  have TV : Hid (∀ k, k < n → (ng V).take (k + 1) = (ng V).take k ++ [-(V.getD k 0)]) := fun k hk => ng_take V k (by omega)
  have TS : Hid (∀ k, k < m → (ng S).take (k + 1) = (ng S).take k ++ [-(S.getD k 0)]) := fun k hk => ng_take S k (by omega)
  have LV : Hid (∀ k, k ≤ n → ((ng V).take k).length = k) := fun k hk => ng_tl V k (by omega)
  have LS : Hid (∀ k, k ≤ m → ((ng S).take k).length = k) := fun k hk => ng_tl S k (by omega)
  have FV : Hid ((ng V).take n = ng V) := (by show _ = _; exact List.take_of_length_le (by rw [ng_len]; omega))
  have FS : Hid ((ng S).take m = ng S) := (by show _ = _; exact List.take_of_length_le (by rw [ng_len]; omega))
  have WS : Hid (∀ k, k < n → ((ch (m + k) k : Int) * ((m : Int) + ((k : Int) + 1))).tdiv ((k : Int) + 1) = (ch (m + (k + 1)) (k + 1) : Int) ∧ (0 ≤ (ch (m + k) k : Int) * ((m : Int) + ((k : Int) + 1)) ∧ (ch (m + k) k : Int) * ((m : Int) + ((k : Int) + 1)) ≤ 231660) ∧ (0 ≤ (ch (m + (k + 1)) (k + 1) : Int) ∧ (ch (m + (k + 1)) (k + 1) : Int) ≤ 12870)) := fun k hk => by
    have t1 := ch_top m k (by omega) (by omega)
    have t2 := ch_top m (k + 1) (by omega) (by omega)
    refine ⟨step_at m k (by omega) (by omega), ⟨Int.mul_nonneg (by omega) (by omega), ?_⟩, by omega, by omega⟩
    have := Int.mul_le_mul (a := (ch (m + k) k : Int)) (b := (m : Int) + ((k : Int) + 1)) (c := 12870) (d := 18) (by omega) (by omega) (by omega) (by omega)
    omega
  rw [← hn', ← hm'] at SA IA IX f4 f6 f7 top
  rw [← hn'] at lV ⊢
  rw [← hm'] at lS ⊢
  clear h1 h2 h3 hcell hvv hcell2 hvv2 hn' hm' ho iV iS f1 f2 lv ls
  have topI : (ch (m + n) n : Int) ≤ 12870 := by omega
  clear top
  obtain ⟨W, hW⟩ : ∃ W : Nat → Int, W = fun k => (ch (m + k) k : Int) := ⟨_, rfl⟩
  have eW : ∀ k, (ch (m + k) k : Int) = W k := fun k => by rw [hW]
  have W0 : Hid (W 0 = 1) := (by show _ = _; rw [← eW]; rw [ch_zero]; rfl)
  rw [eW n] at SA IA IX f4 f6 f7 topI
  have WS2 : Hid (∀ k, k < n → (W k * ((m : Int) + ((k : Int) + 1))).tdiv ((k : Int) + 1) = W (k + 1) ∧ (0 ≤ W k * ((m : Int) + ((k : Int) + 1)) ∧ W k * ((m : Int) + ((k : Int) + 1)) ≤ 231660) ∧ (0 ≤ W (k + 1) ∧ W (k + 1) ≤ 12870)) := (by
    show ∀ k, _
    intro k hk
    have := WS.out k hk
    rw [eW (k + 1), eW k] at this
    exact this)
  clear WS eW hW
  generalize (pm V S).1 = p1 at *
  generalize (pm (ng V) (ng S)).1 = q1 at *
  have t0 : (W n == 0) = false := by simp; omega
  have t0' : ¬ W n = 0 := by omega
  obtain ⟨cc, hcc⟩ : ∃ c, c = W n := ⟨_, rfl⟩
  rw [← hcc] at SA IA IX f4 f6 f7 topI t0 t0'
  have HCC : Hid (cc = W n) := hcc
  clear hcc
  go_wp2_with fail
  refine SA.out.mono ?_
  rintro e w2 ⟨rfl, b2⟩
  have B2 : Hid (Below w1.heap.size w1 w2) := b2
  clear b2
  go_wp2_with fail
  refine (IA.out w2 B2.out).mono ?_
  rintro e w3 ⟨rfl, b3⟩
  have B3 : Hid (Below w1.heap.size w1 w3) := B2.out.trans (b3.mono B2.out.size)
  have Z3 : Hid (w1.heap.size ≤ w3.heap.size) := B3.out.size
  clear b3 SA IA B2
  go_wp2_with fail
  go_loop [9, 10] (fun q i => ∃ k : Nat, k ≤ n ∧ i = .int .i64 ((k : Int) + 1) ∧ q = .int .i64 (W k)) (fun _ i => ((n : Int) + 1 - (intOf i)).toNat)
  case atStart => exact ⟨0, Nat.zero_le _, rfl, by rw [W0.out]⟩
  case round =>
    obtain ⟨k, hk, rfl, rfl⟩ := hrel
    by_cases hlt : k < n
    · obtain ⟨ED, pb, wb⟩ := WS2.out k hlt
      have i1 : (k : Int) + 1 ≤ (n : Int) := by omega
      have d1 : ¬ (k : Int) + 1 = 0 := by omega
      have d2 : ((k : Int) + 1 == 0) = false := by simp; omega
      have d3 : ¬ (k : Int) + 1 = -1 := by omega
      obtain ⟨y, hy⟩ : ∃ y, y = W (k + 1) := ⟨_, rfl⟩
      rw [← hy] at ED wb
      have HY : Hid (y = W (k + 1)) := hy
      clear WS2 hy HCC
      obtain ⟨x, hx⟩ : ∃ x, x = W k := ⟨_, rfl⟩
      rw [← hx] at ED pb ⊢
      clear hx
      go_wp2_with fail
      go_round
      case rel => exact ⟨k + 1, by omega, by go_num, by rw [HY.out]⟩
      case measure => simp [intOf]; omega
    · have hkn : k = n := by omega
      subst hkn
      have nk : ¬ (k : Int) + 1 ≤ (k : Int) := by omega
      have s1 : IntKind.i64.wrap (p1 + q1) = p1 + q1 := IntWalk.i64_in _ (by omega)
      rw [← HCC.out]
      have R0 : Hid (((w3.alloc (Obj.cells #[] 2)).alloc (Obj.cells #[] 2)).ownsRow w1.heap.size 2 1 (.slice (some ⟨w3.heap.size, 0, none⟩) 0 0) 0 (ints ((ng V).take 0))) := (World.ownsRow_lit w3 #[] 0 Z3.out (Nat.zero_le _) rfl).alloc _
      have S0 : Hid (((w3.alloc (Obj.cells #[] 2)).alloc (Obj.cells #[] 2)).ownsRow w1.heap.size 2 1 (.slice (some ⟨w3.heap.size + 1, 0, none⟩) 0 0) 0 (ints [])) := (by
        have := World.ownsRow_lit (base := w1.heap.size) (e := 2) (size := 1) (w3.alloc (Obj.cells #[] 2)) #[] 0 (by have := Z3.out; simp; omega) (Nat.zero_le _) rfl
        show World.ownsRow _ _ _ _ _ _ _
        simpa using this)
      have A0 : Hid (AP (.slice (some ⟨w3.heap.size, 0, none⟩) 0 0) (.slice (some ⟨w3.heap.size + 1, 0, none⟩) 0 0)) := (by
        show AP _ _
        intro g h1 h2
        simp [Value.ownBlock] at h1 h2
        omega)
      have B4 : Hid (Below w1.heap.size w1 ((w3.alloc (Obj.cells #[] 2)).alloc (Obj.cells #[] 2))) := (B3.out.alloc Z3.out _).alloc (by have := Z3.out; simp; omega) _
      clear WS2 W0
      go_wp2_with fail
      go_loopw [11, 13] (fun v i wr => ∃ j : Nat, j ≤ k ∧ i = .int .i64 j ∧ Hid (wr.ownsRow w1.heap.size 2 1 v j (ints ((ng V).take j))) ∧ Hid (wr.ownsRow w1.heap.size 2 1 (.slice (some ⟨w3.heap.size + 1, 0, none⟩) 0 0) 0 (ints [])) ∧ Hid (AP v (.slice (some ⟨w3.heap.size + 1, 0, none⟩) 0 0)) ∧ Hid (Below w1.heap.size w1 wr)) (fun _ i _ => k - (intOf i).toNat)
      case atStart => exact ⟨0, Nat.zero_le _, rfl, R0, S0, A0, B4⟩
      case round =>
        obtain ⟨j, hj, rfl, R, SS, A, BB⟩ := hrel
        obtain ⟨v, hv⟩ : ∃ v, v = u11 := ⟨_, rfl⟩
        subst hv
        obtain ⟨sa, sb, hv⟩ := form_of R.out (LV.out j hj)
        subst hv
        by_cases hjt : j < k
        · obtain ⟨q, qb⟩ := HC.out j hjt wr BB.out
          have TK := TV.out j hjt
          have HTK : Hid ((ng V).take (j + 1) = (ng V).take j ++ [-(V.getD j 0)]) := TK
          have j2 : (j : Int) < (k : Int) := by omega
          have j1 : (0 : Int) ≤ (j : Int) := by omega
          have zr := BB.out.size
          have hbr : b < wr.heap.size := by omega
          have hbn : ¬ b = wr.heap.size := by omega
          clear TK R0 S0 A0 B4
          generalize V.getD j 0 = y at *
          go_wp2_with (at_builtin; refine wpList_append_own_at _ rfl _ _ 24 rfl w1.heap.size 2 i0 (.int .i64 0) 1 8 Try.underlying24 hi hz0 hz1 hz2 rfl (by decide) _ _ _ rfl (R.out.alloc _) ⟨wr.heap.size, 0, none⟩ 1 1 [.int .i64 (-y)] rfl rfl (cell_one wr _ 2) (one_one _) (by unfold maxLen; omega) (by omega) (by simp; omega) ?_)
          · intro v' w5 hown hgrow _ hat
            have R5 : Hid (w5.ownsRow w1.heap.size 2 1 v' (j + 1) (ints ((ng V).take (j + 1)))) := (by show World.ownsRow _ _ _ _ _ _ _; rw [HTK.out, ints_snoc]; simpa [ints, List.map_take] using hown)
            have S5 : Hid (w5.ownsRow w1.heap.size 2 1 (.slice (some ⟨w3.heap.size + 1, 0, none⟩) 0 0) 0 (ints [])) := row_off (SS.out.alloc _) hgrow A.out
            have A5 : Hid (AP v' (.slice (some ⟨w3.heap.size + 1, 0, none⟩) 0 0)) := A.out.next SS.out (Nat.le_succ _) (by simpa using hat)
            have B5 : Hid (Below w1.heap.size w1 w5) := (BB.out.alloc zr _).grown hgrow (by simp; omega) (fun b hb => (R.out.lt b hb).1)
            clear hown hgrow hat R SS A BB
            go_wp2_with fail
            go_roundw
            case rel => exact ⟨j + 1, by omega, by go_num, R5, S5, A5, B5⟩
            case measure => simp [intOf]; omega
        · have hjn : j = k := by omega
          subst hjn
          have RX : Hid (wr.ownsRow w1.heap.size 2 1 (.slice sa j sb) j (ints (ng V))) := (by have := R.out; rw [FV.out] at this; exact this)
          have LVV : Hid ((ng V).length = j) := (by show _ = _; rw [ng_len]; exact HN.out.symm)
          have SS0 : Hid (wr.ownsRow w1.heap.size 2 1 (.slice (some ⟨w3.heap.size + 1, 0, none⟩) 0 0) 0 (ints ((ng S).take 0))) := SS
          clear R R0 S0 A0 B4 SS
          go_wp2_with fail
          go_loopw [12, 14] (fun v i wr => ∃ l : Nat, l ≤ m ∧ i = .int .i64 l ∧ Hid (wr.ownsRow w1.heap.size 2 1 v l (ints ((ng S).take l))) ∧ Hid (wr.ownsRow w1.heap.size 2 1 (.slice sa j sb) j (ints (ng V))) ∧ Hid (AP v (.slice sa j sb)) ∧ Hid (Below w1.heap.size w1 wr)) (fun _ i _ => m - (intOf i).toNat)
          case atStart => exact ⟨0, Nat.zero_le _, rfl, SS0, RX, A.out.symm, BB⟩
          case round =>
            clear RX SS0 A BB
            obtain ⟨l, hl', rfl, R, XX, A, BB⟩ := hrel
            obtain ⟨v, hv⟩ : ∃ v, v = u12 := ⟨_, rfl⟩
            subst hv
            obtain ⟨ta, tb, hv⟩ := form_of R.out (LS.out l hl')
            subst hv
            by_cases hlt' : l < m
            · obtain ⟨q, qb⟩ := HD.out l hlt' _ BB.out
              have HTK : Hid ((ng S).take (l + 1) = (ng S).take l ++ [-(S.getD l 0)]) := TS.out l hlt'
              have j2 : (l : Int) < (m : Int) := by omega
              have j1 : (0 : Int) ≤ (l : Int) := by omega
              have zr := BB.out.size
              have hbr : d < wr.heap.size := by omega
              have hbn : ¬ d = wr.heap.size := by omega
              generalize S.getD l 0 = y at *
              go_wp2_with (at_builtin; refine wpList_append_own_at _ rfl _ _ 24 rfl w1.heap.size 2 i0 (.int .i64 0) 1 8 Try.underlying24 hi hz0 hz1 hz2 rfl (by decide) _ _ _ rfl (R.out.alloc _) ⟨wr.heap.size, 0, none⟩ 1 1 [.int .i64 (-y)] rfl rfl (cell_one wr _ 2) (one_one _) (by unfold maxLen; omega) (by omega) (by simp; omega) ?_)
              · intro v' w5 hown hgrow _ hat
                have R5 : Hid (w5.ownsRow w1.heap.size 2 1 v' (l + 1) (ints ((ng S).take (l + 1)))) := (by show World.ownsRow _ _ _ _ _ _ _; rw [HTK.out, ints_snoc]; simpa [ints, List.map_take] using hown)
                have S5 : Hid (w5.ownsRow w1.heap.size 2 1 (.slice sa j sb) j (ints (ng V))) := row_off (XX.out.alloc _) hgrow A.out
                have A5 : Hid (AP v' (.slice sa j sb)) := A.out.next XX.out (Nat.le_succ _) (by simpa using hat)
                have B5 : Hid (Below w1.heap.size w1 w5) := (BB.out.alloc zr _).grown hgrow (by simp; omega) (fun b hb => (R.out.lt b hb).1)
                clear hown hgrow hat R XX A BB
                go_wp2_with fail
                go_roundw
                case rel => exact ⟨l + 1, by omega, by go_num, R5, S5, A5, B5⟩
                case measure => simp [intOf]; omega
            · have hln : l = m := by omega
              subst hln
              have K7 : Hid (Calls Try.prog 7 #[.slice sa j sb, .slice ta l tb] wr fun e w'' => e = .returned (.tuple #[.int .i64 q1, .int .i64 cc]) ∧ Below wr.heap.size wr w'') := IX.out wr _ _ (reads_of XX.out LVV.out) (by
                have := R.out
                rw [FS.out] at this
                exact reads_of this (by rw [ng_len]; exact HM.out.symm))
              clear R XX A
              go_wp2_with fail
              refine K7.out.mono ?_
              rintro e w5 ⟨rfl, b5⟩
              have B5 : Hid (Below w.heap.size w w5) := B1.out.trans ((BB.out.trans (b5.mono BB.out.size)).mono B1.out.size)
              clear b5
              go_wp2_with fail
              go_ret
              exact ⟨rfl, B5.out⟩
end Go.Proofs.Ytefheoafpkghjaa.Dp
