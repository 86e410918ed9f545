/- The law of scores walked. -/
import Derived.Test.YtbcjkojjgaangaaDd
namespace Go.Proofs.Ytbcjkojjgaangaa.Dc
open Go.ChangeShapes Go.WideShapes Go.ChangeAt Go.RowKit
open Go.Proofs.Ytbcjkojjgaangaa.Lists Go.Proofs.Ytbcjkojjgaangaa.Al Go.Proofs.Ytbcjkojjgaangaa.Rd Go.Proofs.Ytbcjkojjgaangaa.Sc

theorem scrps_any (L : List Int) (x : Int) (v : Value) (w : World) (h : Lists.Reads w v L) (hf : L.length < 9223372036854775808) : Calls Try.prog 6 #[v, .int .i64 x] w fun e w' => e = .returned (.int .i64 (crp L x)) ∧ Below w.heap.size w w' := by
  unfold crp
  cases hb : (okM L && inn x (-1000000) 1000000)
  · refine (scrps_no L x v w h hf hb).mono ?_
    rintro e w' ⟨rfl, m, rfl⟩
    exact ⟨rfl, Rd.below_drewN (Below.refl _ _) m⟩
  · refine (scrps_yes L x v w h hb).mono ?_
    rintro e w' ⟨rfl, m, rfl⟩
    exact ⟨rfl, Rd.below_drewN (Below.refl _ _) m⟩

set_option maxHeartbeats 2000000 in
theorem crpsLaw (a : Option Addr) (len cap : Nat) (w : World) (hc : Go.Proofs.Ytbcjkojjgaangaa.Rd.Code w a len cap) (hn : len < 9223372036854775808) : Calls Try.prog 3 #[.slice a len cap] w fun e w' => e = .returned (.bool true) ∧ Below w.heap.size w w' := by
  by_cases hl : 1048576 < len
  · have C : Hid (Calls Try.prog 4 #[.slice a len cap] w fun e w' => e = .returned (.bool true) ∧ w' = w) := big_yes a len cap w hl hn
    clear hc
    go_enter Try.func3, Try.ntmps3
    go_wp2_with fail
    refine C.out.mono ?_
    rintro e w1 ⟨rfl, hw⟩
    subst hw
    go_wp2_with fail
    go_ret
    exact ⟨rfl, Below.refl _ _⟩
  have C : Hid (Calls Try.prog 4 #[.slice a len cap] w fun e w' => e = .returned (.bool false) ∧ w' = w) := big_no a len cap w (by omega)
  have D : Hid (Calls Try.prog 5 #[.slice a len cap] w fun e w' => ∃ v L x, e = .returned (.tuple #[v, .int .i64 x]) ∧ Lists.Reads w' v L ∧ L.length ≤ 61 ∧ Below w.heap.size w w') := crps_any a len cap w hc (by omega)
  obtain ⟨i0, hi, hz0, hz1, hz2⟩ := info_parts Lists.Try.info2
  clear hc
  go_enter Try.func3, Try.ntmps3
  go_wp2_with fail
  refine C.out.mono ?_
  rintro e w1 ⟨rfl, hw⟩
  have hw' := hw.symm
  subst hw'
  clear hw
  go_wp2_with fail
  refine D.out.mono ?_
  rintro e w1 ⟨v, L, x, rfl, h1, h2, h3⟩
  have RD : Hid (Lists.Reads w1 v L) := h1
  have B1 : Hid (Below w.heap.size w w1) := h3
  have SA : Hid (Calls Try.prog 6 #[v, .int .i64 x] w1 fun e w' => e = .returned (.int .i64 (crp L x)) ∧ Below w1.heap.size w1 w') := scrps_any L x v w1 h1 (by omega)
  have IA : Hid (∀ w', Below w1.heap.size w1 w' → Calls Try.prog 7 #[v, .int .i64 x] w' fun e w'' => e = .returned (.int .i64 (crp L x)) ∧ Below w'.heap.size w' w'') := fun w' hb => iCrps_any L x v w' (h1.on hb) (by omega)
  have IR : Hid (okM L = true → ∀ w', Below w1.heap.size w1 w' → Calls Try.prog 8 #[v, .int .i64 x] w' fun e w'' => e = .returned (.int .i64 (clt L x L.length)) ∧ Below w'.heap.size w' w'') := fun ho w' hb => by
    have := iRank_any L x v w' (h1.on hb) (by omega)
    rw [if_pos ho] at this
    exact this
  have IO : Hid (okM L = true → ∀ w', Below w1.heap.size w1 w' → Calls Try.prog 9 #[v, .int .i64 x] w' fun e w'' => e = .returned (.int .i64 (cge L x L.length)) ∧ Below w'.heap.size w' w'') := fun ho w' hb => by
    have := iOver_any L x v w' (h1.on hb) (by omega)
    rw [if_pos ho] at this
    exact this
  have IT : Hid (∀ w' B v', w'.ownsRow B 2 1 v' L.reverse.length (ints L.reverse) → Calls Try.prog 7 #[v', .int .i64 x] w' fun e w'' => e = .returned (.int .i64 (crp L x)) ∧ Below w'.heap.size w' w'') := fun w' B v' h => by
    have := iCrps_any L.reverse x v' w' (Lists.reads_row h) (by rw [List.length_reverse]; omega)
    rw [crp_rev] at this
    exact this
  have hbb : ∀ b : Bool, (b != b) = false := fun b => by cases b <;> rfl
  have hee : ∀ b : Bool, (b == b) = true := fun b => by cases b <;> rfl
  have hii : ∀ b : Int, (b == b) = true := fun b => by simp
  cases ho : (okM L && inn x (-1000000) 1000000)
  · have E : crp L x = -1 := by unfold crp; rw [ho]; rfl
    rw [E] at SA IA
    obtain ⟨sa, sc, ev⟩ := h1.form
    subst ev
    clear h1 h3 IR IO IT RD ho E
    generalize L.length = n at *
    go_wp2_with fail
    refine SA.out.mono ?_
    rintro e w2 ⟨rfl, b2⟩
    have B2 : Hid (Below w1.heap.size w1 w2) := b2
    clear b2
    go_wp2_with fail
    refine (IA.out w2 B2.out).mono ?_
    rintro e w3 ⟨rfl, b3⟩
    have B3 : Hid (Below w.heap.size w w3) := B1.out.trans ((B2.out.trans (b3.mono B2.out.size)).mono B1.out.size)
    clear b3
    go_wp2_with fail
    go_ret
    exact ⟨rfl, B3.out⟩
  have E : crp L x = crs L x L.length := by unfold crp; rw [ho]; rfl
  rw [Bool.and_eq_true] at ho
  have I := okM_in ho.1
  have l1 := I.1
  have l2 := I.2.1
  have NN := crs_nn L x
  have AL : Hid ((crs L x L.length == 0) = al L x L.length) := all_is L x
  have BT : Hid ((L.length : Int) - clt L x L.length = cge L x L.length) := both L x L.length
  have y0 := clt_bd L x L.length
  have IR2 : Hid (∀ w', Below w1.heap.size w1 w' → Calls Try.prog 8 #[v, .int .i64 x] w' fun e w'' => e = .returned (.int .i64 (clt L x L.length)) ∧ Below w'.heap.size w' w'') := IR.out ho.1
  have IO2 : Hid (∀ w', Below w1.heap.size w1 w' → Calls Try.prog 9 #[v, .int .i64 x] w' fun e w'' => e = .returned (.int .i64 (cge L x L.length)) ∧ Below w'.heap.size w' w'') := IO.out ho.1
  rw [E] at SA IA IT
  obtain ⟨b, o, hcell, hvv⟩ := Al.reads_at h1
  obtain ⟨bl, sc, ev⟩ := hvv (by omega)
  subst ev
  obtain ⟨n, hn'⟩ : ∃ n, n = L.length := ⟨_, rfl⟩
  have HC : Hid (∀ i, i < n → ∀ w', Below w1.heap.size w1 w' → w'.cell? ⟨b, o + i, none⟩ = some (.int .i64 (L.getD i 0))) := fun i hi w' hb => by
    rw [hb.cell (p := ⟨b, o + i, none⟩) bl]
    exact hcell i (by omega)
  have HN : Hid (n = L.length) := hn'
  rw [List.length_reverse] at IT
  rw [← hn'] at SA IA IT IR2 IO2 AL BT y0 NN l1 l2 ⊢
  clear h1 h3 hcell hvv hn' IR IO RD ho E I h2
  have TAKE : Hid (∀ k, k < n → L.reverse.take (k + 1) = L.reverse.take k ++ [L.getD (n - 1 - k) 0]) := fun k hk => by
    have e := HN.out
    rw [e]
    exact rev_take L k (by omega)
  have FULL : Hid (L.reverse.take n = L.reverse) := (by
    have e := HN.out
    show _ = _
    exact List.take_of_length_le (by rw [List.length_reverse]; omega))
  have ALS : Hid (∀ k, al L x (k + 1) = (al L x k && (L.getD (n - 1 - k) 0 == x))) := fun k => by
    have e := HN.out
    rw [e]
    rfl
  have TL : Hid (∀ k, k ≤ n → (L.reverse.take k).length = k) := fun k hk => by
    have e := HN.out
    rw [List.length_take, List.length_reverse]
    omega
  generalize crs L x n = t at *
  generalize clt L x n = c1 at *
  generalize cge L x n = c2 at *
  go_wp2_with fail
  refine SA.out.mono ?_
  rintro e w2 ⟨rfl, b2⟩
  have B2 : Hid (Below w1.heap.size w1 w2) := b2
  clear b2
  go_wp2_with fail
  refine (IA.out w2 B2.out).mono ?_
  rintro e w3 ⟨rfl, b3⟩
  have B3 : Hid (Below w1.heap.size w1 w3) := B2.out.trans (b3.mono B2.out.size)
  have Z3 : Hid (w1.heap.size ≤ w3.heap.size) := B3.out.size
  clear b3
  have nt : ¬ t < 0 := by omega
  have R0 : Hid ((w3.alloc (Obj.cells #[] 2)).ownsRow w1.heap.size 2 1 (.slice (some ⟨w3.heap.size, 0, none⟩) 0 0) 0 (ints (L.reverse.take 0))) := World.ownsRow_lit w3 #[] 0 Z3.out (Nat.zero_le _) rfl
  have B4 : Hid (Below w1.heap.size w1 (w3.alloc (Obj.cells #[] 2))) := B3.out.alloc Z3.out _
  go_wp2_with fail
  go_loopw [7, 8, 9] (fun q v i wr => ∃ k : Nat, k ≤ n ∧ i = .int .i64 ((n : Int) - 1 - k) ∧ q = .bool (al L x k) ∧ Hid (wr.ownsRow w1.heap.size 2 1 v k (ints (L.reverse.take k))) ∧ Hid (Below w1.heap.size w1 wr)) (fun _ _ i _ => ((intOf i) + 1).toNat)
  case atStart => exact ⟨0, Nat.zero_le _, by simp, rfl, R0, B4⟩
  case round =>
    obtain ⟨k, hk, rfl, rfl, R, BB⟩ := hrel
    obtain ⟨v, hv⟩ : ∃ v, v = u8 := ⟨_, rfl⟩
    subst hv
    obtain ⟨sa, sb, hv⟩ : ∃ a c, v = .slice a k c := by
      have tl := TL.out k hk
      have := Lists.reads_row (L := L.reverse.take k) (by rw [tl]; exact R.out)
      obtain ⟨a, c, e⟩ := this.form
      rw [tl] at e
      exact ⟨a, c, e⟩
    subst hv
    by_cases hlt : k < n
    · obtain ⟨j, hj⟩ : ∃ j : Nat, j = n - 1 - k := ⟨_, rfl⟩
      have ej : (n : Int) - 1 - (k : Int) = (j : Int) := by omega
      have q : wr.cell? ⟨b, o + j, none⟩ = some (.int .i64 (L.getD j 0)) := HC.out j (by omega) wr BB.out
      have j1 : (0 : Int) ≤ (j : Int) := by omega
      have j2 : (j : Int) < (n : Int) := by omega
      have TK : Hid (L.reverse.take (k + 1) = L.reverse.take k ++ [L.getD j 0]) := (by show _ = _; rw [hj]; exact TAKE.out k hlt)
      have AK : al L x (k + 1) = (al L x k && (L.getD j 0 == x)) := by rw [hj]; exact ALS.out k
      have EJ : Hid ((n : Int) - 1 - (k : Int) = (j : Int)) := ej
      rw [ej]
      have zr := BB.out.size
      have hbr : b < wr.heap.size := by omega
      have hbn : ¬ b = wr.heap.size := by omega
      clear hj ej
      generalize L.getD j 0 = y at *
      by_cases hy : y = x
      · have e1 : (y == x) = true := by simpa using hy
        cases ha : al L x k
        · rw [ha, e1] at AK
          have AK2 : Hid (al L x (k + 1) = false) := AK
          clear ha AK hy
          go_wp2_with (at_builtin; refine wpList_append_own _ rfl _ _ 24 rfl w1.heap.size 2 i0 (.int .i64 0) 1 8 Try.underlying24 hi hz0 hz1 hz2 rfl (by decide) _ _ _ rfl (R.out.alloc _) ⟨wr.heap.size, 0, none⟩ 1 1 [.int .i64 y] rfl rfl (cell_one wr _ 2) (one_one _) (by unfold maxLen; omega) (by omega) (by simp; omega) ?_)
          · intro v' w5 hown hgrow _
            have R5 : Hid (w5.ownsRow w1.heap.size 2 1 v' (k + 1) (ints (L.reverse.take (k + 1)))) := (by show World.ownsRow _ _ _ _ _ _ _; rw [TK.out, ints_snoc]; simpa [ints, List.map_take, List.map_reverse] using hown)
            have B5 : Hid (Below w1.heap.size w1 w5) := (BB.out.alloc zr _).grown hgrow (by simp; omega) (fun b hb => (R.out.lt b hb).1)
            clear hown hgrow R BB
            go_wp2_with fail
            go_roundw
            case rel => exact ⟨k + 1, by omega, by have := EJ.out; congr 1; omega, by rw [AK2.out], R5, B5⟩
            case measure => simp [intOf]
        · rw [ha, e1] at AK
          have AK2 : Hid (al L x (k + 1) = true) := AK
          clear ha AK hy
          go_wp2_with (at_builtin; refine wpList_append_own _ rfl _ _ 24 rfl w1.heap.size 2 i0 (.int .i64 0) 1 8 Try.underlying24 hi hz0 hz1 hz2 rfl (by decide) _ _ _ rfl (R.out.alloc _) ⟨wr.heap.size, 0, none⟩ 1 1 [.int .i64 y] rfl rfl (cell_one wr _ 2) (one_one _) (by unfold maxLen; omega) (by omega) (by simp; omega) ?_)
          · intro v' w5 hown hgrow _
            have R5 : Hid (w5.ownsRow w1.heap.size 2 1 v' (k + 1) (ints (L.reverse.take (k + 1)))) := (by show World.ownsRow _ _ _ _ _ _ _; rw [TK.out, ints_snoc]; simpa [ints, List.map_take, List.map_reverse] using hown)
            have B5 : Hid (Below w1.heap.size w1 w5) := (BB.out.alloc zr _).grown hgrow (by simp; omega) (fun b hb => (R.out.lt b hb).1)
            clear hown hgrow R BB
            go_wp2_with fail
            go_roundw
            case rel => exact ⟨k + 1, by omega, by have := EJ.out; congr 1; omega, by rw [AK2.out], R5, B5⟩
            case measure => simp [intOf]
      · have e1 : (y == x) = false := by simpa using hy
        have AK2 : Hid (al L x (k + 1) = false) := (by show _ = _; rw [AK, e1, Bool.and_false])
        cases ha : al L x k
        · clear ha AK hy
          go_wp2_with (at_builtin; refine wpList_append_own _ rfl _ _ 24 rfl w1.heap.size 2 i0 (.int .i64 0) 1 8 Try.underlying24 hi hz0 hz1 hz2 rfl (by decide) _ _ _ rfl (R.out.alloc _) ⟨wr.heap.size, 0, none⟩ 1 1 [.int .i64 y] rfl rfl (cell_one wr _ 2) (one_one _) (by unfold maxLen; omega) (by omega) (by simp; omega) ?_)
          · intro v' w5 hown hgrow _
            have R5 : Hid (w5.ownsRow w1.heap.size 2 1 v' (k + 1) (ints (L.reverse.take (k + 1)))) := (by show World.ownsRow _ _ _ _ _ _ _; rw [TK.out, ints_snoc]; simpa [ints, List.map_take, List.map_reverse] using hown)
            have B5 : Hid (Below w1.heap.size w1 w5) := (BB.out.alloc zr _).grown hgrow (by simp; omega) (fun b hb => (R.out.lt b hb).1)
            clear hown hgrow R BB
            go_wp2_with fail
            go_roundw
            case rel => exact ⟨k + 1, by omega, by have := EJ.out; congr 1; omega, by rw [AK2.out], R5, B5⟩
            case measure => simp [intOf]
        · clear ha AK hy
          go_wp2_with (at_builtin; refine wpList_append_own _ rfl _ _ 24 rfl w1.heap.size 2 i0 (.int .i64 0) 1 8 Try.underlying24 hi hz0 hz1 hz2 rfl (by decide) _ _ _ rfl (R.out.alloc _) ⟨wr.heap.size, 0, none⟩ 1 1 [.int .i64 y] rfl rfl (cell_one wr _ 2) (one_one _) (by unfold maxLen; omega) (by omega) (by simp; omega) ?_)
          · intro v' w5 hown hgrow _
            have R5 : Hid (w5.ownsRow w1.heap.size 2 1 v' (k + 1) (ints (L.reverse.take (k + 1)))) := (by show World.ownsRow _ _ _ _ _ _ _; rw [TK.out, ints_snoc]; simpa [ints, List.map_take, List.map_reverse] using hown)
            have B5 : Hid (Below w1.heap.size w1 w5) := (BB.out.alloc zr _).grown hgrow (by simp; omega) (fun b hb => (R.out.lt b hb).1)
            clear hown hgrow R BB
            go_wp2_with fail
            go_roundw
            case rel => exact ⟨k + 1, by omega, by have := EJ.out; congr 1; omega, by rw [AK2.out], R5, B5⟩
            case measure => simp [intOf]
    · have hkn : k = n := by omega
      subst hkn
      have ei : (k : Int) - 1 - (k : Int) = -1 := by omega
      rw [ei]
      have K7 : Hid (Calls Try.prog 7 #[.slice sa k sb, .int .i64 x] wr fun e w'' => e = .returned (.int .i64 t) ∧ Below wr.heap.size wr w'') := IT.out wr _ _ (by have := R.out; rw [FULL.out] at this; exact this)
      have s1 : IntKind.i64.wrap (c1 + c2) = c1 + c2 := IntWalk.i64_in _ (by have := BT.out; omega)
      have s2 : (c1 + c2 == (k : Int)) = true := by have := BT.out; simp; omega
      rw [← AL.out]
      by_cases hz : t = 0
      · have e0 : (t == 0) = true := by simpa using hz
        rw [e0]
        clear hz
        go_wp2_with fail
        refine K7.out.mono ?_
        rintro e w5 ⟨rfl, b5⟩
        have B5 : Hid (Below w1.heap.size w1 w5) := BB.out.trans (b5.mono BB.out.size)
        clear b5
        go_wp2_with fail
        refine (IR2.out w5 B5.out).mono ?_
        rintro e w6 ⟨rfl, b6⟩
        have B6 : Hid (Below w1.heap.size w1 w6) := B5.out.trans (b6.mono B5.out.size)
        clear b6
        go_wp2_with fail
        refine (IO2.out w6 B6.out).mono ?_
        rintro e w7 ⟨rfl, b7⟩
        have B7 : Hid (Below w.heap.size w w7) := B1.out.trans ((B6.out.trans (b7.mono B6.out.size)).mono B1.out.size)
        clear b7
        go_wp2_with fail
        go_ret
        exact ⟨rfl, B7.out⟩
      · have e0 : (t == 0) = false := by simpa using hz
        rw [e0]
        clear hz
        go_wp2_with fail
        refine K7.out.mono ?_
        rintro e w5 ⟨rfl, b5⟩
        have B5 : Hid (Below w1.heap.size w1 w5) := BB.out.trans (b5.mono BB.out.size)
        clear b5
        go_wp2_with fail
        refine (IR2.out w5 B5.out).mono ?_
        rintro e w6 ⟨rfl, b6⟩
        have B6 : Hid (Below w1.heap.size w1 w6) := B5.out.trans (b6.mono B5.out.size)
        clear b6
        go_wp2_with fail
        refine (IO2.out w6 B6.out).mono ?_
        rintro e w7 ⟨rfl, b7⟩
        have B7 : Hid (Below w.heap.size w w7) := B1.out.trans ((B6.out.trans (b7.mono B6.out.size)).mono B1.out.size)
        clear b7
        go_wp2_with fail
        go_ret
        exact ⟨rfl, B7.out⟩
end Go.Proofs.Ytbcjkojjgaangaa.Dc
