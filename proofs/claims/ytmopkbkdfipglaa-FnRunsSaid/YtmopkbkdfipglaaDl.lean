/- FnRuns: the law. -/
import Derived.Test.YtmopkbkdfipglaaDb
namespace Go.Proofs.Ytmopkbkdfipglaa.Rd
open Go.ChangeShapes Go.WideShapes Go.ChangeAt Go.RowKit
open Go.Proofs.Ytmopkbkdfipglaa.Lists (ints pks pk By RD RRo sml)
open Go.Proofs.Ytmopkbkdfipglaa.Bytes (bys)

set_option maxHeartbeats 1000000 in
theorem same_any (w : World) (v u : Value) (L : List Int) (h1 : Lists.Reads w v L) (h2 : Lists.Reads w u L) (hl : L.length ≤ 100000) : Calls Try.prog 20 #[v, u] w fun e w' => e = .returned (.bool true) ∧ ∃ m, w' = w.drewN m := by
  have key : ∀ {v : Value}, Lists.Reads w v L → ∃ a c, v = .slice a L.length c ∧ ∀ i, i < L.length → ∃ b o, a = some ⟨b, o, none⟩ ∧ L.length ≤ c ∧ c ≤ maxLen ∧ w.cell? ⟨b, o + i, none⟩ = some (.int .i64 (L.getD i 0)) := by
    intro v h
    rcases h with ⟨rfl, a, c, rfl⟩ | ⟨b, o, c, rfl, h2, h3, h4, h5⟩
    · exact ⟨a, c, rfl, fun i hi => by simp at hi⟩
    · exact ⟨_, c, rfl, fun i hi => ⟨b, o, rfl, h2, h3, h5 i hi⟩⟩
  obtain ⟨a, c, rfl, A⟩ := key h1
  obtain ⟨a', c', rfl, B⟩ := key h2
  obtain ⟨n, hn⟩ : ∃ n, n = L.length := ⟨_, rfl⟩
  rw [← hn] at A B hl ⊢
  have A4 : Hid (∀ i, i < n → ∃ b o, a = some ⟨b, o, none⟩ ∧ n ≤ c ∧ c ≤ maxLen ∧ w.cell? ⟨b, o + i, none⟩ = some (.int .i64 (L.getD i 0))) := A
  have B4 : Hid (∀ i, i < n → ∃ b o, a' = some ⟨b, o, none⟩ ∧ n ≤ c' ∧ c' ≤ maxLen ∧ w.cell? ⟨b, o + i, none⟩ = some (.int .i64 (L.getD i 0))) := B
  clear A B hn h1 h2 key
  go_enter Try.func20, Try.ntmps20
  have nn : ((n : Int) != (n : Int)) = false := by simp
  go_wp2_with fail
  go_loopw [5] (fun i wr => ∃ k m : Nat, k ≤ n ∧ i = .int .i64 k ∧ wr = w.drewN m) (fun i _ => n - (intOf i).toNat)
  case atStart => exact ⟨0, 0, Nat.zero_le _, rfl, rfl⟩
  case round =>
    obtain ⟨k, m, hk, rfl, rfl⟩ := hrel
    by_cases hlt : k < n
    · have i1 : (k : Int) < (n : Int) := by omega
      have i0 : (0 : Int) ≤ (k : Int) := by omega
      obtain ⟨b, o, rfl, x1, x2, q1⟩ := A4.out k hlt
      obtain ⟨b', o', rfl, x3, x4, q2⟩ := B4.out k hlt
      unfold maxLen at x2 x4
      generalize L.getD k 0 = z at q1 q2
      have zz : (z != z) = false := by simp
      go_wp2_with fail
      go_quiet (fail)
      go_wp2_with fail
      go_roundw
      case rel => exact ⟨k + 1, m + nq, by omega, by go_num, by first | rfl | simp⟩
      case measure => simp [intOf]; omega
    · have hkn : k = n := by omega
      subst hkn
      have i1 : ¬ (k : Int) < (k : Int) := by omega
      go_wp2_with fail
      go_ret
      exact ⟨rfl, m, rfl⟩
theorem code_on {w w' : World} {a : Option Addr} {n c : Nat} (h : Code w a n c) (hb : Below w.heap.size w w') : Code w' a n c := by
  rcases h with h | ⟨b, o, h1, h2, h3, h4, h5⟩
  · exact .inl h
  · refine .inr ⟨b, o, h1, Nat.lt_of_lt_of_le h2 hb.size, h3, h4, fun i hi => ?_⟩
    obtain ⟨u, q1, q2⟩ := h5 i hi
    exact ⟨u, q1, (hb.cell (p := ⟨b, o + i, none⟩) h2).trans q2⟩
theorem rro_yes {w w' : World} {D L : List Int} {e : Ending} (h : RRo w D e w') (hL : RD D L) : ∃ u0, e = .returned (.tuple #[u0, .bool true]) ∧ w'.ownsRow w.heap.size 2 1 u0 L.length (ints L) ∧ Below w.heap.size w w' := by
  obtain ⟨hb, (⟨M, v, hM, rfl, r⟩ | ⟨hn, _⟩)⟩ := h
  · rw [hM.one hL] at r
    exact ⟨v, rfl, r, hb⟩
  · exact absurd hL (hn L)
theorem rro_no {w w' : World} {D : List Int} {e : Ending} (h : RRo w D e w') (hL : ∀ L, ¬ RD D L) : ∃ u0, e = .returned (.tuple #[u0, .bool false]) ∧ w'.ownsRow w.heap.size 2 1 u0 0 (ints []) ∧ Below w.heap.size w w' := by
  obtain ⟨hb, (⟨M, v, hM, rfl, r⟩ | ⟨_, v, rfl, r⟩)⟩ := h
  · exact absurd hM (hL M)
  · exact ⟨v, rfl, r, hb⟩
theorem law_no1 (ca : Option Addr) (cn cc : Nat) (da : Option Addr) (dn dc : Nat) (w : World) (h : 1048576 < cn) (h1 : cn < 9223372036854775808) :
    Calls Try.prog 5 #[.slice ca cn cc, .slice da dn dc] w fun e w' => e = .returned (.bool true) ∧ Below w.heap.size w w' := by
  go_enter Try.func5, Try.ntmps5
  go_wp2_with (go_at_call 18; refine (big_yes ca cn cc _ h h1).mono ?_; rintro e w1 ⟨rfl, hw⟩; have hw' := hw.symm; subst hw')
  go_ret
  exact ⟨rfl, Below.refl _ _⟩
theorem law_no2 (ca : Option Addr) (cn cc : Nat) (da : Option Addr) (dn dc : Nat) (w : World) (h : cn ≤ 1048576) (h2 : 1048576 < dn) (h3 : dn < 9223372036854775808) :
    Calls Try.prog 5 #[.slice ca cn cc, .slice da dn dc] w fun e w' => e = .returned (.bool true) ∧ Below w.heap.size w w' := by
  go_enter Try.func5, Try.ntmps5
  go_wp2_with fail
  refine (big_no ca cn cc _ h).mono ?_
  rintro e w1 ⟨rfl, hw⟩
  have hw' := hw.symm
  subst hw'
  go_wp2_with fail
  refine (big_yes da dn dc _ h2 h3).mono ?_
  rintro e w1 ⟨rfl, hw⟩
  have hw' := hw.symm
  subst hw'
  go_wp2_with fail
  go_ret
  exact ⟨rfl, Below.refl _ _⟩
/-- the second half of the law, told by what it ends in -/
def LP (w : World) (e : Ending) (w' : World) : Prop := e = .returned (.bool true) ∧ Below w.heap.size w w'

set_option maxRecDepth 20000 in
set_option maxHeartbeats 4000000 in
theorem law_yes (ca : Option Addr) (cn cc : Nat) (da : Option Addr) (dn dc : Nat) (w : World) (hc : Rd.Code w ca cn cc) (hd : Rd.Code w da dn dc) (h1 : cn ≤ 1048576) (h2 : dn ≤ 1048576) :
    Calls Try.prog 5 #[.slice ca cn cc, .slice da dn dc] w fun e w' => LP w e w' := by
  have HBC : Hid (Calls Try.prog 18 #[.slice ca cn cc] w fun e w' => e = .returned (.bool false) ∧ w' = w) := big_no ca cn cc w h1
  have HBD : Hid (Calls Try.prog 18 #[.slice da dn dc] w fun e w' => e = .returned (.bool false) ∧ w' = w) := big_no da dn dc w h2
  have P1 : Hid (Calls Try.prog 19 #[.slice ca cn cc] w fun e w' => DP w e w') := drawPack_any ca cn cc w hc h1
  have CD : Hid (∀ W, Below w.heap.size w W → Calls Try.prog 21 #[.slice da dn dc] W fun e w' => DR W e w') := fun W hW => drawRead_any da dn dc W (code_on hd hW) h2
  have hbb : ∀ b : Bool, (b != b) = false := fun b => by cases b <;> rfl
  clear hc hd h1 h2
  go_enter Try.func5, Try.ntmps5
  go_wp2_with fail
  refine HBC.out.mono ?_
  rintro e w1 ⟨rfl, hw⟩
  have hw' := hw.symm
  subst hw'
  go_wp2_with fail
  refine HBD.out.mono ?_
  rintro e w1 ⟨rfl, hw⟩
  have hw' := hw.symm
  subst hw'
  go_wp2_with fail
  refine P1.out.mono ?_
  rintro e w2 ⟨v, L, rfl, ll, hR, b2⟩
  have R2 : Hid (Lists.Reads w2 v L) := hR
  have B2 : Hid (Below w.heap.size w w2) := b2
  have P2 : Hid (Calls Try.prog 6 #[v] w2 fun e w' => ∃ v', e = .returned (.tuple #[v', .bool (sml 1099511627776 L)]) ∧ w'.ownsRow w2.heap.size 5 1 v' (pks L).length (bys (pks L)) ∧ Below w2.heap.size w2 w') := Lists.spackm_any w2 v L hR (by omega)
  clear hR b2 HBC HBD P1
  go_wp2_with fail
  refine P2.out.mono ?_
  rintro e w3 ⟨v3, rfl, o3, b3⟩
  have R3 : Hid (Lists.Reads w3 v L) := R2.out.on b3
  have B3 : Hid (Below w.heap.size w w3) := B2.out.trans (b3.mono B2.out.size)
  have P3 : Hid (Calls Try.prog 8 #[v] w3 fun e w' => ∃ v', e = .returned (.tuple #[v', .bool (sml 1099511627776 L)]) ∧ w'.ownsRow w3.heap.size 5 1 v' (pks L).length (bys (pks L)) ∧ Below w3.heap.size w3 w') := Lists.ipack_any w3 v L R3.out (by omega)
  clear o3 b3 P2 R2 B2
  go_wp2_with fail
  refine P3.out.mono ?_
  rintro e w4 ⟨v4, rfl, o4, b4⟩
  have R4 : Hid (Lists.Reads w4 v L) := R3.out.on b4
  have B4 : Hid (Below w.heap.size w w4) := B3.out.trans (b4.mono B3.out.size)
  have O4 : Hid (w4.ownsRow w3.heap.size 5 1 v4 (pks L).length (bys (pks L))) := o4
  clear o4 b4 P3 R3 B3
  cases hs : sml 1099511627776 L
  · clear hs R4 O4
    have BX : Hid (Below w.heap.size w w4) := B4.out
    clear B4
    go_wp2_with fail
    refine (CD.out _ BX.out).mono ?_
    rintro e w5 ⟨vd, D, rfl, dl, hD, hRd, b5⟩
    have R5 : Hid (Bytes.Reads w5 vd D) := hRd
    have B5 : Hid (Below w.heap.size w w5) := BX.out.trans (b5.mono BX.out.size)
    clear hRd b5 CD
    by_cases hL : ∃ L', RD D L'
    · obtain ⟨L', hL⟩ := hL
      have Q5 : Hid (Calls Try.prog 14 #[vd] w5 fun e w' => ∃ u0, e = .returned (.tuple #[u0, .bool true]) ∧ w'.ownsRow w5.heap.size 2 1 u0 L'.length (ints L') ∧ Below w5.heap.size w5 w') := (Lists.sread14_any w5 vd D R5.out hD dl).mono fun e w' h => rro_yes h hL
      have HL : Hid (RD D L') := hL
      clear hL
      go_wp2_with fail
      refine Q5.out.mono ?_
      rintro e w6 ⟨v6, rfl, _, b6⟩
      have R6 : Hid (Bytes.Reads w6 vd D) := R5.out.on b6
      have B6 : Hid (Below w.heap.size w w6) := B5.out.trans (b6.mono B5.out.size)
      have Q6 : Hid (Calls Try.prog 16 #[vd] w6 fun e w' => ∃ u0, e = .returned (.tuple #[u0, .bool true]) ∧ w'.ownsRow w6.heap.size 2 1 u0 L'.length (ints L') ∧ Below w6.heap.size w6 w') := (Lists.iread16_any w6 vd D R6.out hD dl).mono fun e w' h => rro_yes h HL.out
      clear b6 Q5 R5 B5
      go_wp2_with fail
      refine Q6.out.mono ?_
      rintro e w7 ⟨v7, rfl, o7, b7⟩
      have R7 : Hid (Bytes.Reads w7 vd D) := R6.out.on b7
      have B7 : Hid (Below w.heap.size w w7) := B6.out.trans (b7.mono B6.out.size)
      have Q7 : Hid (Calls Try.prog 8 #[v7] w7 fun e w' => ∃ v', e = .returned (.tuple #[v', .bool true]) ∧ w'.ownsRow w7.heap.size 5 1 v' D.length (bys D) ∧ Below w7.heap.size w7 w') := (by
        have := Lists.ipack_any w7 v7 L' (Lists.reads_row o7) (by have := HL.out.back.2.1.1; omega)
        have e1 : pks L' = D := by unfold pks; rw [HL.out.1]; exact HL.out.2
        rw [HL.out.1, e1] at this
        exact this)
      clear o7 b7 Q6 R6 B6
      go_wp2_with fail
      refine Q7.out.mono ?_
      rintro e w8 ⟨v8, rfl, o8, b8⟩
      have B8 : Hid (Below w.heap.size w w8) := B7.out.trans (b8.mono B7.out.size)
      have k1 := Lists.conv_any w8 v8 D (Bytes.reads_row o8)
      have k2 := Lists.conv_any w8 vd D (R7.out.on b8)
      have k3 := Lists.stB_eq (X := D) (D := D) hD hD
      obtain ⟨A, hA⟩ : ∃ A, A = Lists.stB D := ⟨_, rfl⟩
      rw [← hA] at k1 k2 k3
      rw [decide_eq_true rfl] at k3
      obtain ⟨a8, c8, ev8⟩ := Lists.row_form o8
      obtain ⟨ad, cd, evd⟩ := R7.out.form
      obtain ⟨nd, hnd⟩ : ∃ nd, nd = D.length := ⟨_, rfl⟩
      rw [← hnd] at ev8 evd
      subst ev8 evd
      clear o8 b8 Q7 R7 B7 hA hnd
      go_wp2_with fail
      go_ret
      exact ⟨rfl, B8.out⟩
    · have hL' : ∀ L, ¬ RD D L := fun L h => hL ⟨L, h⟩
      have Q5 : Hid (Calls Try.prog 14 #[vd] w5 fun e w' => ∃ u0, e = .returned (.tuple #[u0, .bool false]) ∧ w'.ownsRow w5.heap.size 2 1 u0 0 (ints []) ∧ Below w5.heap.size w5 w') := (Lists.sread14_any w5 vd D R5.out hD dl).mono fun e w' h => rro_no h hL'
      have HL : Hid (∀ L, ¬ RD D L) := hL'
      clear hL hL'
      go_wp2_with fail
      refine Q5.out.mono ?_
      rintro e w6 ⟨v6, rfl, _, b6⟩
      have R6 : Hid (Bytes.Reads w6 vd D) := R5.out.on b6
      have B6 : Hid (Below w.heap.size w w6) := B5.out.trans (b6.mono B5.out.size)
      have Q6 : Hid (Calls Try.prog 16 #[vd] w6 fun e w' => ∃ u0, e = .returned (.tuple #[u0, .bool false]) ∧ w'.ownsRow w6.heap.size 2 1 u0 0 (ints []) ∧ Below w6.heap.size w6 w') := (Lists.iread16_any w6 vd D R6.out hD dl).mono fun e w' h => rro_no h HL.out
      clear b6 Q5 R5 B5
      go_wp2_with fail
      refine Q6.out.mono ?_
      rintro e w7 ⟨v7, rfl, o7, b7⟩
      have B7 : Hid (Below w.heap.size w w7) := B6.out.trans (b7.mono B6.out.size)
      obtain ⟨a7, c7, ev7⟩ := Lists.row_form o7
      subst ev7
      clear o7 b7 Q6 R6 B6
      go_wp2_with fail
      go_ret
      exact ⟨rfl, B7.out⟩
  · have HS : Hid (sml 1099511627776 L = true) := hs
    have e1 : pks L = pk L := by unfold pks; rw [hs]; rfl
    rw [e1] at O4
    have hr := Lists.rg_sml.1 hs
    have hby : By (pk L) := Lists.byt_by _ (Lists.pkB_01 _ _)
    have hpl : (pk L).length ≤ 1048576 := by have := Lists.pks_len L; rw [e1] at this; omega
    have P5 : Hid (Calls Try.prog 16 #[v4] w4 fun e w' => ∃ u0, e = .returned (.tuple #[u0, .bool true]) ∧ w'.ownsRow w4.heap.size 2 1 u0 L.length (ints L) ∧ Below w4.heap.size w4 w') := (Lists.iread16_any w4 v4 (pk L) (Bytes.reads_row O4.out) hby hpl).mono fun e w' h => rro_yes h ⟨hs, rfl⟩
    clear hs e1 hr hby hpl
    go_wp2_with fail
    refine P5.out.mono ?_
    rintro e w9 ⟨v9, rfl, o9, b9⟩
    have P6 : Hid (Calls Try.prog 20 #[v9, v] w9 fun e w' => e = .returned (.bool true) ∧ ∃ m, w' = w9.drewN m) := same_any w9 v9 v L (Lists.reads_row o9) (R4.out.on b9) (by omega)
    have B9 : Hid (Below w.heap.size w w9) := B4.out.trans (b9.mono B4.out.size)
    clear o9 b9 P5 R4 B4 O4
    go_wp2_with fail
    refine P6.out.mono ?_
    rintro e w10 ⟨rfl, m10, hw⟩
    have BX : Hid (Below w.heap.size w w10) := (by show Below _ _ _; rw [hw]; exact below_drewN B9.out _)
    clear hw P6 B9
    go_wp2_with fail
    refine (CD.out _ BX.out).mono ?_
    rintro e w5 ⟨vd, D, rfl, dl, hD, hRd, b5⟩
    have R5 : Hid (Bytes.Reads w5 vd D) := hRd
    have B5 : Hid (Below w.heap.size w w5) := BX.out.trans (b5.mono BX.out.size)
    clear hRd b5 CD
    by_cases hL : ∃ L', RD D L'
    · obtain ⟨L', hL⟩ := hL
      have Q5 : Hid (Calls Try.prog 14 #[vd] w5 fun e w' => ∃ u0, e = .returned (.tuple #[u0, .bool true]) ∧ w'.ownsRow w5.heap.size 2 1 u0 L'.length (ints L') ∧ Below w5.heap.size w5 w') := (Lists.sread14_any w5 vd D R5.out hD dl).mono fun e w' h => rro_yes h hL
      have HL : Hid (RD D L') := hL
      clear hL
      go_wp2_with fail
      refine Q5.out.mono ?_
      rintro e w6 ⟨v6, rfl, _, b6⟩
      have R6 : Hid (Bytes.Reads w6 vd D) := R5.out.on b6
      have B6 : Hid (Below w.heap.size w w6) := B5.out.trans (b6.mono B5.out.size)
      have Q6 : Hid (Calls Try.prog 16 #[vd] w6 fun e w' => ∃ u0, e = .returned (.tuple #[u0, .bool true]) ∧ w'.ownsRow w6.heap.size 2 1 u0 L'.length (ints L') ∧ Below w6.heap.size w6 w') := (Lists.iread16_any w6 vd D R6.out hD dl).mono fun e w' h => rro_yes h HL.out
      clear b6 Q5 R5 B5
      go_wp2_with fail
      refine Q6.out.mono ?_
      rintro e w7 ⟨v7, rfl, o7, b7⟩
      have R7 : Hid (Bytes.Reads w7 vd D) := R6.out.on b7
      have B7 : Hid (Below w.heap.size w w7) := B6.out.trans (b7.mono B6.out.size)
      have Q7 : Hid (Calls Try.prog 8 #[v7] w7 fun e w' => ∃ v', e = .returned (.tuple #[v', .bool true]) ∧ w'.ownsRow w7.heap.size 5 1 v' D.length (bys D) ∧ Below w7.heap.size w7 w') := (by
        have := Lists.ipack_any w7 v7 L' (Lists.reads_row o7) (by have := HL.out.back.2.1.1; omega)
        have e1 : pks L' = D := by unfold pks; rw [HL.out.1]; exact HL.out.2
        rw [HL.out.1, e1] at this
        exact this)
      clear o7 b7 Q6 R6 B6
      go_wp2_with fail
      refine Q7.out.mono ?_
      rintro e w8 ⟨v8, rfl, o8, b8⟩
      have B8 : Hid (Below w.heap.size w w8) := B7.out.trans (b8.mono B7.out.size)
      have k1 := Lists.conv_any w8 v8 D (Bytes.reads_row o8)
      have k2 := Lists.conv_any w8 vd D (R7.out.on b8)
      have k3 := Lists.stB_eq (X := D) (D := D) hD hD
      obtain ⟨A, hA⟩ : ∃ A, A = Lists.stB D := ⟨_, rfl⟩
      rw [← hA] at k1 k2 k3
      rw [decide_eq_true rfl] at k3
      obtain ⟨a8, c8, ev8⟩ := Lists.row_form o8
      obtain ⟨ad, cd, evd⟩ := R7.out.form
      obtain ⟨nd, hnd⟩ : ∃ nd, nd = D.length := ⟨_, rfl⟩
      rw [← hnd] at ev8 evd
      subst ev8 evd
      clear o8 b8 Q7 R7 B7 hA hnd
      go_wp2_with fail
      go_ret
      exact ⟨rfl, B8.out⟩
    · have hL' : ∀ L, ¬ RD D L := fun L h => hL ⟨L, h⟩
      have Q5 : Hid (Calls Try.prog 14 #[vd] w5 fun e w' => ∃ u0, e = .returned (.tuple #[u0, .bool false]) ∧ w'.ownsRow w5.heap.size 2 1 u0 0 (ints []) ∧ Below w5.heap.size w5 w') := (Lists.sread14_any w5 vd D R5.out hD dl).mono fun e w' h => rro_no h hL'
      have HL : Hid (∀ L, ¬ RD D L) := hL'
      clear hL hL'
      go_wp2_with fail
      refine Q5.out.mono ?_
      rintro e w6 ⟨v6, rfl, _, b6⟩
      have R6 : Hid (Bytes.Reads w6 vd D) := R5.out.on b6
      have B6 : Hid (Below w.heap.size w w6) := B5.out.trans (b6.mono B5.out.size)
      have Q6 : Hid (Calls Try.prog 16 #[vd] w6 fun e w' => ∃ u0, e = .returned (.tuple #[u0, .bool false]) ∧ w'.ownsRow w6.heap.size 2 1 u0 0 (ints []) ∧ Below w6.heap.size w6 w') := (Lists.iread16_any w6 vd D R6.out hD dl).mono fun e w' h => rro_no h HL.out
      clear b6 Q5 R5 B5
      go_wp2_with fail
      refine Q6.out.mono ?_
      rintro e w7 ⟨v7, rfl, o7, b7⟩
      have B7 : Hid (Below w.heap.size w w7) := B6.out.trans (b7.mono B6.out.size)
      obtain ⟨a7, c7, ev7⟩ := Lists.row_form o7
      subst ev7
      clear o7 b7 Q6 R6 B6
      go_wp2_with fail
      go_ret
      exact ⟨rfl, B7.out⟩
theorem law_all (ca : Option Addr) (cn cc : Nat) (da : Option Addr) (dn dc : Nat) (w : World) (hc : Rd.Code w ca cn cc) (hd : Rd.Code w da dn dc) (h1 : cn < 9223372036854775808) (h2 : dn < 9223372036854775808) :
    Calls Try.prog 5 #[.slice ca cn cc, .slice da dn dc] w fun e w' => e = .returned (.bool true) ∧ Below w.heap.size w w' := by
  by_cases k1 : 1048576 < cn
  · exact law_no1 ca cn cc da dn dc w k1 h1
  · by_cases k2 : 1048576 < dn
    · exact law_no2 ca cn cc da dn dc w (by omega) k2 h2
    · exact law_yes ca cn cc da dn dc w hc hd (by omega) (by omega)
end Go.Proofs.Ytmopkbkdfipglaa.Rd
