/- Levels: the program. -/
import Derived.Test.YtlegcimlhgkibaaLz
namespace Go.Proofs.Ytlegcimlhgkibaa.Lv
open Go.ChangeShapes Go.WideShapes Go.ChangeAt Go.RowKit
open Go.Proofs.Ytlegcimlhgkibaa.Lists Go.Proofs.Ytlegcimlhgkibaa.Al Go.Proofs.Ytlegcimlhgkibaa.Se

set_option linter.unusedVariables false
set_option maxHeartbeats 1000000 in
theorem i_no1 (S A B : List Int) (h : Int) (vS vA vB : Value) (w : World) (hS : Lists.Reads w vS S) (hA : Lists.Reads w vA A) (hB : Lists.Reads w vB B) (fS : S.length < 9223372036854775808) (fA : A.length < 9223372036854775808) (fB : B.length < 9223372036854775808) (hok : okS S = false) :
    Calls Try.prog 7 #[vS, vA, vB, .int .i64 h] w fun e w' => ∃ u0, e = .returned (.tuple #[u0, .bool false]) ∧ w'.ownsRow w.heap.size 2 1 u0 0 [] ∧ Below w.heap.size w w' := by
  have C : Hid (Calls Try.prog 15 #[vS] w fun e w'' => e = .returned (.bool (okS S)) ∧ w'' = w) := iok_any S vS w hS fS
  have C2 : Hid (Calls Try.prog 16 #[vA, vB] w fun e w'' => e = .returned (.bool (okB A B)) ∧ ∃ m, w'' = w.drewN m) := ibounds_any A B vA vB w hA hB fA fB
  have C3 : Hid (∀ m, Calls Try.prog 17 #[.int .i64 h, .int .i64 1, .int .i64 100] (w.drewN m) fun e w'' => e = .returned (.bool (inn h 1 100)) ∧ w'' = w.drewN m) := fun m => i_in _ _ _ _
  rw [hok] at C
  clear hok
  obtain ⟨a, cap, rfl⟩ := hS.form
  obtain ⟨a1, cap1, rfl⟩ := hA.form
  obtain ⟨a2, cap2, rfl⟩ := hB.form
  clear hS hA hB
  generalize S.length = n at *
  generalize A.length = n1 at *
  generalize B.length = n2 at *
  go_enter Try.func7, Try.ntmps7
  go_wp2_with fail
  refine C.out.mono ?_
  rintro e w1 ⟨rfl, hw⟩
  subst hw
  go_wp2_with fail
  go_ret2
  exact ⟨_, rfl, row_none _ _, Below.refl _ _⟩
set_option maxHeartbeats 1000000 in
theorem i_no2 (S A B : List Int) (h : Int) (vS vA vB : Value) (w : World) (hS : Lists.Reads w vS S) (hA : Lists.Reads w vA A) (hB : Lists.Reads w vB B) (fS : S.length < 9223372036854775808) (fA : A.length < 9223372036854775808) (fB : B.length < 9223372036854775808) (hok : okS S = true) (hno : okB A B = false) :
    Calls Try.prog 7 #[vS, vA, vB, .int .i64 h] w fun e w' => ∃ u0, e = .returned (.tuple #[u0, .bool false]) ∧ w'.ownsRow w.heap.size 2 1 u0 0 [] ∧ Below w.heap.size w w' := by
  have C : Hid (Calls Try.prog 15 #[vS] w fun e w'' => e = .returned (.bool (okS S)) ∧ w'' = w) := iok_any S vS w hS fS
  have C2 : Hid (Calls Try.prog 16 #[vA, vB] w fun e w'' => e = .returned (.bool (okB A B)) ∧ ∃ m, w'' = w.drewN m) := ibounds_any A B vA vB w hA hB fA fB
  have C3 : Hid (∀ m, Calls Try.prog 17 #[.int .i64 h, .int .i64 1, .int .i64 100] (w.drewN m) fun e w'' => e = .returned (.bool (inn h 1 100)) ∧ w'' = w.drewN m) := fun m => i_in _ _ _ _
  rw [hok] at C
  rw [hno] at C2
  clear hok hno
  obtain ⟨a, cap, rfl⟩ := hS.form
  obtain ⟨a1, cap1, rfl⟩ := hA.form
  obtain ⟨a2, cap2, rfl⟩ := hB.form
  clear hS hA hB
  generalize S.length = n at *
  generalize A.length = n1 at *
  generalize B.length = n2 at *
  go_enter Try.func7, Try.ntmps7
  go_wp2_with fail
  refine C.out.mono ?_
  rintro e w1 ⟨rfl, hw⟩
  subst hw
  go_wp2_with fail
  refine C2.out.mono ?_
  rintro e w2 ⟨rfl, m, rfl⟩
  go_wp2_with fail
  go_ret2
  exact ⟨_, rfl, row_none _ _, below_drewN (Below.refl _ _) _⟩
set_option maxHeartbeats 1000000 in
theorem i_no3 (S A B : List Int) (h : Int) (vS vA vB : Value) (w : World) (hS : Lists.Reads w vS S) (hA : Lists.Reads w vA A) (hB : Lists.Reads w vB B) (fS : S.length < 9223372036854775808) (fA : A.length < 9223372036854775808) (fB : B.length < 9223372036854775808) (hok : okS S = true) (hno : okB A B = true) (hn3 : inn h 1 100 = false) :
    Calls Try.prog 7 #[vS, vA, vB, .int .i64 h] w fun e w' => ∃ u0, e = .returned (.tuple #[u0, .bool false]) ∧ w'.ownsRow w.heap.size 2 1 u0 0 [] ∧ Below w.heap.size w w' := by
  have C : Hid (Calls Try.prog 15 #[vS] w fun e w'' => e = .returned (.bool (okS S)) ∧ w'' = w) := iok_any S vS w hS fS
  have C2 : Hid (Calls Try.prog 16 #[vA, vB] w fun e w'' => e = .returned (.bool (okB A B)) ∧ ∃ m, w'' = w.drewN m) := ibounds_any A B vA vB w hA hB fA fB
  have C3 : Hid (∀ m, Calls Try.prog 17 #[.int .i64 h, .int .i64 1, .int .i64 100] (w.drewN m) fun e w'' => e = .returned (.bool (inn h 1 100)) ∧ w'' = w.drewN m) := fun m => i_in _ _ _ _
  rw [hok] at C
  rw [hno] at C2
  rw [hn3] at C3
  clear hok hno hn3
  obtain ⟨a, cap, rfl⟩ := hS.form
  obtain ⟨a1, cap1, rfl⟩ := hA.form
  obtain ⟨a2, cap2, rfl⟩ := hB.form
  clear hS hA hB
  generalize S.length = n at *
  generalize A.length = n1 at *
  generalize B.length = n2 at *
  go_enter Try.func7, Try.ntmps7
  go_wp2_with fail
  refine C.out.mono ?_
  rintro e w1 ⟨rfl, hw⟩
  subst hw
  go_wp2_with fail
  refine C2.out.mono ?_
  rintro e w2 ⟨rfl, m, rfl⟩
  go_wp2_with fail
  refine (C3.out m).mono ?_
  rintro e w2 ⟨rfl, hw⟩
  subst hw
  go_wp2_with fail
  go_ret2
  exact ⟨_, rfl, row_none _ _, below_drewN (Below.refl _ _) _⟩

theorem row_off {w w' : World} {base n : Nat} {row : Option Nat} {v : Value} {xs : List Value} (h : w.ownsRow base 2 1 v n xs) (hg : w.grownBy w' row) (hne : ∀ k j, v.ownBlock = some k → row = some j → k ≠ j) : w'.ownsRow base 2 1 v n xs := by
  refine h.kept hg ?_
  cases e : v.ownBlock with
  | none => exact Or.inl rfl
  | some k => exact Or.inr fun x => hne k k e x.symm rfl
theorem Bx.apart {w w' : World} {r : Nat} {vA vB : Value} {h l c : Int} {row : Option Nat} (b : Bx w r vA vB h l c) (hg : w.grownBy w' row) (hne : some r ≠ row) : Bx w' r vA vB h l c := (hg.block r b.lt hne).trans b
theorem row_low {w : World} {base base' n : Nat} {v : Value} {xs : List Value} (h : w.ownsRow base 2 1 v n xs) (hb : base' ≤ base) : w.ownsRow base' 2 1 v n xs := by
  refine ⟨h.1, ?_⟩
  rcases h.2 with x | ⟨g, cap, cur, h1, h2, h3⟩
  · exact .inl x
  · exact .inr ⟨g, cap, cur, h1, Nat.le_trans hb h2, h3⟩
set_option maxHeartbeats 4000000 in
theorem i_yes (S A B : List Int) (hh : Nat) (vS vA vB : Value) (w : World) (hS : Lists.Reads w vS S) (hA : Lists.Reads w vA A) (hB : Lists.Reads w vB B) (fS : S.length < 9223372036854775808) (fA : A.length < 9223372036854775808) (fB : B.length < 9223372036854775808) (hok : okS S = true) (ho2 : okB A B = true) (ho3 : inn (hh : Int) 1 100 = true) :
    Calls Try.prog 7 #[vS, vA, vB, .int .i64 (hh : Int)] w fun e w' => ∃ u0, e = .returned (.tuple #[u0, .bool true]) ∧ w'.ownsRow w.heap.size 2 1 u0 S.length (ints (lvs A B hh S S.length)) ∧ Below w.heap.size w w' := by
  obtain ⟨h, hhe⟩ : ∃ h : Int, h = (hh : Int) := ⟨_, rfl⟩
  rw [← hhe] at ho3
  have C : Hid (Calls Try.prog 15 #[vS] w fun e w'' => e = .returned (.bool (okS S)) ∧ w'' = w) := iok_any S vS w hS fS
  have C2 : Hid (Calls Try.prog 16 #[vA, vB] w fun e w'' => e = .returned (.bool (okB A B)) ∧ ∃ m, w'' = w.drewN m) := ibounds_any A B vA vB w hA hB fA fB
  have C3 : Hid (∀ m, Calls Try.prog 17 #[.int .i64 h, .int .i64 1, .int .i64 100] (w.drewN m) fun e w'' => e = .returned (.bool (inn h 1 100)) ∧ w'' = w.drewN m) := fun m => i_in _ _ _ _
  rw [hhe] at C3 ho3
  clear hhe h
  obtain ⟨i0, hi, hz0, hz1, hz2⟩ := info_parts Lists.Try.info2
  obtain ⟨a1, a2, a3, a4, a5⟩ := okB_parts ho2
  obtain ⟨s1, s2, _⟩ := okS_parts hok
  rw [hok] at C
  rw [ho2] at C2
  rw [ho3] at C3
  rw [inn_iff] at ho3
  obtain ⟨g1, g2⟩ := ho3
  have HEAR : Hid (∀ (w' : World) (r k : Nat) (x : Int), w.heap.size ≤ r → Below w.heap.size w w' → Bx w' r vA vB (hh : Int) ((rn A B hh S k).1 : Int) ((rn A B hh S k).2 : Int) → S.getD k 0 = x → Calls Try.prog 18 #[.pointer (some ⟨r, 0, none⟩), .int .i64 x] w' fun e w'' => e = .returned (.tuple #[]) ∧ Bx w'' r vA vB (hh : Int) ((rn A B hh S (k + 1)).1 : Int) ((rn A B hh S (k + 1)).2 : Int) ∧ w'.grownBy w'' (some r)) := fun w' r k x hr0 hb K hx => by
    subst hx
    have hr := rn_bd A B hh S a3 (by omega) k
    exact hear_any A B vA vB hh _ _ (S.getD k 0) r w' K (hA.on hb) (hB.on hb) (fun w2 hg => hB.on (hb.grown hg hb.size (fun j hj => by simp at hj; omega))) a2 a3 (by omega) (by omega) hr.1 hr.2
  have FZ : Hid ((madeCells (Value.int .i64 0).cells (S.length * 1)).toList = ints (fill (lvs A B hh S S.length) 0)) := (by
    have := fill_zero (lvs A B hh S S.length)
    rw [lvs_len] at this
    exact this)
  have FA : Hid (fill (lvs A B hh S S.length) S.length = lvs A B hh S S.length) := (by
    have := fill_all (lvs A B hh S S.length)
    rw [lvs_len] at this
    exact this)
  have FL : Hid (∀ j, (fill (lvs A B hh S S.length) j).length = S.length) := fun j => (by show _ = _; rw [fill_len, lvs_len])
  have FS : Hid (∀ j, j < S.length → (fill (lvs A B hh S S.length) j).set j ((rn A B hh S (j + 1)).1 : Int) = fill (lvs A B hh S S.length) (j + 1)) := fun j hj => (by
    have := fill_set (lvs A B hh S S.length) j
    rw [lvs_get A B hh S S.length j hj] at this
    exact this)
  have HRN : Hid (∀ k, (rn A B hh S k).1 ≤ A.length) := fun k => (rn_bd A B hh S a3 (by omega) k).1
  rcases hS with ⟨rfl, _⟩ | ⟨b, o, cap, rfl, _, _, hb0, hc0⟩
  · simp at s1
  have HC : Hid (∀ w', Below w.heap.size w w' → ∀ i, i < S.length → w'.cell? ⟨b, o + i, none⟩ = some (.int .i64 (S.getD i 0))) := fun w' hb i hi => (hb.cell (p := ⟨b, o + i, none⟩) hb0).trans (hc0 i hi)
  obtain ⟨sA, cA, rfl⟩ := hA.form
  obtain ⟨sB, cB, rfl⟩ := hB.form
  have K0 : Hid (∀ W : World, Bx (W.alloc (.cells #[.slice sA A.length cA, .slice sB B.length cB, .int .i64 (hh : Int), .int .i64 0, .int .i64 0] 40)) W.heap.size (.slice sA A.length cA) (.slice sB B.length cB) (hh : Int) ((rn A B hh S 0).1 : Int) ((rn A B hh S 0).2 : Int)) := fun W => heap_alloc_new W _
  clear hA hB hok ho2 hc0 hb0 a4 a5 a3
  obtain ⟨n, hn⟩ : ∃ n, n = S.length := ⟨_, rfl⟩
  obtain ⟨na, hna⟩ : ∃ na, na = A.length := ⟨_, rfl⟩
  obtain ⟨nb, hnb⟩ : ∃ nb, nb = B.length := ⟨_, rfl⟩
  rw [← hn] at fS s1 s2 C HC FZ FA FL FS ⊢
  rw [← hna] at fA a1 a2 C2 HEAR HRN K0 ⊢
  rw [← hnb] at fB C2 HEAR K0 ⊢
  clear hn hna hnb
  obtain ⟨F, hF⟩ : ∃ F, F = lvs A B hh S n := ⟨_, rfl⟩
  rw [← hF] at FZ FA FL FS ⊢
  clear hF
  go_enter Try.func7, Try.ntmps7
  go_wp2_with fail
  refine C.out.mono ?_
  rintro e w1 ⟨rfl, hw⟩
  subst hw
  go_wp2_with fail
  refine C2.out.mono ?_
  rintro e w2 ⟨rfl, m, rfl⟩
  go_wp2_with fail
  refine (C3.out m).mono ?_
  rintro e w2 ⟨rfl, hw⟩
  subst hw
  have BW : Hid (Below w1.heap.size w1 (w1.drewN m)) := below_drewN (Below.refl _ _) m
  have ZW : Hid ((w1.drewN m).heap.size = w1.heap.size) := rfl
  generalize w1.drewN m = W at *
  clear C C2 C3 m
  have K1 : Hid (Bx (W.alloc (.cells #[.slice sA na cA, .slice sB nb cB, .int .i64 (hh : Int), .int .i64 0, .int .i64 0] 40)) W.heap.size (.slice sA na cA) (.slice sB nb cB) (hh : Int) ((rn A B hh S 0).1 : Int) ((rn A B hh S 0).2 : Int)) := K0.out W
  have B1 : Hid (Below W.heap.size W (W.alloc (.cells #[.slice sA na cA, .slice sB nb cB, .int .i64 (hh : Int), .int .i64 0, .int .i64 0] 40))) := (Below.refl _ _).alloc (Nat.le_refl _) _
  have Z1 : Hid ((W.alloc (.cells #[.slice sA na cA, .slice sB nb cB, .int .i64 (hh : Int), .int .i64 0, .int .i64 0] 40)).heap.size = W.heap.size + 1) := (by show _ = _; simp)
  clear K0
  go_wp2_with (at_make; refine wpList_make_full _ rfl _ _ 24 rfl (W.heap.size + 1) 2 i0 (.int .i64 0) 1 Try.underlying24 hi hz0 hz1 .i64 .i64 (n : Int) (n : Int) n rfl rfl rfl rfl (by rw [hz2]; omega) (by unfold maxLen; omega) (by simp) ?_; intro w4 hown hgrow)
  rw [FZ.out] at hown
  simp only [World.size_alloc] at hown
  have R0 : Hid (w4.ownsRow (W.heap.size + 1) 2 1 (.slice (some ⟨W.heap.size + 1, 0, none⟩) n n) n (ints (fill F 0))) := hown
  have B2 : Hid (Below W.heap.size W w4) := B1.out.grown hgrow (by rw [Z1.out]; omega) (fun k hk => by cases hk)
  have K2 : Hid (Bx w4 W.heap.size (.slice sA na cA) (.slice sB nb cB) (hh : Int) ((rn A B hh S 0).1 : Int) ((rn A B hh S 0).2 : Int)) := K1.out.apart hgrow (by simp)
  clear hown hgrow K1 B1 Z1
  go_wp2_with fail
  go_loopw [37] (fun c wr => ∃ j : Nat, j ≤ n ∧ c = .int .i64 j ∧ Hid (wr.ownsRow (W.heap.size + 1) 2 1 (.slice (some ⟨W.heap.size + 1, 0, none⟩) n n) n (ints (fill F j))) ∧ Hid (Bx wr W.heap.size (.slice sA na cA) (.slice sB nb cB) (hh : Int) ((rn A B hh S j).1 : Int) ((rn A B hh S j).2 : Int)) ∧ Hid (Below W.heap.size W wr)) (fun c _ => n - (intOf c).toNat)
  case atStart => exact ⟨0, Nat.zero_le _, rfl, R0, K2, B2⟩
  case round =>
    clear R0 K2 B2
    obtain ⟨j, hj, rfl, R, K, BB⟩ := hrel
    by_cases hlt : j < n
    · have i1 : (0 : Int) ≤ (j : Int) := by omega
      have i2 : (j : Int) < (n : Int) := by omega
      have BBw : Below w1.heap.size w1 wr := BW.out.trans (BB.out.mono (by rw [ZW.out]; exact Nat.le_refl _))
      have q := HC.out wr BBw j hlt
      have HR := HRN.out (j + 1)
      have H1 : Hid (Calls Try.prog 18 #[.pointer (some ⟨W.heap.size, 0, none⟩), .int .i64 (S.getD j 0)] wr fun e w'' => e = .returned (.tuple #[]) ∧ Bx w'' W.heap.size (.slice sA na cA) (.slice sB nb cB) (hh : Int) ((rn A B hh S (j + 1)).1 : Int) ((rn A B hh S (j + 1)).2 : Int) ∧ wr.grownBy w'' (some W.heap.size)) := HEAR.out wr _ j _ (by rw [ZW.out]; exact Nat.le_refl _) BBw K.out rfl
      clear BBw
      have FS1 : Hid ((fill F j).set j ((rn A B hh S (j + 1)).1 : Int) = fill F (j + 1)) := FS.out j hlt
      generalize S.getD j 0 = x at *
      go_wp2_with fail
      refine H1.out.mono ?_
      rintro e w5 ⟨rfl, hk5, hg5⟩
      have K5 : Hid (Bx w5 W.heap.size (.slice sA na cA) (.slice sB nb cB) (hh : Int) ((rn A B hh S (j + 1)).1 : Int) ((rn A B hh S (j + 1)).2 : Int)) := hk5
      have R5 : Hid (w5.ownsRow (W.heap.size + 1) 2 1 (.slice (some ⟨W.heap.size + 1, 0, none⟩) n n) n (ints (fill F j))) := row_off R.out hg5 (fun k j hk hj => by simp [Value.ownBlock] at hk; simp at hj; omega)
      have B5 : Hid (Below W.heap.size W w5) := BB.out.grown hg5 BB.out.size (fun k hk => by simp at hk; omega)
      clear hk5 hg5 R K BB H1 q
      obtain ⟨c0, c1, c2, c3, c4, f3, f4⟩ := K5.out.cells
      have d1 : ∃ z, w5.cell? ⟨W.heap.size + 1, j, none⟩ = some (.int .i64 z) := by
        have := R5.out.cellAt j (by omega)
        rw [this]
        have hl : j < (fill F j).length := by rw [FL.out]; exact hlt
        exact ⟨(fill F j)[j], by simp [ints, List.getElem?_map, List.getElem?_eq_getElem hl]⟩
      obtain ⟨z, d1⟩ := d1
      have d2 : w5.frozen? ⟨W.heap.size + 1, j, none⟩ = false := R5.out.frozenAt j
      have R6 : Hid ((w5.setCell ⟨W.heap.size + 1, j, none⟩ (.int .i64 ((rn A B hh S (j + 1)).1 : Int))).ownsRow (W.heap.size + 1) 2 1 (.slice (some ⟨W.heap.size + 1, 0, none⟩) n n) n (ints (fill F (j + 1)))) := (by
        show World.ownsRow _ _ _ _ _ _ _
        rw [← FS1.out, ← Lists.ints_set]
        exact (R5.out.stored j _).1)
      have B6 : Hid (Below W.heap.size W (w5.setCell ⟨W.heap.size + 1, j, none⟩ (.int .i64 ((rn A B hh S (j + 1)).1 : Int)))) := B5.out.setCell (p := ⟨W.heap.size + 1, j, none⟩) (by show W.heap.size ≤ W.heap.size + 1; omega) _
      have K6 : Hid (Bx (w5.setCell ⟨W.heap.size + 1, j, none⟩ (.int .i64 ((rn A B hh S (j + 1)).1 : Int))) W.heap.size (.slice sA na cA) (.slice sB nb cB) (hh : Int) ((rn A B hh S (j + 1)).1 : Int) ((rn A B hh S (j + 1)).2 : Int)) := K5.out.apart (Lists.grown_setCell (World.grownBy.refl _ _) j _) (by simp)
      clear FS1
      obtain ⟨l, hl⟩ : ∃ l, l = (rn A B hh S (j + 1)).1 := ⟨_, rfl⟩
      have HL : Hid (l = (rn A B hh S (j + 1)).1) := hl
      rw [← hl] at HR c3 R6 B6 K6
      clear hl K5 R5 B5
      go_wp2_with fail
      go_roundw
      case rel => exact ⟨j + 1, by omega, by go_num, R6, by rw [← HL.out]; exact K6, B6⟩
      case measure => simp [intOf]; omega
    · have hjn : j = n := by omega
      subst hjn
      have BE : Hid (Below w1.heap.size w1 wr) := BW.out.trans (BB.out.mono (by rw [ZW.out]; exact Nat.le_refl _))
      have RE : Hid (wr.ownsRow w1.heap.size 2 1 (.slice (some ⟨W.heap.size + 1, 0, none⟩) j j) j (ints F)) := (by
        have := R.out
        rw [FA.out] at this
        exact row_low this (by rw [ZW.out]; omega))
      clear R
      go_wp2_with fail
      go_ret2
      exact ⟨_, rfl, RE.out, BE.out⟩
end Go.Proofs.Ytlegcimlhgkibaa.Lv
