/- Headings: the law, walked. -/
import Derived.Test.YtepofpmdkphhdaaDoorHh
import Derived.Test.YtepofpmdkphhdaaDoorHr
namespace Go.Proofs.YtepofpmdkphhdaaDoor.Hd
open Go.ChangeShapes Go.WideShapes Go.ChangeAt Go.RowKit
open Go.Proofs.YtepofpmdkphhdaaDoor.Rd Mk Fig Head
theorem code_on {w w' : World} {a : Option Addr} {n cap : Nat} (h : Rd.Code w a n cap) (hb : Below w.heap.size w w') : Rd.Code w' a n cap := by
  rcases h with h | ⟨b, o, h1, h2, h3, h4, h5⟩
  · exact Or.inl h
  · refine Or.inr ⟨b, o, h1, Nat.lt_of_lt_of_le h2 hb.size, h3, h4, fun i hi => ?_⟩
    obtain ⟨u, g1, g2⟩ := h5 i hi
    exact ⟨u, g1, (hb.cell (p := ⟨b, o + i, none⟩) h2).trans g2⟩
theorem held25 : Tryd.prog.stoodInHeld 25 = false := by kernel_rfl
theorem under25 : Tryd.prog.underlying 25 = some (.struct (Tryd.prog.fieldsOf 25)) := by kernel_rfl
theorem guard25 : Tryd.prog.eqGuardType Tryd.prog.depth 25 = false := by kernel_rfl
theorem neq_same (K A : ByteArray) (n : Int) (C : ByteArray) (d h m : Int) (M : ByteArray) (w : World) : (binOp .neq 25 (hd K A n C d h m M) (hd K A n C d h m M)).run Tryd.prog w = .ok (.bool false) w := by
  rw [run_neq_struct, run_equalIn_struct w 9999 25 _ _ under25 held25]
  simp only [Program.fieldsOf, Tryd.underlying25]
  simp [go_sem, Op.eqFields, part]
theorem eql_same (K A : ByteArray) (n : Int) (C : ByteArray) (d h m : Int) (M : ByteArray) (w : World) : (binOp .eql 25 (hd K A n C d h m M) (hd K A n C d h m M)).run Tryd.prog w = .ok (.bool true) w := by
  rw [run_eql_struct, run_equalIn_struct w 9999 25 _ _ under25 held25]
  simp only [Program.fieldsOf, Tryd.underlying25]
  simp [go_sem, Op.eqFields, part]
theorem eqz : ∀ w, (binOp .eql 25 (hd em em 0 em 0 0 0 em) (hd em em 0 em 0 0 0 em)).run Tryd.prog w = .ok (.bool true) w := fun w => eql_same em em 0 em 0 0 0 em w
theorem ans_or (a b c M : ByteArray) : (∃ x, x ≠ 0 ∧ ansOf a b c M = out x) ∨ ∃ (K A : ByteArray) (n : Int) (C : ByteArray) (d h m : Int) (M' : ByteArray), ansOf a b c M = .tuple #[hd K A n C d h m M', .int .i64 0] := by
  unfold ansOf
  by_cases hz : fl a b c M = 0
  · rw [if_pos hz]; exact Or.inr ⟨_, _, _, _, _, _, _, _, rfl⟩
  · rw [if_neg hz]; exact Or.inl ⟨_, hz, rfl⟩
theorem rd_or (l : List ByteArray) : (∃ x, x ≠ 0 ∧ rd l = out x) ∨ ∃ (K A : ByteArray) (n : Int) (C : ByteArray) (d h m : Int) (M : ByteArray), rd l = .tuple #[hd K A n C d h m M, .int .i64 0] := by
  match l with
  | [] => exact Or.inl ⟨1, by decide, rfl⟩
  | [_] => exact Or.inl ⟨1, by decide, rfl⟩
  | [_, _] => exact Or.inl ⟨1, by decide, rfl⟩
  | [a, b, c] =>
    show (∃ x, x ≠ 0 ∧ (if a.size = 0 ∨ b.size = 0 ∨ c.size = 0 then out 1 else ansOf a b c em) = out x) ∨ ∃ (K A : ByteArray) (n : Int) (C : ByteArray) (d h m : Int) (M : ByteArray), (if a.size = 0 ∨ b.size = 0 ∨ c.size = 0 then out 1 else ansOf a b c em) = .tuple #[hd K A n C d h m M, .int .i64 0]
    split
    · exact Or.inl ⟨1, by decide, rfl⟩
    · exact ans_or a b c em
  | [a, b, c, x] =>
    show (∃ y, y ≠ 0 ∧ (if a.size = 0 ∨ b.size = 0 ∨ c.size = 0 ∨ x.size = 0 then out 1 else ansOf a b c x) = out y) ∨ ∃ (K A : ByteArray) (n : Int) (C : ByteArray) (d h m : Int) (M : ByteArray), (if a.size = 0 ∨ b.size = 0 ∨ c.size = 0 ∨ x.size = 0 then out 1 else ansOf a b c x) = .tuple #[hd K A n C d h m M, .int .i64 0]
    split
    · exact Or.inl ⟨1, by decide, rfl⟩
    · exact ans_or a b c x
  | _ :: _ :: _ :: _ :: _ :: _ => exact Or.inl ⟨1, by decide, rfl⟩
theorem small_of (K A : ByteArray) (n : Int) (C : ByteArray) (d h m : Int) (M : ByteArray) (hz : fault K A n C d h m M = 0) : K.size ≤ 4 ∧ A.size ≤ 4 := by
  obtain ⟨f1, f2, _⟩ := fault_zero hz
  omega
set_option maxRecDepth 20000 in
set_option maxHeartbeats 8000000 in
theorem headLaw (a : Option Addr) (n0 cap : Nat) (a1 : Option Addr) (n1 cap1 : Nat) (w : World) (hT0 : Tb w) (hc : Rd.Code w a n0 cap) (hn0 : n0 ≤ 1048576) (hc1 : Rd.Code w a1 n1 cap1) (hn1 : n1 ≤ 1048576) :
    Calls Tryd.prog 3 #[.slice a n0 cap, .slice a1 n1 cap1] w fun e w' => e = .returned (.bool true) ∧ Below w.heap.size w w' := by
  have DH : Hid (Calls Tryd.prog 5 #[.slice a n0 cap] w fun e w' => ∃ (K A : ByteArray) (n : Int) (C : ByteArray) (d h m : Int) (M : ByteArray), e = .returned (hd K A n C d h m M) ∧ K.size ≤ 4 ∧ A.size ≤ 4 ∧ Below w.heap.size w w') := drawh_any a n0 cap w hc hn0 small_of
  have DR : Hid (∀ w', Below w.heap.size w w' → Calls Tryd.prog 9 #[.slice a1 n1 cap1] w' fun e w'' => (∃ t : ByteArray, e = .returned (.string t) ∧ t.size ≤ 1000) ∧ Below w'.heap.size w' w'') := fun w' hb => drawr_any a1 n1 cap1 w' (code_on hc1 hb) hn1
  have hT : Hid (Tb w) := hT0
  have G25 := guard25
  clear hc hc1 hT0
  go_enter Tryd.func3, Tryd.ntmps3
  go_wp2_with fail
  refine (Rd.big_no a n0 cap w hn0).mono ?_
  rintro e w0 ⟨rfl, hw⟩
  have hw' := hw.symm
  subst hw'
  clear hw
  go_wp2_with fail
  refine (Rd.big_no a1 n1 cap1 w hn1).mono ?_
  rintro e w0 ⟨rfl, hw⟩
  have hw' := hw.symm
  subst hw'
  clear hw
  go_wp2_with fail
  refine DH.out.mono ?_
  rintro e w1 ⟨K, A, n, C, d, h, m, M, rfl, hk, ha, b1⟩
  have L1 : Hid (Below w.heap.size w w1) := b1
  obtain ⟨w2, hw2⟩ : ∃ w2, w2 = w1.alloc (.cells #[.string K, .string A, .int .i64 n, .string C, .int .i64 d, .int .i64 h, .int .i64 m, .string M] 25) := ⟨_, rfl⟩
  have HW2 : Hid (w2 = w1.alloc (.cells #[.string K, .string A, .int .i64 n, .string C, .int .i64 d, .int .i64 h, .int .i64 m, .string M] 25)) := hw2
  have L2 : Hid (Below w.heap.size w w2) := (by show Below _ _ _; rw [hw2]; exact b1.alloc b1.size _)
  have H2 : Hid (HB w2 w1.heap.size K A n C d h m M) := (by show HB _ _ _ _ _ _ _ _ _ _; rw [hw2]; exact heap_alloc_new w1 _)
  clear b1 DH hw2
  go_upto_region 4 with fail
  rw [← HW2.out]
  clear HW2 L1
  generalize w1.heap.size = g at *
  obtain ⟨e0, e1, e2, e3, e4, e5, e6, e7, -⟩ := H2.out.cells
  by_cases hz : fault K A n C d h m M = 0
  · obtain ⟨s6, i7, hl1, hl2⟩ := text_yes hz
    have hrd := read_text hz
    obtain ⟨T, hTT⟩ : ∃ T : ByteArray, T = ⟨(htx K A n C d h m M).toArray⟩ := ⟨_, rfl⟩
    have S6 : Hid (∀ w, Calls Tryd.prog 6 #[hd K A n C d h m M] w fun e w' => e = .returned (.tuple #[.string T, .bool true]) ∧ Below w.heap.size w w') := (by rw [hTT]; exact s6)
    have I7 : Hid (∀ w', Below w.heap.size w w' → Calls Tryd.prog 7 #[hd K A n C d h m M] w' fun e w'' => e = .returned (.tuple #[.string T, .bool true]) ∧ Below w'.heap.size w' w'') := (by rw [hTT]; exact fun w' hb => i7 w' (Tb.keep _ _ hT.out hb))
    rw [← hTT] at hrd
    have sT : T.size ≤ 1048576 := by rw [hTT]; have : (⟨(htx K A n C d h m M).toArray⟩ : ByteArray).size = (htx K A n C d h m M).length := by simp [ByteArray.size]
                                     omega
    obtain ⟨v0, hv0, _, i80⟩ := both_rd T sT
    rw [hrd] at hv0
    subst hv0
    have I80 : Hid (∀ w, Calls Tryd.prog 8 #[.string T] w fun e w' => e = .returned (.tuple #[hd K A n C d h m M, .int .i64 0]) ∧ Below w.heap.size w w') := i80
    clear s6 i7 hl1 hl2 hrd hTT i80 hz sT
    have TT : (T.toList != T.toList) = false := by simp
    have NS : ∀ w, (binOp .neq 25 (hd K A n C d h m M) (hd K A n C d h m M)).run Tryd.prog w = .ok (.bool false) w := fun w => neq_same K A n C d h m M w
    go_wp2_with fail
    refine (S6.out _).mono ?_
    rintro e w3 ⟨rfl, b3⟩
    have L3 : Hid (Below w.heap.size w w3) := L2.out.trans (b3.mono L2.out.size)
    have H3 : Hid (HB w3 g K A n C d h m M) := H2.out.on b3 H2.out.lt
    clear b3 e0 e1 e2 e3 e4 e5 e6 e7 H2
    obtain ⟨e0, e1, e2, e3, e4, e5, e6, e7, -⟩ := H3.out.cells
    go_wp2_with fail
    refine (I7.out _ L3.out).mono ?_
    rintro e w4 ⟨rfl, b4⟩
    have L4 : Hid (Below w.heap.size w w4) := L3.out.trans (b4.mono L3.out.size)
    have H4 : Hid (HB w4 g K A n C d h m M) := H3.out.on b4 H3.out.lt
    clear b4 e0 e1 e2 e3 e4 e5 e6 e7 H3
    go_wp2_with fail
    refine (I80.out _).mono ?_
    rintro e w40 ⟨rfl, b40⟩
    have H40 : HB w40 g K A n C d h m M := H4.out.on b40 H4.out.lt
    have L40 : Below w.heap.size w w40 := L4.out.trans (b40.mono L4.out.size)
    obtain ⟨w41, hw41⟩ : ∃ w41, w41 = w40.alloc (.cells #[.string K, .string A, .int .i64 n, .string C, .int .i64 d, .int .i64 h, .int .i64 m, .string M] 25) := ⟨_, rfl⟩
    have HW41 : Hid (w41 = w40.alloc (.cells #[.string K, .string A, .int .i64 n, .string C, .int .i64 d, .int .i64 h, .int .i64 m, .string M] 25)) := hw41
    have H41 : HB w41 g K A n C d h m M := by rw [hw41]; exact blk_alloc H40 _
    have N41 : HB w41 w40.heap.size K A n C d h m M := by rw [hw41]; exact heap_alloc_new w40 _
    have L41 : Hid (Below w.heap.size w w41) := (by show Below _ _ _; rw [hw41]; exact L40.alloc L40.size _)
    clear b40 H40 L40 hw41
    go_upto_region 10 with fail
    rw [← HW41.out]
    clear HW41
    generalize w40.heap.size = g2 at *
    obtain ⟨e0, e1, e2, e3, e4, e5, e6, e7, -⟩ := H41.cells
    obtain ⟨c0, c1, c2, c3, c4, c5, c6, c7, -⟩ := N41.cells
    go_upto_region 12 with fail
    clear e0 e1 e2 e3 e4 e5 e6 e7 c0 c1 c2 c3 c4 c5 c6 c7 H41 N41 H4 TT NS
    go_wp2_with fail
    refine (DR.out w41 L41.out).mono ?_
    rintro e w5 ⟨⟨t, rfl, ht⟩, b5⟩
    have L5 : Hid (Below w.heap.size w w5) := L41.out.trans (b5.mono L41.out.size)
    obtain ⟨v, hv, s10, i8⟩ := both_rd t (by omega)
    clear b5
    rcases rd_or (pcs t) with ⟨x, hx, ho⟩ | ⟨K2, A2, n2, C2, d2, h2, m2, M2, ho⟩
    · rw [ho] at hv
      subst hv
      have S10 : Hid (∀ w, Calls Tryd.prog 10 #[.string t] w fun e w' => e = .returned (.tuple #[hd em em 0 em 0 0 0 em, .int .i64 x]) ∧ Below w.heap.size w w') := s10
      have I8 : Hid (∀ w, Calls Tryd.prog 8 #[.string t] w fun e w' => e = .returned (.tuple #[hd em em 0 em 0 0 0 em, .int .i64 x]) ∧ Below w.heap.size w w') := i8
      clear s10 i8 ho
      have x0 : (x != 0) = true := by simp [hx]
      have xx : (x != x) = false := by simp
      have EZ := eqz
      go_wp2_with fail
      refine (S10.out _).mono ?_
      rintro e w6 ⟨rfl, b6⟩
      have L6 : Hid (Below w.heap.size w w6) := L5.out.trans (b6.mono L5.out.size)
      clear b6
      go_wp2_with fail
      refine (I8.out _).mono ?_
      rintro e w7 ⟨rfl, b7⟩
      have L7 : Hid (Below w.heap.size w w7) := (L6.out.alloc L6.out.size _).trans (b7.mono (by have := L6.out.size; simp; omega))
      have L8 : Hid (Below w.heap.size w (w7.alloc (.cells #[.string em, .string em, .int .i64 0, .string em, .int .i64 0, .int .i64 0, .int .i64 0, .string em] 25))) := L7.out.alloc L7.out.size _
      clear b7
      go_wp2_with fail
      go_ret
      exact ⟨rfl, L8.out⟩
    · rw [ho] at hv
      subst hv
      have S10 : Hid (∀ w, Calls Tryd.prog 10 #[.string t] w fun e w' => e = .returned (.tuple #[hd K2 A2 n2 C2 d2 h2 m2 M2, .int .i64 0]) ∧ Below w.heap.size w w') := s10
      have I8 : Hid (∀ w, Calls Tryd.prog 8 #[.string t] w fun e w' => e = .returned (.tuple #[hd K2 A2 n2 C2 d2 h2 m2 M2, .int .i64 0]) ∧ Below w.heap.size w w') := i8
      obtain ⟨hz2, ht2⟩ := text_read ho
      have I7 : Hid (∀ w', Below w.heap.size w w' → Calls Tryd.prog 7 #[hd K2 A2 n2 C2 d2 h2 m2 M2] w' fun e w'' => e = .returned (.tuple #[.string t, .bool true]) ∧ Below w'.heap.size w' w'') := fun w' hb => (by
        have := (text_yes hz2).2.1 w' (Tb.keep _ _ hT.out hb)
        unfold sb at this
        rw [ht2] at this
        exact this)
      clear s10 i8 ho hz2 ht2
      have tt : (t.toList == t.toList) = true := by simp
      go_wp2_with fail
      refine (S10.out _).mono ?_
      rintro e w6 ⟨rfl, b6⟩
      have L6 : Hid (Below w.heap.size w w6) := L5.out.trans (b6.mono L5.out.size)
      clear b6
      go_wp2_with fail
      refine (I8.out _).mono ?_
      rintro e w7 ⟨rfl, b7⟩
      have L7 : Hid (Below w.heap.size w w7) := (L6.out.alloc L6.out.size _).trans (b7.mono (by have := L6.out.size; simp; omega))
      have L8 : Hid (Below w.heap.size w (w7.alloc (.cells #[.string K2, .string A2, .int .i64 n2, .string C2, .int .i64 d2, .int .i64 h2, .int .i64 m2, .string M2] 25))) := L7.out.alloc L7.out.size _
      clear b7
      go_wp2_with fail
      refine (I7.out _ L8.out).mono ?_
      rintro e w9 ⟨rfl, b9⟩
      have L9 : Hid (Below w.heap.size w w9) := L8.out.trans (b9.mono L8.out.size)
      clear b9
      go_wp2_with fail
      go_ret
      exact ⟨rfl, L9.out⟩
  · obtain ⟨s6, i7⟩ := text_no hz hk ha
    have S6 : Hid (∀ w, Calls Tryd.prog 6 #[hd K A n C d h m M] w fun e w' => e = .returned (.tuple #[.string ⟨#[]⟩, .bool false]) ∧ Below w.heap.size w w') := s6
    have I7 : Hid (∀ w, Calls Tryd.prog 7 #[hd K A n C d h m M] w fun e w' => e = .returned (.tuple #[.string ⟨#[]⟩, .bool false]) ∧ Below w.heap.size w w') := i7
    clear s6 i7 hz
    go_wp2_with fail
    refine (S6.out _).mono ?_
    rintro e w3 ⟨rfl, b3⟩
    have L3 : Hid (Below w.heap.size w w3) := L2.out.trans (b3.mono L2.out.size)
    have H3 : Hid (HB w3 g K A n C d h m M) := H2.out.on b3 H2.out.lt
    clear b3 e0 e1 e2 e3 e4 e5 e6 e7 H2
    obtain ⟨e0, e1, e2, e3, e4, e5, e6, e7, -⟩ := H3.out.cells
    go_wp2_with fail
    refine (I7.out _).mono ?_
    rintro e w4 ⟨rfl, b4⟩
    have L4 : Hid (Below w.heap.size w w4) := L3.out.trans (b4.mono L3.out.size)
    clear b4 e0 e1 e2 e3 e4 e5 e6 e7 H3
    go_wp2_with fail
    refine (DR.out w4 L4.out).mono ?_
    rintro e w5 ⟨⟨t, rfl, ht⟩, b5⟩
    have L5 : Hid (Below w.heap.size w w5) := L4.out.trans (b5.mono L4.out.size)
    obtain ⟨v, hv, s10, i8⟩ := both_rd t (by omega)
    clear b5
    rcases rd_or (pcs t) with ⟨x, hx, ho⟩ | ⟨K2, A2, n2, C2, d2, h2, m2, M2, ho⟩
    · rw [ho] at hv
      subst hv
      have S10 : Hid (∀ w, Calls Tryd.prog 10 #[.string t] w fun e w' => e = .returned (.tuple #[hd em em 0 em 0 0 0 em, .int .i64 x]) ∧ Below w.heap.size w w') := s10
      have I8 : Hid (∀ w, Calls Tryd.prog 8 #[.string t] w fun e w' => e = .returned (.tuple #[hd em em 0 em 0 0 0 em, .int .i64 x]) ∧ Below w.heap.size w w') := i8
      clear s10 i8 ho
      have x0 : (x != 0) = true := by simp [hx]
      have xx : (x != x) = false := by simp
      have EZ := eqz
      go_wp2_with fail
      refine (S10.out _).mono ?_
      rintro e w6 ⟨rfl, b6⟩
      have L6 : Hid (Below w.heap.size w w6) := L5.out.trans (b6.mono L5.out.size)
      clear b6
      go_wp2_with fail
      refine (I8.out _).mono ?_
      rintro e w7 ⟨rfl, b7⟩
      have L7 : Hid (Below w.heap.size w w7) := (L6.out.alloc L6.out.size _).trans (b7.mono (by have := L6.out.size; simp; omega))
      have L8 : Hid (Below w.heap.size w (w7.alloc (.cells #[.string em, .string em, .int .i64 0, .string em, .int .i64 0, .int .i64 0, .int .i64 0, .string em] 25))) := L7.out.alloc L7.out.size _
      clear b7
      go_wp2_with fail
      go_ret
      exact ⟨rfl, L8.out⟩
    · rw [ho] at hv
      subst hv
      have S10 : Hid (∀ w, Calls Tryd.prog 10 #[.string t] w fun e w' => e = .returned (.tuple #[hd K2 A2 n2 C2 d2 h2 m2 M2, .int .i64 0]) ∧ Below w.heap.size w w') := s10
      have I8 : Hid (∀ w, Calls Tryd.prog 8 #[.string t] w fun e w' => e = .returned (.tuple #[hd K2 A2 n2 C2 d2 h2 m2 M2, .int .i64 0]) ∧ Below w.heap.size w w') := i8
      obtain ⟨hz2, ht2⟩ := text_read ho
      have I7 : Hid (∀ w', Below w.heap.size w w' → Calls Tryd.prog 7 #[hd K2 A2 n2 C2 d2 h2 m2 M2] w' fun e w'' => e = .returned (.tuple #[.string t, .bool true]) ∧ Below w'.heap.size w' w'') := fun w' hb => (by
        have := (text_yes hz2).2.1 w' (Tb.keep _ _ hT.out hb)
        unfold sb at this
        rw [ht2] at this
        exact this)
      clear s10 i8 ho hz2 ht2
      have tt : (t.toList == t.toList) = true := by simp
      go_wp2_with fail
      refine (S10.out _).mono ?_
      rintro e w6 ⟨rfl, b6⟩
      have L6 : Hid (Below w.heap.size w w6) := L5.out.trans (b6.mono L5.out.size)
      clear b6
      go_wp2_with fail
      refine (I8.out _).mono ?_
      rintro e w7 ⟨rfl, b7⟩
      have L7 : Hid (Below w.heap.size w w7) := (L6.out.alloc L6.out.size _).trans (b7.mono (by have := L6.out.size; simp; omega))
      have L8 : Hid (Below w.heap.size w (w7.alloc (.cells #[.string K2, .string A2, .int .i64 n2, .string C2, .int .i64 d2, .int .i64 h2, .int .i64 m2, .string M2] 25))) := L7.out.alloc L7.out.size _
      clear b7
      go_wp2_with fail
      refine (I7.out _ L8.out).mono ?_
      rintro e w9 ⟨rfl, b9⟩
      have L9 : Hid (Below w.heap.size w w9) := L8.out.trans (b9.mono L8.out.size)
      clear b9
      go_wp2_with fail
      go_ret
      exact ⟨rfl, L9.out⟩
set_option maxHeartbeats 1000000 in
theorem headAll (a : Option Addr) (n0 cap : Nat) (a1 : Option Addr) (n1 cap1 : Nat) (w : World) (hT : Tb w) (hc : Rd.Code w a n0 cap) (hn0 : n0 < 9223372036854775808) (hc1 : Rd.Code w a1 n1 cap1) (hn1 : n1 < 9223372036854775808) :
    Calls Tryd.prog 3 #[.slice a n0 cap, .slice a1 n1 cap1] w fun e w' => e = .returned (.bool true) ∧ Below w.heap.size w w' := by
  by_cases h : n0 ≤ 1048576
  · by_cases h1 : n1 ≤ 1048576
    · exact headLaw a n0 cap a1 n1 cap1 w hT hc h hc1 h1
    · go_enter Tryd.func3, Tryd.ntmps3
      go_wp2_with fail
      refine (Rd.big_no a n0 cap w h).mono ?_
      rintro e w0 ⟨rfl, hw⟩
      have hw' := hw.symm
      subst hw'
      go_wp2_with fail
      refine (Rd.big_yes a1 n1 cap1 w (by omega) hn1).mono ?_
      rintro e w0 ⟨rfl, hw⟩
      have hw' := hw.symm
      subst hw'
      go_wp2_with fail
      go_ret
      exact ⟨rfl, Below.refl _ _⟩
  · go_enter Tryd.func3, Tryd.ntmps3
    go_wp2_with fail
    refine (Rd.big_yes a n0 cap w (by omega) hn0).mono ?_
    rintro e w0 ⟨rfl, hw⟩
    have hw' := hw.symm
    subst hw'
    go_wp2_with fail
    go_ret
    exact ⟨rfl, Below.refl _ _⟩
end Go.Proofs.YtepofpmdkphhdaaDoor.Hd
