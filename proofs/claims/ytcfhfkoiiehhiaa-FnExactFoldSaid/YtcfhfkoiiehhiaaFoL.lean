/- The law FnExactFold walked. -/
import Derived.Test.YtcfhfkoiiehhiaaFoI
import Derived.Test.YtcfhfkoiiehhiaaRunf
namespace Go.Proofs.Ytcfhfkoiiehhiaa.Ru
open Go.ChangeShapes Go.WideShapes Go.ChangeAt Go.RowKit

set_option maxHeartbeats 1000000 in
theorem sfold_no (s : ByteArray) (b : Int) (w : World) (h : b < 8 ∨ 200 < b ∨ 20000 < s.size) :
    Calls Try.prog 7 #[.string s, .int .i64 b] w fun e w' => ∃ v, e = .returned v ∧ w'.ownsRow w.heap.size 9 1 v ([] : List ByteArray).length (strs []) ∧ Below w.heap.size w w' := by
  have R0 : Hid ((w.alloc (.cells #[] 9)).ownsRow w.heap.size 9 1 (.slice (some ⟨w.heap.size, 0, none⟩) 0 0) ([] : List ByteArray).length (strs [])) := empty_row 9 w _ (Nat.le_refl _)
  by_cases h1 : b < 8
  · clear h
    go_enter Try.func7, Try.ntmps7
    go_wp2_with fail
    go_ret
    exact ⟨_, rfl, R0.out, (Below.refl _ _).alloc (Nat.le_refl _) _⟩
  · by_cases h2 : 200 < b
    · clear h
      go_enter Try.func7, Try.ntmps7
      go_wp2_with fail
      go_ret
      exact ⟨_, rfl, R0.out, (Below.refl _ _).alloc (Nat.le_refl _) _⟩
    · have h3 : (20000 : Int) < (s.size : Int) := by omega
      clear h
      go_enter Try.func7, Try.ntmps7
      go_wp2_with fail
      go_ret
      exact ⟨_, rfl, R0.out, (Below.refl _ _).alloc (Nat.le_refl _) _⟩
set_option maxHeartbeats 1000000 in
theorem ifold_no (s : ByteArray) (b : Int) (w : World) (h : b < 8 ∨ 200 < b ∨ 20000 < s.size) :
    Calls Try.prog 8 #[.string s, .int .i64 b] w fun e w' => ∃ v, e = .returned v ∧ w'.ownsRow w.heap.size 9 1 v ([] : List ByteArray).length (strs []) ∧ Below w.heap.size w w' := by
  have R0 : Hid (w.ownsRow w.heap.size 9 1 (.slice none 0 0) ([] : List ByteArray).length (strs [])) := World.ownsRow_nil _ _ _ _
  have WI' : Hid (∀ w, Calls Try.prog 20 #[.int .i64 b, .int .i64 8, .int .i64 200] w fun e w' => e = .returned (.bool (decide (8 ≤ b) && decide (b ≤ 200))) ∧ w' = w) := fun w => iwithin b 8 200 w
  have hB : (decide (8 ≤ b) && decide (b ≤ 200)) = false ∨ (decide (8 ≤ b) && decide (b ≤ 200)) = true ∧ (20000 : Int) < (s.size : Int) := by
    by_cases c : 8 ≤ b ∧ b ≤ 200
    · exact .inr ⟨by rw [decide_eq_true c.1, decide_eq_true c.2]; rfl, by omega⟩
    · refine .inl ?_
      rw [Bool.and_eq_false_iff, decide_eq_false_iff_not, decide_eq_false_iff_not]
      omega
  generalize (decide (8 ≤ b) && decide (b ≤ 200)) = B at *
  clear h
  rcases hB with hB | ⟨hB, h3⟩
  all_goals
    subst hB
    go_enter Try.func8, Try.ntmps8
    go_wp2_with fail
    refine (WI'.out _).mono ?_
    rintro e wz ⟨rfl, hw⟩
    have hw' := hw.symm
    subst hw'
    clear hw
    go_wp2_with fail
    go_ret
    exact ⟨_, rfl, R0.out, Below.refl _ _⟩

/-- Both fold a text into the same lines. -/
theorem both_fold (s : ByteArray) (b : Int) (hs : s.size ≤ 1048576) : ∃ L : List ByteArray, L.length ≤ 100000 ∧
    (∀ w, Calls Try.prog 7 #[.string s, .int .i64 b] w fun e w' => ∃ v, e = .returned v ∧ w'.ownsRow w.heap.size 9 1 v L.length (strs L) ∧ Below w.heap.size w w') ∧
    (∀ w, Calls Try.prog 8 #[.string s, .int .i64 b] w fun e w' => ∃ v, e = .returned v ∧ w'.ownsRow w.heap.size 9 1 v L.length (strs L) ∧ Below w.heap.size w w') := by
  by_cases h : b < 8 ∨ 200 < b ∨ 20000 < s.size
  · exact ⟨[], by decide, fun w => sfold_no s b w h, fun w => ifold_no s b w h⟩
  · obtain ⟨c, rfl⟩ : ∃ c : Nat, b = c := ⟨b.toNat, by omega⟩
    refine ⟨(fld c (wordsB s)).1, ?_, fun w => sfold s c w (by omega) (by omega) (by omega) fun x hx p w hp => rune_any x p w (by omega) hp, fun w => ifold s c w (by omega) (by omega) (by omega)⟩
    have f := (finv c (by omega) (wordsB s)).len
    have := words_bnd s
    omega

theorem row_belowB {w w' : World} {B base n : Nat} {e : TypeId} {v : Value} {xs : List Value} (h : w.ownsRow base e 1 v n xs) (hlt : ∀ k, v.ownBlock = some k → k < B) (hb : Below B w w') : w'.ownsRow base e 1 v n xs := by
  refine ⟨h.1, ?_⟩
  rcases h.2 with h | ⟨g, cap, cur, h1, h2, h3, h4⟩
  · exact .inl h
  · refine .inr ⟨g, cap, cur, h1, h2, ?_, h4⟩
    rw [hb.block g (hlt g (by rw [h1]; rfl))]
    exact h3
theorem belowD {B : Nat} {a w : World} (h : Below B a w) (n : Nat) : Below B a (w.drewN n) := ⟨h.os, h.tape, h.output, h.size, h.block⟩

set_option maxHeartbeats 4000000 in
theorem foldLaw (s : ByteArray) (b : Int) (w : World) : Calls Try.prog 4 #[.string s, .int .i64 b] w fun e w' => e = .returned (.bool true) ∧ Below w.heap.size w w' := by
  by_cases h : 1048576 < s.size
  · go_enter Try.func4, Try.ntmps4
    go_wp2
    go_ret
    exact ⟨rfl, Below.refl _ _⟩
  · obtain ⟨L, hL, h1, h2⟩ := both_fold s b (by omega)
    have H1 : Hid (∀ w, Calls Try.prog 7 #[.string s, .int .i64 b] w fun e w' => ∃ v, e = .returned v ∧ w'.ownsRow w.heap.size 9 1 v L.length (strs L) ∧ Below w.heap.size w w') := h1
    have H2 : Hid (∀ w, Calls Try.prog 8 #[.string s, .int .i64 b] w fun e w' => ∃ v, e = .returned v ∧ w'.ownsRow w.heap.size 9 1 v L.length (strs L) ∧ Below w.heap.size w w') := h2
    have EQ : Hid (∀ (w : World) (b1 b2 : Nat) (v1 v2 : Value), w.ownsRow b1 9 1 v1 L.length (strs L) → w.ownsRow b2 9 1 v2 L.length (strs L) → Calls Try.prog 9 #[v1, v2] w fun e w' => e = .returned (.bool true) ∧ ∃ n, w' = w.drewN n) := fun w b1 b2 v1 v2 x y => seq_same w b1 b2 v1 v2 L x y
    have MK : Hid (∀ (w : World) (B base : Nat) (v : Value), B ≤ base → B ≤ w.heap.size → w.ownsRow base 9 1 v L.length (strs L) → Calls Try.prog 10 #[v, .int .i64 1] w fun e w' => e = .returned (.int .i64 (1 + L.length)) ∧ w'.ownsRow base 9 1 v L.length (strs (ssq L.length)) ∧ Below B w w') := fun w B base v x y z => smark_any w B base v L x y (by omega) z
    have HE : Hid (∀ (w : World) (base : Nat) (v : Value), w.ownsRow base 9 1 v L.length (strs (ssq L.length)) → Calls Try.prog 11 #[v, .int .i64 1] w fun e w' => e = .returned (.int .i64 (1 + L.length)) ∧ Below w.heap.size w w') := fun w base v x => sheld_any w base v L.length (by omega) x
    clear h1 h2
    obtain ⟨n, hn⟩ : ∃ n, n = L.length := ⟨_, rfl⟩
    rw [← hn] at H1 H2 EQ MK HE hL
    clear hn
    have n1 : ¬ (1 : Int) + (n : Int) < 0 := by omega
    have n2 : ((1 : Int) + (n : Int) != 1 + (n : Int)) = false := by simp
    go_enter Try.func4, Try.ntmps4
    go_wp2_with fail
    refine (H1.out _).mono ?_
    rintro e w1 ⟨v0, rfl, r1, b1⟩
    have R1 : Hid (w1.ownsRow w.heap.size 9 1 v0 n (strs L)) := r1
    have B1 : Hid (Below w.heap.size w w1) := b1
    clear r1 b1
    go_wp2_with fail
    refine (H2.out _).mono ?_
    rintro e w2 ⟨v1, rfl, r2, b2⟩
    have R2 : Hid (w2.ownsRow w1.heap.size 9 1 v1 n (strs L)) := r2
    have R12 : Hid (w2.ownsRow w.heap.size 9 1 v0 n (strs L)) := row_below R1.out b2
    have B2 : Hid (Below w.heap.size w w2) := B1.out.trans (b2.mono B1.out.size)
    have S12 : Hid (w1.heap.size ≤ w2.heap.size) := b2.size
    clear r2 b2
    go_wp2_with fail
    refine (EQ.out _ _ _ _ _ R2.out R12.out).mono ?_
    rintro e w3 ⟨rfl, q3, hw3⟩
    subst hw3
    have R3 : Hid ((w2.drewN q3).ownsRow w1.heap.size 9 1 v1 n (strs L)) := R2.out
    have R13 : Hid ((w2.drewN q3).ownsRow w.heap.size 9 1 v0 n (strs L)) := R12.out
    have B3 : Hid (Below w.heap.size w (w2.drewN q3)) := belowD B2.out q3
    have S13 : Hid (w1.heap.size ≤ (w2.drewN q3).heap.size) := S12.out
    clear R2 R12 B2 S12
    generalize w2.drewN q3 = w3 at *
    go_wp2_with fail
    refine (MK.out _ w1.heap.size _ _ (Nat.le_refl _) S13.out R3.out).mono ?_
    rintro e w4 ⟨rfl, r4, b4⟩
    have R4 : Hid (w4.ownsRow w1.heap.size 9 1 v1 n (strs (ssq n))) := r4
    have R14 : Hid (w4.ownsRow w.heap.size 9 1 v0 n (strs L)) := row_belowB R13.out (fun k hk => (R1.out.lt k hk).2) b4
    have B4 : Hid (Below w.heap.size w w4) := B3.out.trans (b4.mono B1.out.size)
    clear r4 b4 R3 R13 B3
    go_wp2_with fail
    refine (HE.out _ _ _ R4.out).mono ?_
    rintro e w5 ⟨rfl, b5⟩
    have R5 : Hid (w5.ownsRow w1.heap.size 9 1 v1 n (strs (ssq n))) := row_below R4.out b5
    have R15 : Hid (w5.ownsRow w.heap.size 9 1 v0 n (strs L)) := row_below R14.out b5
    have B5 : Hid (Below w.heap.size w w5) := B4.out.trans (b5.mono B4.out.size)
    clear b5 R4 R14 B4
    go_wp2_with fail
    refine (H2.out _).mono ?_
    rintro e w6 ⟨v2, rfl, r6, b6⟩
    have R26 : Hid (w6.ownsRow w5.heap.size 9 1 v2 n (strs L)) := r6
    have R6 : Hid (w6.ownsRow w1.heap.size 9 1 v1 n (strs (ssq n))) := row_below R5.out b6
    have R16 : Hid (w6.ownsRow w.heap.size 9 1 v0 n (strs L)) := row_below R15.out b6
    have B6 : Hid (Below w.heap.size w w6) := B5.out.trans (b6.mono B5.out.size)
    clear r6 b6 R5 R15 B5
    go_wp2_with fail
    refine (EQ.out _ _ _ _ _ R26.out R16.out).mono ?_
    rintro e w7 ⟨rfl, q7, hw7⟩
    subst hw7
    have R7 : Hid ((w6.drewN q7).ownsRow w1.heap.size 9 1 v1 n (strs (ssq n))) := R6.out
    have B7 : Hid (Below w.heap.size w (w6.drewN q7)) := belowD B6.out q7
    clear R6 R26 R16 B6
    generalize w6.drewN q7 = w7 at *
    go_wp2_with fail
    refine (HE.out _ _ _ R7.out).mono ?_
    rintro e w8 ⟨rfl, b8⟩
    have B8 : Hid (Below w.heap.size w w8) := B7.out.trans (b8.mono B7.out.size)
    clear b8 R7 B7
    go_wp2_with fail
    go_ret
    exact ⟨rfl, B8.out⟩
end Go.Proofs.Ytcfhfkoiiehhiaa.Ru
