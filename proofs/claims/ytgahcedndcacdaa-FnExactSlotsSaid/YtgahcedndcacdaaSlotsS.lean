/- The model's Slots: its list. -/
import Derived.Test.YtgahcedndcacdaaSlotsI
namespace Go.Proofs.Ytgahcedndcacdaa.Lists
open Go.ChangeShapes Go.WideShapes Go.ChangeAt Go.RowKit Spans

set_option maxHeartbeats 400000 in
theorem sin_yes (n a b : Int) (w : World) (h1 : a ≤ n) (h2 : n ≤ b) :
    Calls Try.prog 11 #[.int .i64 n, .int .i64 a, .int .i64 b] w fun e w' => e = .returned (.bool true) ∧ w' = w := by
  go_enter Try.func11, Try.ntmps11
  go_wp2
  go_ret
  exact ⟨rfl, rfl⟩
set_option maxHeartbeats 400000 in
theorem sin_no (n a b : Int) (w : World) (h : n < a ∨ b < n) :
    Calls Try.prog 11 #[.int .i64 n, .int .i64 a, .int .i64 b] w fun e w' => e = .returned (.bool false) ∧ w' = w := by
  by_cases h1 : a ≤ n
  · have h2 : decide (n ≤ b) = false := by simp; omega
    clear h
    go_enter Try.func11, Try.ntmps11
    go_wp2
    go_ret
    exact ⟨rfl, rfl⟩
  · have h2 : decide (a ≤ n) = false := by simp; omega
    clear h h1
    go_enter Try.func11, Try.ntmps11
    go_wp2
    go_ret
    exact ⟨rfl, rfl⟩

theorem empty_row {W w1 : World} {base : Nat} (hb : Below (W.alloc (.cells #[] 2)).heap.size (W.alloc (.cells #[] 2)) w1) (h : base ≤ W.heap.size) : w1.ownsRow base 2 1 (.slice (some ⟨W.heap.size, 0, none⟩) 0 0) 0 [] := by
  refine ⟨by simp, .inr ⟨W.heap.size, 0, #[], rfl, h, ?_, Nat.le_refl _, Nat.zero_le _, by simp, by simp⟩⟩
  rw [hb.block W.heap.size (by simp)]
  exact heap_alloc_new W _
theorem row_low {w : World} {base base' n : Nat} {v : Value} {xs : List Value} (h : w.ownsRow base 2 1 v n xs) (hb : base' ≤ base) : w.ownsRow base' 2 1 v n xs := by
  refine ⟨h.1, ?_⟩
  rcases h.2 with h | ⟨g, cap, cur, h1, h2, h3⟩
  · exact .inl h
  · exact .inr ⟨g, cap, cur, h1, Nat.le_trans hb h2, h3⟩
theorem row_form {w : World} {base n : Nat} {v : Value} {xs : List Value} (h : w.ownsRow base 2 1 v n xs) : ∃ a cap, v = .slice a n cap := by
  rcases h.2 with ⟨rfl, rfl⟩ | ⟨g, cap, _, rfl, _⟩
  · exact ⟨_, _, rfl⟩
  · exact ⟨_, _, rfl⟩

theorem below_box {w w1 : World} {a b : Int} (hb : Below ((w.alloc (.cells #[.int .i64 a, .int .i64 b] 26)).alloc (.cells #[] 2)).heap.size ((w.alloc (.cells #[.int .i64 a, .int .i64 b] 26)).alloc (.cells #[] 2)) w1) :
    Below w.heap.size w w1 ∧ w1.ownsRow (w.heap.size + 1) 2 1 (.slice (some ⟨w.heap.size + 1, 0, none⟩) 0 0) 0 [] ∧ w1.cell? ⟨w.heap.size, 0, none⟩ = some (.int .i64 a) ∧ w1.cell? ⟨w.heap.size, 1, none⟩ = some (.int .i64 b) ∧ w.heap.size + 1 < w1.heap.size := by
  have hs := hb.size
  simp at hs
  refine ⟨(((Below.refl _ _).alloc (Nat.le_refl _) _).alloc (by simp) _).trans (hb.mono (by simp; omega)), ?_, ?_, ?_, by omega⟩
  · have e := empty_row (base := w.heap.size + 1) hb (by simp)
    simpa using e
  · rw [hb.cell (by simp; omega)]; simp [go_sem]
  · rw [hb.cell (by simp; omega)]; simp [go_sem]

set_option maxHeartbeats 1000000 in
theorem sslots_no1 (f t s : Int) (w : World) (h : okB f t = false) :
    Calls Try.prog 4 (args2 f t s) w fun e w' => ∃ v, e = .returned v ∧ w'.ownsRow w.heap.size 2 1 v 0 (ints []) ∧ Below w.heap.size w w' := by
  go_enter Try.func4, Try.ntmps4
  go_wp2_with fail
  refine (sok_no _ _ _ h).mono ?_
  rintro e w1 ⟨rfl, hb⟩
  obtain ⟨b1, b2, _, _, _⟩ := below_box hb
  go_wp2_with fail
  go_ret
  exact ⟨_, rfl, row_low b2 (by omega), b1⟩
set_option maxHeartbeats 1000000 in
theorem sslots_no2 (f t s : Int) (w : World) (h : okB f t = true) (h2 : fit s = false) :
    Calls Try.prog 4 (args2 f t s) w fun e w' => ∃ v, e = .returned v ∧ w'.ownsRow w.heap.size 2 1 v 0 (ints []) ∧ Below w.heap.size w w' := by
  have h3 : s < 1 ∨ 525600 < s := by unfold fit at h2; simp at h2; omega
  go_enter Try.func4, Try.ntmps4
  go_wp2_with fail
  refine (sok_yes _ _ _ h).mono ?_
  rintro e w1 ⟨rfl, hb⟩
  obtain ⟨b1, b2, _, _, _⟩ := below_box hb
  go_wp2_with (go_at_call 11; refine (sin_no _ _ _ _ h3).mono ?_; rintro e w' ⟨rfl, hw⟩; subst hw)
  go_ret
  exact ⟨_, rfl, row_low b2 (by omega), b1⟩

theorem ints_snoc (A s : Int) (k : Nat) : ints (cells A s k) ++ [.int .i64 ((A + k) * s)] = ints (cells A s (k + 1)) := by rw [cells_succ]; simp [ints]

set_option maxHeartbeats 1000000 in
theorem sslots_made (f t s : Int) (w : World) (h : okB f t = true) (s1 : 1 ≤ s) (s2 : s ≤ 525600) :
    Calls Try.prog 4 (args2 f t s) w fun e w' => ∃ v, ∃ L : List Int, e = .returned v ∧ L = (if 1000 < up t s - up f s then [] else cells (up f s) s (up t s - up f s).toNat) ∧ w'.ownsRow w.heap.size 2 1 v L.length (ints L) ∧ Below w.heap.size w w' := by
  have hok := h
  simp only [okB, decide_eq_true_eq] at hok
  obtain ⟨f1, f2, t1, t2, ft⟩ := hok
  have hs0 : (s == 0) = false := by simp; omega
  have u1 := up_bd (n := f) (s := s) (by omega) f1
  have um := up_mono (a := f) (b := t) (s := s) (by omega) ft
  have LT : Hid (∀ x : Int, x * s < t ↔ x < up t s) := fun x => up_lt (by omega)
  obtain ⟨A, hA⟩ : ∃ A, A = up f s := ⟨_, rfl⟩
  obtain ⟨B, hB⟩ : ∃ B, B = up t s := ⟨_, rfl⟩
  rw [← hA] at um u1
  rw [← hB] at um LT
  rw [← hA, ← hB]
  have a0 := u1.1
  have a2 := u1.2.1
  have HA : Hid ((f + s - 1) / s * s = (A + ((0 : Nat) : Int)) * s) := (by show _ = _; rw [hA]; simp [up])
  have ab : 0 ≤ (f + s - 1) / s ∧ (f + s - 1) / s ≤ 60000000 := by
    have : up f s = (f + s - 1) / s := rfl
    rw [← this, ← hA]
    exact ⟨a0, by have := u1.2.2; omega⟩
  have ac : 0 ≤ (f + s - 1) / s * s ∧ (f + s - 1) / s * s ≤ 60000000 := by
    have : up f s = (f + s - 1) / s := rfl
    rw [← this, ← hA]
    exact ⟨Int.mul_nonneg a0 (by omega), by omega⟩
  obtain ⟨i0, hi, hz0, hz1, hz2⟩ := info_parts Try.info2
  have OK : Hid (okB f t = true) := h
  clear u1 h hA hB
  go_enter Try.func4, Try.ntmps4
  go_wp2_with fail
  refine (sok_yes _ _ _ OK.out).mono ?_
  rintro e w1 ⟨rfl, hb⟩
  obtain ⟨b1, b2, c0, c1, c2⟩ := below_box hb
  have BB : Hid (Below w.heap.size w w1) := b1
  have RR : Hid (w1.ownsRow (w.heap.size + 1) 2 1 (.slice (some ⟨w.heap.size + 1, 0, none⟩) 0 0) 0 (ints (cells A s 0))) := b2
  clear b1 b2 hb
  go_wp2_with (go_at_call 11; refine (sin_yes _ _ _ _ s1 s2).mono ?_; rintro e w' ⟨rfl, hw⟩; subst hw)
  go_loopw [5, 6] (fun v x wr => ∃ k : Nat, k ≤ 1000 ∧ (k : Int) ≤ B - A ∧ Hid (x = .int .i64 ((A + k) * s)) ∧ Hid (wr.ownsRow (w.heap.size + 1) 2 1 v k (ints (cells A s k))) ∧ Hid (Below w.heap.size w wr) ∧ wr.cell? ⟨w.heap.size, 1, none⟩ = some (.int .i64 t) ∧ w.heap.size + 1 < wr.heap.size) (fun _ x _ => (t + 600000 - intOf x).toNat)
  case atStart => exact ⟨0, by omega, by omega, congrArg (Value.int .i64) HA.out, RR, BB, c1, c2⟩
  case round =>
    obtain ⟨k, hk, hkn, HX, R, BW, cT, hsz⟩ := hrel
    rename_i vv xx
    have hx := HX.out
    subst hx
    obtain ⟨aa, cap, hv⟩ := row_form R.out
    subst hv
    have p0 : 0 ≤ (A + (k : Int)) * s := Int.mul_nonneg (by omega) (by omega)
    have lt := LT.out (A + k)
    have e1 : (A + (k : Int)) * s + s = (A + ((k + 1 : Nat) : Int)) * s := by
      rw [show A + ((k + 1 : Nat) : Int) = A + (k : Int) + 1 by omega, Int.add_mul (A + (k : Int)) 1 s]; omega
    obtain ⟨X, hX⟩ : ∃ X, X = (A + (k : Int)) * s := ⟨_, rfl⟩
    have HX2 : Hid (X = (A + (k : Int)) * s) := hX
    rw [← hX] at p0 lt e1
    have E1 : Hid (X + s = (A + ((k + 1 : Nat) : Int)) * s) := e1
    have LTX : Hid (X < t ↔ A + (k : Int) < B) := lt
    clear e1 lt HX
    rw [← hX]
    clear hX
    by_cases hlt : X < t
    · have hin : A + (k : Int) < B := LTX.out.1 hlt
      by_cases hk1 : k = 1000
      · subst hk1
        have E : Hid ((wr.alloc (.cells #[] 2)).ownsRow w.heap.size 2 1 (.slice (some ⟨wr.heap.size, 0, none⟩) 0 0) 0 []) := empty_row (Below.refl _ _) (by omega)
        have BE : Hid (Below w.heap.size w (wr.alloc (.cells #[] 2))) := BW.out.alloc BW.out.size _
        go_wp2_with fail
        go_ret
        exact ⟨_, rfl, E.out, BE.out⟩
      · have hk2 : ((k : Int) == 1000) = false := by simp; omega
        go_wp2_with (at_builtin; refine wpList_append_own _ rfl _ _ 24 rfl (w.heap.size + 1) 2 i0 (.int .i64 0) 1 8 Try.underlying24 hi hz0 hz1 hz2 rfl (by decide) _ _ _ rfl (R.out.alloc _) ⟨wr.heap.size, 0, none⟩ 1 1 [.int .i64 X] rfl rfl ?c1 ?c2 ?c3 ?c4 ?c5 ?_)
        case c1 =>
          intro j u hj
          match j, hj with
          | 0, hj => simp at hj; subst hj; simp [Addr.add]
        case c2 => intro u hu; simp at hu; subst hu; rfl
        case c3 => unfold maxLen; omega
        case c4 => omega
        case c5 => simp; omega
        · intro v' w2 hown' hgrow _
          have hob : ∀ b, (Value.slice aa k cap).ownBlock = some b → w.heap.size + 1 ≤ b := fun b hb => (R.out.lt b hb).1
          have R' : Hid (w2.ownsRow (w.heap.size + 1) 2 1 v' (k + 1) (ints (cells A s (k + 1)))) := by
            show World.ownsRow _ _ _ _ _ _ _
            rw [← ints_snoc, ← HX2.out]
            exact hown'
          have B' : Hid (Below w.heap.size w w2) := (BW.out.alloc BW.out.size _).grown hgrow (by simp; omega) (fun b hb => by have := hob b hb; omega)
          have cT' : w2.cell? ⟨w.heap.size, 1, none⟩ = some (.int .i64 t) := by
            refine hgrow.cell (a := ⟨w.heap.size, 1, none⟩) ?_ ?_
            · rw [World.cell?_alloc_lt _ _ _ (by show w.heap.size < wr.heap.size; omega)]; exact cT
            · intro e
              have := hob w.heap.size e.symm
              omega
          have sz' : w.heap.size + 1 < w2.heap.size := by
            have := hgrow.size
            simp at this
            omega
          clear hown' hgrow hob R BW cT
          go_wp2_with fail
          go_roundw
          case rel => exact ⟨k + 1, by omega, by omega, congrArg (Value.int .i64) E1.out, R', B', cT', sz'⟩
          case measure => simp [intOf]; omega
    · have hnl : ¬ A + (k : Int) < B := fun x => hlt (LTX.out.2 x)
      have RE : Hid (wr.ownsRow w.heap.size 2 1 (.slice aa k cap) k (ints (cells A s k))) := row_low R.out (by omega)
      clear R
      go_wp2_with fail
      go_ret
      refine ⟨_, rfl, ?_, BW.out⟩
      rw [show (B - A).toNat = k by omega, cells_len]
      exact RE.out

theorem sslots (f t s : Int) (w : World) : Calls Try.prog 4 (args2 f t s) w fun e w' => ∃ v, e = .returned v ∧ w'.ownsRow w.heap.size 2 1 v (slotsOf f t s).length (ints (slotsOf f t s)) ∧ Below w.heap.size w w' := by
  cases h1 : okB f t
  · have e : slotsOf f t s = [] := by simp [slotsOf, h1]
    rw [e]
    exact sslots_no1 f t s w h1
  cases h2 : fit s
  · have e : slotsOf f t s = [] := by simp [slotsOf, h2]
    rw [e]
    exact sslots_no2 f t s w h1 h2
  have hs : 1 ≤ s ∧ s ≤ 525600 := by unfold fit at h2; simpa using h2
  refine (sslots_made f t s w h1 hs.1 hs.2).mono fun e w' ⟨v, L, he, hL, ho, hb⟩ => ?_
  have e1 : slotsOf f t s = L := by rw [hL]; simp [slotsOf, h1, h2]
  rw [e1]
  exact ⟨v, he, ho, hb⟩
end Go.Proofs.Ytgahcedndcacdaa.Lists
