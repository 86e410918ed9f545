/- The program's Slots, where it makes its list; all cases together. -/
import Derived.Test.YtgahcedndcacdaaSlotsI
namespace Go.Proofs.Ytgahcedndcacdaa.Lists
open Go.ChangeShapes Go.WideShapes Go.ChangeAt Go.RowKit Spans

def fill (A s : Int) (n j : Nat) : List Int := (List.range n).map fun (i : Nat) => if i < j then (A + (i : Int)) * s else 0
theorem fill_len (A s : Int) (n j : Nat) : (fill A s n j).length = n := by simp [fill]
theorem fill_zero (A s : Int) (n : Nat) : (madeCells (Value.int .i64 0).cells (n * 1)).toList = ints (fill A s n 0) := by
  apply List.ext_getElem
  · simp [madeCells, ints, fill]
  · intro i h1 h2
    simp [madeCells, ints, fill, Value.cells, Nat.mod_one]
theorem fill_all (A s : Int) (n : Nat) : fill A s n n = cells A s n := by
  apply List.ext_getElem (by rw [fill_len, cells_len])
  intro i h1 h2
  rw [fill_len] at h1
  simp [fill, cells, h1]
theorem fill_set (A s : Int) (n j : Nat) : (fill A s n j).set j ((A + (j : Int)) * s) = fill A s n (j + 1) := by
  apply List.ext_getElem (by rw [List.length_set, fill_len, fill_len])
  intro i h1 h2
  rw [List.getElem_set]
  by_cases e : j = i
  · subst e; simp [fill]
  · rw [if_neg e]
    simp only [fill, List.getElem_map, List.getElem_range]
    by_cases x : i < j
    · rw [if_pos x, if_pos (by omega)]
    · rw [if_neg x, if_neg (by omega)]

set_option maxHeartbeats 1000000 in
theorem islots_made (f t s : Int) (w : World) (h : okB f t = true) (s1 : 1 ≤ s) (s2 : s ≤ 525600) (hc : up t s - up f s ≤ 1000) :
    Calls Try.prog 6 (args2 f t s) w fun e w' => ∃ v, e = .returned v ∧ w'.ownsRow w.heap.size 2 1 v (up t s - up f s).toNat (ints (cells (up f s) s (up t s - up f s).toNat)) ∧ Below w.heap.size w w' := by
  have hok := h
  simp only [okB, decide_eq_true_eq] at hok
  obtain ⟨f1, f2, t1, t2, ft⟩ := hok
  have u1 := up_bd (n := f) (s := s) (by omega) f1
  have u2 := up_bd (n := t) (s := s) (by omega) t1
  have um := up_mono (a := f) (b := t) (s := s) (by omega) ft
  have OK : Hid (okB f t = true) := h
  obtain ⟨A, hA⟩ : ∃ A, A = up f s := ⟨_, rfl⟩
  obtain ⟨B, hB⟩ : ∃ B, B = up t s := ⟨_, rfl⟩
  rw [← hA] at u1 hc um
  rw [← hB] at u2 hc um
  rw [← hA, ← hB]
  have HA : Hid (∀ w, Calls Try.prog 14 #[.int .i64 f, .int .i64 s] w fun e w' => e = .returned (.int .i64 A) ∧ w' = w) := fun w => by rw [hA]; exact rup_any f s w f1 f2 s1 s2
  have HB : Hid (∀ w, Calls Try.prog 14 #[.int .i64 t, .int .i64 s] w fun e w' => e = .returned (.int .i64 B) ∧ w' = w) := fun w => by rw [hB]; exact rup_any t s w t1 t2 s1 s2
  have a0 := u1.1
  have a1 := u1.2.2
  have b0 := u2.1
  have b1 := u2.2.2
  have b2 := u2.2.1
  obtain ⟨n, hn⟩ : ∃ n : Nat, (n : Int) = B - A := ⟨(B - A).toNat, by omega⟩
  rw [show (B - A).toNat = n by omega]
  obtain ⟨i0, hi, hz0, hz1, hz2⟩ := info_parts Try.info2
  -- no product passes what a time and a step come to
  have prod : ∀ k : Int, 0 ≤ k → k < n → 0 ≤ (A + k) * s ∧ (A + k) * s ≤ 60000000 := by
    intro k k0 k1
    refine ⟨Int.mul_nonneg (by omega) (by omega), ?_⟩
    have : (A + k) * s ≤ B * s := Int.mul_le_mul_of_nonneg_right (by omega) (by omega)
    omega
  have PROD : Hid (∀ k : Int, 0 ≤ k → k < n → 0 ≤ (A + k) * s ∧ (A + k) * s ≤ 60000000) := prod
  have HNB : Hid ((n : Int) = B - A) := hn
  have nb : (n : Int) ≤ 1000 := by omega
  have BA : Hid (B - A = (n : Int)) := hn.symm
  clear u1 u2 h hA hB prod hn b2
  go_enter Try.func6, Try.ntmps6
  go_wp2_with fail
  refine (iok_yes _ _ _ OK.out).mono ?_
  rintro e w1 ⟨rfl, hb⟩
  obtain ⟨g1, g2, g3⟩ := bcell hb
  have bel : Hid (Below w.heap.size w w1) := ((Below.refl _ _).alloc (Nat.le_refl _) _).trans (hb.mono (by simp))
  go_wp2_with (go_at_call 13; refine (win_yes _ _ _ _ s1 s2).mono ?_; rintro e w' ⟨rfl, hw⟩; subst hw)
  refine (HA.out _).mono ?_
  rintro e w2 ⟨rfl, hw2⟩
  subst hw2
  go_wp2_with fail
  refine (HB.out _).mono ?_
  rintro e w3 ⟨rfl, hw3⟩
  subst hw3
  go_wp2_with (at_make; refine wpList_make_full _ rfl _ _ 24 rfl w.heap.size 2 i0 (.int .i64 0) 1 Try.underlying24 hi hz0 hz1 .i64 .i64 (B - A) (B - A) n rfl rfl BA.out BA.out (by rw [hz2]; omega) (by unfold maxLen; omega) (by have := bel.out.size; omega) ?_; intro w4 hown hgrow)
  rw [fill_zero A s n] at hown
  have R0 : Hid (w4.ownsRow w.heap.size 2 1 (.slice (some ⟨w3.heap.size, 0, none⟩) n n) n (ints (fill A s n 0))) := hown
  have B0 : Hid (Below w.heap.size w w4) := bel.out.grown hgrow bel.out.size (fun k hk => by cases hk)
  clear hown hgrow
  go_loopw [8, 32] (fun _ c wr => ∃ j : Nat, j ≤ n ∧ c = .int .i64 j ∧ Hid (wr.ownsRow w.heap.size 2 1 (.slice (some ⟨w3.heap.size, 0, none⟩) n n) n (ints (fill A s n j))) ∧ Hid (Below w.heap.size w wr)) (fun _ c _ => n - (intOf c).toNat)
  case atStart => exact ⟨0, Nat.zero_le _, rfl, R0, B0⟩
  case round =>
    obtain ⟨j, hj, rfl, R, BB⟩ := hrel
    have hBA := BA.out
    have BA2 : Hid (B - A = (n : Int)) := hBA
    by_cases hlt : j < n
    · have i0 : (0 : Int) ≤ (j : Int) := by omega
      have i1 : (j : Int) < (n : Int) := by omega
      have i2 : (j : Int) < B - A := by omega
      have pb := PROD.out j i0 i1
      have q1 : ∃ z, wr.cell? ⟨w3.heap.size, j, none⟩ = some (.int .i64 z) := by
        have := R.out.cellAt j (by omega)
        rw [this]
        have hl : j < (fill A s n j).length := by rw [fill_len]; exact hlt
        exact ⟨(fill A s n j)[j], by simp [ints, List.getElem?_map, List.getElem?_eq_getElem hl]⟩
      obtain ⟨z, q1⟩ := q1
      have q2 : wr.frozen? ⟨w3.heap.size, j, none⟩ = false := R.out.frozenAt j
      have R' : Hid ((wr.setCell ⟨w3.heap.size, j, none⟩ (.int .i64 ((A + j) * s))).ownsRow w.heap.size 2 1 (.slice (some ⟨w3.heap.size, 0, none⟩) n n) n (ints (fill A s n (j + 1)))) := by
        show World.ownsRow _ _ _ _ _ _ _
        rw [← fill_set, ← ints_set]
        exact (R.out.stored j _).1
      have B' : Hid (Below w.heap.size w (wr.setCell ⟨w3.heap.size, j, none⟩ (.int .i64 ((A + j) * s)))) := BB.out.setCell (p := ⟨w3.heap.size, j, none⟩) (by show w.heap.size ≤ w3.heap.size; omega) _
      clear hBA
      go_wp2_with fail
      go_roundw
      case rel => exact ⟨j + 1, by omega, by go_num, R', B'⟩
      case measure => simp [intOf]; omega
    · have hjn : j = n := by omega
      subst hjn
      have i2 : ¬ (j : Int) < B - A := by omega
      have R' : Hid (wr.ownsRow w.heap.size 2 1 (.slice (some ⟨w3.heap.size, 0, none⟩) j j) j (ints (cells A s j))) := by
        have := R.out
        rw [fill_all] at this
        exact this
      clear R hBA
      go_wp2_with fail
      go_ret
      exact ⟨_, rfl, R'.out, BB.out⟩

theorem islots (f t s : Int) (w : World) : Calls Try.prog 6 (args2 f t s) w fun e w' => ∃ v, e = .returned v ∧ w'.ownsRow w.heap.size 2 1 v (slotsOf f t s).length (ints (slotsOf f t s)) ∧ Below w.heap.size w w' := by
  have nil : ∀ (e : Ending) (w' : World), (e = .returned (.slice none 0 0) ∧ Below w.heap.size w w') → slotsOf f t s = [] → ∃ v, e = .returned v ∧ w'.ownsRow w.heap.size 2 1 v (slotsOf f t s).length (ints (slotsOf f t s)) ∧ Below w.heap.size w w' := by
    rintro e w' ⟨rfl, hb⟩ hs
    rw [hs]
    exact ⟨_, rfl, World.ownsRow_nil _ _ _ _, hb⟩
  cases h1 : okB f t
  · exact (islots_no1 f t s w h1).mono fun e w' h => nil e w' h (by simp [slotsOf, h1])
  cases h2 : fit s
  · exact (islots_no2 f t s w h1 h2).mono fun e w' h => nil e w' h (by simp [slotsOf, h2])
  have hs : 1 ≤ s ∧ s ≤ 525600 := by unfold fit at h2; simpa using h2
  by_cases hc : 1000 < up t s - up f s
  · exact (islots_far f t s w h1 hs.1 hs.2 hc).mono fun e w' h => nil e w' h (by simp [slotsOf, hc])
  · refine (islots_made f t s w h1 hs.1 hs.2 (by omega)).mono fun e w' ⟨v, he, ho, hb⟩ => ?_
    have e1 : slotsOf f t s = cells (up f s) s (up t s - up f s).toNat := by simp [slotsOf, h1, h2, hc]
    rw [e1, cells_len]
    exact ⟨v, he, ho, hb⟩
end Go.Proofs.Ytgahcedndcacdaa.Lists
