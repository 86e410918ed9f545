/- The program's Slots: its list. -/
import Derived.Test.YtgahcedndcacdaaSpans
import Derived.Test.YtgahcedndcacdaaRowsOf
namespace Go.Proofs.Ytgahcedndcacdaa.Lists
open Go.ChangeShapes Go.WideShapes Go.ChangeAt Go.RowKit Spans

/-- By step, rounded up. -/
def up (n s : Int) : Int := (n + s - 1) / s
theorem up_lt {x n s : Int} (hs : 0 < s) : x * s < n ↔ x < up n s := by
  unfold up
  constructor
  · intro h
    have : x + 1 ≤ (n + s - 1) / s := (Int.le_ediv_iff_mul_le hs).2 (by rw [Int.add_mul]; omega)
    omega
  · intro h
    have : (x + 1) * s ≤ n + s - 1 := (Int.le_ediv_iff_mul_le hs).1 (by omega)
    rw [Int.add_mul] at this
    omega
theorem up_bd {n s : Int} (hs : 0 < s) (h0 : 0 ≤ n) : 0 ≤ up n s ∧ up n s * s ≤ n + s - 1 ∧ up n s ≤ n := by
  refine ⟨Int.ediv_nonneg (by omega) (by omega), ?_, ?_⟩
  · exact (Int.le_ediv_iff_mul_le hs).1 (Int.le_refl _)
  · by_cases h : up n s ≤ n
    · exact h
    · have h1 : n < up n s := by omega
      have := (up_lt (x := n) hs).2 h1
      have : n * 1 ≤ n * s := Int.mul_le_mul_of_nonneg_left (by omega) h0
      omega
theorem up_mono {a b s : Int} (hs : 0 < s) (h : a ≤ b) : up a s ≤ up b s := Int.ediv_le_ediv hs (by omega)

def cells (a s : Int) (n : Nat) : List Int := (List.range n).map fun (i : Nat) => (a + (i : Int)) * s
theorem cells_len (a s : Int) (n : Nat) : (cells a s n).length = n := by simp [cells]
theorem cells_succ (a s : Int) (n : Nat) : cells a s (n + 1) = cells a s n ++ [(a + (n : Int)) * s] := by simp [cells, List.range_succ]

def fit (step : Int) : Bool := decide (1 ≤ step ∧ step ≤ 525600)
def slotsOf (f t s : Int) : List Int := if okB f t && fit s then (if 1000 < up t s - up f s then [] else cells (up f s) s (up t s - up f s).toNat) else []

theorem bcell {W w1 : World} {a b : Int} (hb : Below (W.alloc (.cells #[.int .i64 a, .int .i64 b] 26)).heap.size (W.alloc (.cells #[.int .i64 a, .int .i64 b] 26)) w1) : w1.cell? ⟨W.heap.size, 0, none⟩ = some (.int .i64 a) ∧ w1.cell? ⟨W.heap.size, 1, none⟩ = some (.int .i64 b) ∧ W.heap.size < w1.heap.size := by
  have hs := hb.size
  simp at hs
  refine ⟨?_, ?_, by omega⟩
  · rw [hb.cell (by simp)]; simp [go_sem]
  · rw [hb.cell (by simp)]; simp [go_sem]

set_option maxHeartbeats 400000 in
theorem win_yes (n a b : Int) (w : World) (h1 : a ≤ n) (h2 : n ≤ b) :
    Calls Try.prog 13 #[.int .i64 n, .int .i64 a, .int .i64 b] w fun e w' => e = .returned (.bool true) ∧ w' = w := by
  go_enter Try.func13, Try.ntmps13
  go_wp2
  go_ret
  exact ⟨rfl, rfl⟩
set_option maxHeartbeats 400000 in
theorem win_no (n a b : Int) (w : World) (h : n < a ∨ b < n) :
    Calls Try.prog 13 #[.int .i64 n, .int .i64 a, .int .i64 b] w fun e w' => e = .returned (.bool false) ∧ w' = w := by
  by_cases h1 : a ≤ n
  · have h2 : decide (n ≤ b) = false := by simp; omega
    clear h
    go_enter Try.func13, Try.ntmps13
    go_wp2
    go_ret
    exact ⟨rfl, rfl⟩
  · have h2 : decide (a ≤ n) = false := by simp; omega
    clear h h1
    go_enter Try.func13, Try.ntmps13
    go_wp2
    go_ret
    exact ⟨rfl, rfl⟩
set_option maxHeartbeats 400000 in
theorem rup_any (n s : Int) (w : World) (h0 : 0 ≤ n) (h1 : n ≤ 52596000) (h2 : 1 ≤ s) (h3 : s ≤ 525600) :
    Calls Try.prog 14 #[.int .i64 n, .int .i64 s] w fun e w' => e = .returned (.int .i64 (up n s)) ∧ w' = w := by
  have hs0 : (s == 0) = false := by simp; omega
  unfold up
  go_enter Try.func14, Try.ntmps14
  go_wp2
  go_ret
  exact ⟨rfl, rfl⟩

theorem Try.info2 : (Try.prog.info? 2).map (fun i => (i.zero, i.size, i.bytes)) = some (some (.int .i64 0), 1, 8) := by kernel_rfl

abbrev args2 (f t s : Int) : Array Value := #[.agg #[.int .i64 f, .int .i64 t], .int .i64 s]

set_option maxHeartbeats 1000000 in
theorem islots_no1 (f t s : Int) (w : World) (h : okB f t = false) :
    Calls Try.prog 6 (args2 f t s) w fun e w' => e = .returned (.slice none 0 0) ∧ Below w.heap.size w w' := by
  go_enter Try.func6, Try.ntmps6
  go_wp2_with fail
  refine (iok_no _ _ _ h).mono ?_
  rintro e w1 ⟨rfl, hb⟩
  go_wp2_with fail
  go_ret
  exact ⟨rfl, ((Below.refl _ _).alloc (Nat.le_refl _) _).trans (hb.mono (by simp))⟩
set_option maxHeartbeats 1000000 in
theorem islots_no2 (f t s : Int) (w : World) (h : okB f t = true) (h2 : fit s = false) :
    Calls Try.prog 6 (args2 f t s) w fun e w' => e = .returned (.slice none 0 0) ∧ Below w.heap.size w w' := by
  have h3 : s < 1 ∨ 525600 < s := by unfold fit at h2; simp at h2; omega
  go_enter Try.func6, Try.ntmps6
  go_wp2_with fail
  refine (iok_yes _ _ _ h).mono ?_
  rintro e w1 ⟨rfl, hb⟩
  go_wp2_with (go_at_call 13; refine (win_no _ _ _ _ h3).mono ?_; rintro e w' ⟨rfl, rfl⟩)
  go_ret
  exact ⟨rfl, ((Below.refl _ _).alloc (Nat.le_refl _) _).trans (hb.mono (by simp))⟩
set_option maxHeartbeats 1000000 in
theorem islots_far (f t s : Int) (w : World) (h : okB f t = true) (s1 : 1 ≤ s) (s2 : s ≤ 525600) (hc : 1000 < up t s - up f s) :
    Calls Try.prog 6 (args2 f t s) w fun e w' => e = .returned (.slice none 0 0) ∧ Below w.heap.size w w' := by
  have hok := h
  simp only [okB, decide_eq_true_eq] at hok
  obtain ⟨f1, f2, t1, t2, ft⟩ := hok
  have u1 := up_bd (n := f) (s := s) (by omega) f1
  have u2 := up_bd (n := t) (s := s) (by omega) t1
  have OK : Hid (okB f t = true) := h
  obtain ⟨A, hA⟩ : ∃ A, A = up f s := ⟨_, rfl⟩
  obtain ⟨B, hB⟩ : ∃ B, B = up t s := ⟨_, rfl⟩
  rw [← hA] at u1 hc
  rw [← hB] at u2 hc
  have HA : Hid (∀ w, Calls Try.prog 14 #[.int .i64 f, .int .i64 s] w fun e w' => e = .returned (.int .i64 A) ∧ w' = w) := fun w => by rw [hA]; exact rup_any f s w f1 f2 s1 s2
  have HB : Hid (∀ w, Calls Try.prog 14 #[.int .i64 t, .int .i64 s] w fun e w' => e = .returned (.int .i64 B) ∧ w' = w) := fun w => by rw [hB]; exact rup_any t s w t1 t2 s1 s2
  have a0 := u1.1
  have a1 := u1.2.2
  have b0 := u2.1
  have b1 := u2.2.2
  clear u1 u2 h hA hB
  go_enter Try.func6, Try.ntmps6
  go_wp2_with fail
  refine (iok_yes _ _ _ OK.out).mono ?_
  rintro e w1 ⟨rfl, hb⟩
  obtain ⟨g1, g2, g3⟩ := bcell hb
  have bel : Below w.heap.size w w1 := ((Below.refl _ _).alloc (Nat.le_refl _) _).trans (hb.mono (by simp))
  go_wp2_with (go_at_call 13; refine (win_yes _ _ _ _ s1 s2).mono ?_; rintro e w' ⟨rfl, hw⟩; subst hw)
  refine (HA.out _).mono ?_
  rintro e w2 ⟨rfl, hw2⟩
  subst hw2
  go_wp2_with fail
  refine (HB.out _).mono ?_
  rintro e w3 ⟨rfl, hw3⟩
  subst hw3
  go_wp2_with fail
  go_ret
  exact ⟨rfl, bel⟩
end Go.Proofs.Ytgahcedndcacdaa.Lists
