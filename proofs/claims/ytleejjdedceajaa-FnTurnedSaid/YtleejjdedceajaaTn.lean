/- Turns, plainly; equal pairs; the draw. -/
import Derived.Test.YtleejjdedceajaaAm
import Derived.Test.YtleejjdedceajaaRdJ
namespace Go.Proofs.Ytleejjdedceajaa.Flt
open Go.ChangeShapes Go.WideShapes Go.ChangeAt Go.RowKit
open Go.Proofs.Ytleejjdedceajaa.Wa
attribute [local go_sem] run_store_float

def sm (m : Nat) : Nat := sine ((m % 36 : Nat) : Int)
theorem sine_ok : ((List.range 36).all fun m => !(nan (sine (m : Int))) && decide (sine (m : Int) < 18446744073709551616)) = true := by decide +kernel
theorem sine_at (m : Nat) (h : m < 36) : nan (sine (m : Int)) = false ∧ sine (m : Int) < 18446744073709551616 := by
  have := sine_ok
  rw [List.all_eq_true] at this
  have := this m (by simpa using h)
  simpa using this
def addOk (m : Nat) : Bool := match cSumBits .add .f64 (sm (m + 9)) (sm m) (sm (m + 27)) (sm (m + 18)) with
  | some (x, y) => (ord x 0 == some .eq) && (ord y 0 == some .eq)
  | none => false
theorem add_ok : ((List.range 36).all addOk) = true := by decide +kernel
def mulOk (m : Nat) : Bool := !(nan (mre (sm 18) (sm 9) (sm (m + 9)) (sm m))) && (!(nan (mim (sm 18) (sm 9) (sm (m + 9)) (sm m))) && ((ord (mre (sm 18) (sm 9) (sm (m + 9)) (sm m)) (sm (m + 18)) == some .eq) && (ord (mim (sm 18) (sm 9) (sm (m + 9)) (sm m)) (sm (m + 9)) == some .eq)))
theorem mul_ok : ((List.range 36).all mulOk) = true := by decide +kernel
theorem exact_of {a s : Nat} (h : cn a = s) (hs : nan s = false) : a = s := by
  cases ha : nan a
  · rw [cn_num ha] at h; exact h
  · rw [cn_nan ha] at h
    rw [← h, nan_qn] at hs
    cases hs
theorem sm_sine (k : Int) (j : Nat) (m : Nat) (hm : (m : Int) = k % 36) : sine ((k + (j : Int)) % 36) = sm (m + j) := by
  unfold sm
  congr 1
  omega
theorem sm_num (m : Nat) : nan (sm m) = false ∧ sm m < 18446744073709551616 := sine_at (m % 36) (Nat.mod_lt _ (by omega))
theorem cn_sm (m : Nat) : cn (sm m) = sm m := cn_num (sm_num m).1

theorem sturnP (k : Int) (m : Nat) (hm : (m : Int) = k % 36) (w : World) : Calls Try.prog 8 #[.int .i64 k] w fun e w' => e = .returned (pr (sm (m + 9)) (sm m)) ∧ Below w.heap.size w w' := by
  refine (sturn k w).mono ?_
  rintro e w' ⟨a, b, rfl, ha, hb, hB⟩
  have e1 := sm_sine k 9 m hm
  have e2 := sm_sine k 0 m hm
  simp at e2
  have q1 : a = sm (m + 9) := exact_of (ha.trans e1) (sm_num _).1
  have q2 : b = sm m := exact_of (hb.trans e2) (sm_num _).1
  rw [q1, q2]
  exact ⟨rfl, hB⟩
set_option maxHeartbeats 1000000 in
theorem iturnP (k : Int) (m : Nat) (hm : (m : Int) = k % 36) (w : World) : Calls Try.prog 6 #[.int .i64 k] w fun e w' => e = .returned (pr (sm (m + 9)) (sm m)) ∧ Below w.heap.size w w' := by
  have C : Hid (∀ w : World, Calls Try.prog 17 #[.int .i64 k] w fun e w' => e = .returned (.complex .f64 (sm (m + 9)) (sm m)) ∧ Below w.heap.size w w') := fun w => (by
    refine (iturn k w).mono ?_
    rintro e w' ⟨a, b, rfl, ha, hb, hB⟩
    have e1 := sm_sine k 9 m hm
    have e2 := sm_sine k 0 m hm
    simp at e2
    have q1 : a = sm (m + 9) := exact_of (ha.trans e1) (sm_num _).1
    have q2 : b = sm m := exact_of (hb.trans e2) (sm_num _).1
    rw [q1, q2]
    exact ⟨rfl, hB⟩)
  clear hm
  generalize sm (m + 9) = a at *
  generalize sm m = b at *
  obtain ⟨w0, hw0⟩ : ∃ w0, w0 = w.alloc (.cells #[.float .f64 0, .float .f64 0] 27) := ⟨_, rfl⟩
  have HW0 : Hid (w0 = w.alloc (.cells #[.float .f64 0, .float .f64 0] 27)) := hw0
  have X0 : Hid (Bx w0 w.heap.size (.float .f64 0) (.float .f64 0)) := (by show Bx _ _ _ _; rw [hw0]; exact Bx.new w _ _ 27)
  have B0 : Hid (Below w.heap.size w w0) := (by show Below _ _ _; rw [hw0]; exact (Below.refl _ _).alloc (Nat.le_refl _) _)
  clear hw0
  go_enter Try.func6, Try.ntmps6
  go_wp2_with fail
  rw [← HW0.out]
  refine (C.out _).mono ?_
  rintro e w1 ⟨rfl, hb1⟩
  have X1 : Hid (Bx w1 w.heap.size (.float .f64 0) (.float .f64 0)) := X0.out.on hb1
  have B1 : Hid (Below w.heap.size w w1) := B0.out.trans (hb1.mono B0.out.size)
  clear hb1 HW0
  go_wp2_with fail
  refine (pairOf_any _ _ _).mono ?_
  rintro e w2 ⟨rfl, hb2⟩
  have X2 := X1.out.on hb2
  have B2 : Hid (Below w.heap.size w w2) := B1.out.trans (hb2.mono B1.out.size)
  obtain ⟨c0, c1, f0, f1, _⟩ := X2
  clear hb2
  go_wp2_with fail
  refine bodyPost_ret (v := pr a b) (by simp [results, Try.results6, go_sem, c0, c1]) rfl ⟨rfl, ?_⟩
  exact (B2.out.setCell (p := ⟨w.heap.size, 0, none⟩) (Nat.le_refl _) _).setCell (p := ⟨w.heap.size, 1, none⟩) (Nat.le_refl _) _
set_option maxHeartbeats 1000000 in
theorem equal_any (a b c d : Nat) (h1 : (ord a c == some .eq) = true) (h2 : (ord b d == some .eq) = true) (w : World) : Calls Try.prog 9 #[pr a b, pr c d] w fun e w' => e = .returned (.bool true) ∧ Below w.heap.size w w' := by
  have BB : Hid (Below w.heap.size w ((w.alloc (.cells #[.float .f64 a, .float .f64 b] 27)).alloc (.cells #[.float .f64 c, .float .f64 d] 27))) := ((Below.refl _ _).alloc (Nat.le_refl _) _).alloc (by simp) _
  go_enter Try.func9, Try.ntmps9
  go_wp2_with fail
  go_ret
  exact ⟨rfl, BB.out⟩
theorem addP (m : Nat) (hm : m < 36) : ∃ x y, (∀ w : World, Calls Try.prog 10 #[pr (sm (m + 9)) (sm m), pr (sm (m + 27)) (sm (m + 18))] w fun e w' => e = .returned (pr x y) ∧ Below w.heap.size w w') ∧ (ord x 0 == some .eq) = true ∧ (ord y 0 == some .eq) = true := by
  have := add_ok
  rw [List.all_eq_true] at this
  have := this m (by simpa using hm)
  unfold addOk at this
  cases h : cSumBits .add .f64 (sm (m + 9)) (sm m) (sm (m + 27)) (sm (m + 18)) with
  | none => rw [h] at this; cases this
  | some q =>
    obtain ⟨x, y⟩ := q
    rw [h] at this
    simp only [Bool.and_eq_true] at this
    exact ⟨x, y, iadd_any _ _ _ _ x y h, this.1, this.2⟩
theorem mulP (m : Nat) (hm : m < 36) : ∃ x y, (∀ w : World, Calls Try.prog 11 #[pr (sm 18) (sm 9), pr (sm (m + 9)) (sm m)] w fun e w' => e = .returned (pr x y) ∧ Below w.heap.size w w') ∧ (ord x (sm (m + 18)) == some .eq) = true ∧ (ord y (sm (m + 9)) == some .eq) = true := by
  have := mul_ok
  rw [List.all_eq_true] at this
  have := this m (by simpa using hm)
  unfold mulOk at this
  simp only [Bool.and_eq_true, Bool.not_eq_true'] at this
  obtain ⟨n1, n2, o1, o2⟩ := this
  refine ⟨_, _, imul_any _ _ _ _ _ _ (fun w => ?_), o1, o2⟩
  refine (imul _ _ _ _ w).mono ?_
  rintro e w' ⟨x, y, rfl, hx, hy, hb⟩
  rw [cn_sm, cn_sm, cn_sm, cn_sm] at hx hy
  rw [exact_of hx n1, exact_of hy n2]
  exact ⟨rfl, hb⟩
theorem sameP (m : Nat) (w : World) : Calls Try.prog 7 #[.float .f64 (sm m), .float .f64 (sm m)] w fun e w' => e = .returned (.bool true) ∧ w' = w := by
  have := same_any (sm m) (sm m) w (sm_num m).2 (sm_num m).2
  have e : sameB (sm m) (sm m) = true := by unfold sameB; rw [(sm_num m).1]; simp
  rw [e] at this
  exact this
end Go.Proofs.Ytleejjdedceajaa.Flt
