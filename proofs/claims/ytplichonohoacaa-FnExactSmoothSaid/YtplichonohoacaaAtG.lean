/- Grids: copied; whether one is right, in the program and in its model. -/
import Derived.Test.YtplichonohoacaaNanC
import Derived.WalkKit
import Derived.ProofKit
import Derived.Below
import Derived.OwnWalk
import Derived.WalkSmall
import Derived.Laws.OwnMore
import Derived.Deep.QuietTactic
import Derived.BigQuiet
import Derived.Deep.RegionHeld3
namespace Go.Proofs.Ytplichonohoacaa.Gd
open Go.ChangeShapes Go.WideShapes Go.ChangeAt Go.RowKit

set_option maxHeartbeats 400000 in
theorem sin_any (n a b : Int) (w : World) : Calls Try.prog 32 #[.int .i64 n, .int .i64 a, .int .i64 b] w fun e w' => e = .returned (.bool (decide (a ≤ n) && decide (n ≤ b))) ∧ w' = w := by
  by_cases h1 : a ≤ n
  · by_cases h2 : n ≤ b
    · go_enter Try.func32, Try.ntmps32
      go_wp2
      go_ret
      exact ⟨by simp [h1, h2], rfl⟩
    · have h2' : decide (n ≤ b) = false := by simp; omega
      go_enter Try.func32, Try.ntmps32
      go_wp2
      go_ret
      exact ⟨by simp, rfl⟩
  · have h1' : decide (a ≤ n) = false := by simp; omega
    go_enter Try.func32, Try.ntmps32
    go_wp2
    go_ret
    exact ⟨by simp, rfl⟩
set_option maxHeartbeats 400000 in
theorem win_any (n a b : Int) (w : World) : Calls Try.prog 41 #[.int .i64 n, .int .i64 a, .int .i64 b] w fun e w' => e = .returned (.bool (decide (a ≤ n) && decide (n ≤ b))) ∧ w' = w := by
  by_cases h1 : a ≤ n
  · by_cases h2 : n ≤ b
    · go_enter Try.func41, Try.ntmps41
      go_wp2
      go_ret
      exact ⟨by simp [h1, h2], rfl⟩
    · have h2' : decide (n ≤ b) = false := by simp; omega
      go_enter Try.func41, Try.ntmps41
      go_wp2
      go_ret
      exact ⟨by simp, rfl⟩
  · have h1' : decide (a ≤ n) = false := by simp; omega
    go_enter Try.func41, Try.ntmps41
    go_wp2
    go_ret
    exact ⟨by simp, rfl⟩

set_option maxHeartbeats 1000000 in
theorem to1_any (x0 : Int) (x1 : Int) (x2 : Int) (x3 : Int) (x4 : Int) (w : World) : Calls Try.prog 6 #[.agg #[.int .i64 x0, .int .i64 x1, .int .i64 x2, .int .i64 x3, .int .i64 x4]] w fun e w' => e = .returned (.agg #[.int .i64 x0, .int .i64 x1, .int .i64 x2, .int .i64 x3, .int .i64 x4]) ∧ Below w.heap.size w w' := by
  go_enter Try.func6, Try.ntmps6
  go_wp2
  refine bodyPost_ret (v := .agg #[.int .i64 x0, .int .i64 x1, .int .i64 x2, .int .i64 x3, .int .i64 x4]) (by simp [results, Try.results6, go_sem]) rfl ⟨rfl, ?_⟩
  exact (((Below.refl _ _).alloc (Nat.le_refl _) _).alloc (by simp) _).alloc (by simp; omega) _

def inn (a lo hi : Int) : Bool := decide (lo ≤ a) && decide (a ≤ hi)
theorem inn_iff (a lo hi : Int) : inn a lo hi = true ↔ lo ≤ a ∧ a ≤ hi := by simp [inn]
theorem s_in (n a b : Int) (w : World) : Calls Try.prog 32 #[.int .i64 n, .int .i64 a, .int .i64 b] w fun e w' => e = .returned (.bool (inn n a b)) ∧ w' = w := sin_any n a b w
def gok (r c s ws st : Int) : Bool := inn r 2 64 && (inn c 2 64 && (inn st 1 3000 && (inn s (-9000) 9000 && (decide (s + (r - 1) * st ≤ 9000) && inn ws (-18000) 18000))))
theorem prod_le {r st : Int} (hr : 2 ≤ r ∧ r ≤ 64) (hs : 1 ≤ st ∧ st ≤ 3000) : 0 ≤ (r - 1) * st ∧ (r - 1) * st ≤ 189000 := by
  obtain ⟨m, hm⟩ : ∃ m : Nat, r - 1 = (m : Int) := ⟨(r - 1).toNat, by omega⟩
  obtain ⟨k, rfl⟩ : ∃ k : Nat, st = (k : Int) := ⟨st.toNat, by omega⟩
  have h1 : m * k ≤ 63 * 3000 := Nat.mul_le_mul (by omega) (by omega)
  rw [hm, ← Int.natCast_mul]
  omega

set_option maxHeartbeats 1000000 in
theorem sgrid_any (r c s ws st : Int) (w : World) : Calls Try.prog 30 #[.agg #[.int .i64 r, .int .i64 c, .int .i64 s, .int .i64 ws, .int .i64 st]] w fun e w' => e = .returned (.bool (gok r c s ws st)) ∧ Below w.heap.size w w' := by
  have B0 : Hid (Below w.heap.size w (w.alloc (Obj.cells #[.int .i64 r, .int .i64 c, .int .i64 s, .int .i64 ws, .int .i64 st] 26))) := (Below.refl _ _).alloc (Nat.le_refl _) _
  have C1 : Hid (∀ w, Calls Try.prog 32 #[.int .i64 r, .int .i64 2, .int .i64 64] w fun e w' => e = .returned (.bool (inn r 2 64)) ∧ w' = w) := fun w => s_in _ _ _ w
  have C2 : Hid (∀ w, Calls Try.prog 32 #[.int .i64 c, .int .i64 2, .int .i64 64] w fun e w' => e = .returned (.bool (inn c 2 64)) ∧ w' = w) := fun w => s_in _ _ _ w
  have C3 : Hid (∀ w, Calls Try.prog 32 #[.int .i64 st, .int .i64 1, .int .i64 3000] w fun e w' => e = .returned (.bool (inn st 1 3000)) ∧ w' = w) := fun w => s_in _ _ _ w
  have C4 : Hid (∀ w, Calls Try.prog 32 #[.int .i64 s, .int .i64 (-9000), .int .i64 9000] w fun e w' => e = .returned (.bool (inn s (-9000) 9000)) ∧ w' = w) := fun w => s_in _ _ _ w
  have C5 : Hid (∀ w, Calls Try.prog 32 #[.int .i64 ws, .int .i64 (-18000), .int .i64 18000] w fun e w' => e = .returned (.bool (inn ws (-18000) 18000)) ∧ w' = w) := fun w => s_in _ _ _ w
  unfold gok
  cases c1 : inn r 2 64
  · rw [c1] at C1
    clear c1
    go_enter Try.func30, Try.ntmps30
    go_wp2_with fail
    refine (C1.out _).mono ?_
    rintro e w1 ⟨rfl, hw⟩
    subst hw
    go_wp2_with fail
    go_ret
    exact ⟨rfl, B0.out⟩
  · skip
    cases c2 : inn c 2 64
    · rw [c1] at C1
      rw [c2] at C2
      clear c1 c2
      go_enter Try.func30, Try.ntmps30
      go_wp2_with fail
      refine (C1.out _).mono ?_
      rintro e w1 ⟨rfl, hw⟩
      subst hw
      go_wp2_with fail
      refine (C2.out _).mono ?_
      rintro e w2 ⟨rfl, hw⟩
      subst hw
      go_wp2_with fail
      go_ret
      exact ⟨rfl, B0.out⟩
    · skip
      cases c3 : inn st 1 3000
      · rw [c1] at C1
        rw [c2] at C2
        rw [c3] at C3
        clear c1 c2 c3
        go_enter Try.func30, Try.ntmps30
        go_wp2_with fail
        refine (C1.out _).mono ?_
        rintro e w1 ⟨rfl, hw⟩
        subst hw
        go_wp2_with fail
        refine (C2.out _).mono ?_
        rintro e w2 ⟨rfl, hw⟩
        subst hw
        go_wp2_with fail
        refine (C3.out _).mono ?_
        rintro e w3 ⟨rfl, hw⟩
        subst hw
        go_wp2_with fail
        go_ret
        exact ⟨rfl, B0.out⟩
      · skip
        cases c4 : inn s (-9000) 9000
        · rw [c1] at C1
          rw [c2] at C2
          rw [c3] at C3
          rw [c4] at C4
          clear c1 c2 c3 c4
          go_enter Try.func30, Try.ntmps30
          go_wp2_with fail
          refine (C1.out _).mono ?_
          rintro e w1 ⟨rfl, hw⟩
          subst hw
          go_wp2_with fail
          refine (C2.out _).mono ?_
          rintro e w2 ⟨rfl, hw⟩
          subst hw
          go_wp2_with fail
          refine (C3.out _).mono ?_
          rintro e w3 ⟨rfl, hw⟩
          subst hw
          go_wp2_with fail
          refine (C4.out _).mono ?_
          rintro e w4 ⟨rfl, hw⟩
          subst hw
          go_wp2_with fail
          go_ret
          exact ⟨rfl, B0.out⟩
        · skip
          obtain ⟨m1, m2⟩ := prod_le ((inn_iff _ _ _).1 c1) ((inn_iff _ _ _).1 c3)
          obtain ⟨m3, m4⟩ := (inn_iff _ _ _).1 c4
          obtain ⟨m5, m6⟩ := (inn_iff _ _ _).1 c1
          obtain ⟨p, hp⟩ : ∃ p, p = (r - 1) * st := ⟨_, rfl⟩
          have j0 : IntKind.i64.wrap (r - 1) = r - 1 := IntWalk.i64_in _ (by omega)
          have j1 : wrap64 ((r - 1) * st) = p := by rw [hp]; exact IntWalk.wrap64_in _ (by omega)
          rw [← hp] at m1 m2 ⊢
          have j2 : IntKind.i64.wrap (s + p) = s + p := IntWalk.i64_in _ (by omega)
          rw [c1] at C1
          rw [c2] at C2
          rw [c3] at C3
          rw [c4] at C4
          clear c1 c2 c3 c4 hp
          by_cases h5 : s + p ≤ 9000
          · cases c5 : inn ws (-18000) 18000
            · rw [c5] at C5
              clear c5
              go_enter Try.func30, Try.ntmps30
              go_wp2_with fail
              refine (C1.out _).mono ?_
              rintro e w1 ⟨rfl, hw⟩
              subst hw
              go_wp2_with fail
              refine (C2.out _).mono ?_
              rintro e w2 ⟨rfl, hw⟩
              subst hw
              go_wp2_with fail
              refine (C3.out _).mono ?_
              rintro e w3 ⟨rfl, hw⟩
              subst hw
              go_wp2_with fail
              refine (C4.out _).mono ?_
              rintro e w4 ⟨rfl, hw⟩
              subst hw
              go_wp2_with fail
              refine (C5.out _).mono ?_
              rintro e w5 ⟨rfl, hw⟩
              subst hw
              go_wp2_with fail
              go_ret
              exact ⟨by simp [h5], B0.out⟩
            · rw [c5] at C5
              clear c5
              go_enter Try.func30, Try.ntmps30
              go_wp2_with fail
              refine (C1.out _).mono ?_
              rintro e w1 ⟨rfl, hw⟩
              subst hw
              go_wp2_with fail
              refine (C2.out _).mono ?_
              rintro e w2 ⟨rfl, hw⟩
              subst hw
              go_wp2_with fail
              refine (C3.out _).mono ?_
              rintro e w3 ⟨rfl, hw⟩
              subst hw
              go_wp2_with fail
              refine (C4.out _).mono ?_
              rintro e w4 ⟨rfl, hw⟩
              subst hw
              go_wp2_with fail
              refine (C5.out _).mono ?_
              rintro e w5 ⟨rfl, hw⟩
              subst hw
              go_wp2_with fail
              go_ret
              exact ⟨by simp [h5], B0.out⟩
          · have HD : Hid (decide (s + p ≤ 9000) = false) := decide_eq_false h5
            go_enter Try.func30, Try.ntmps30
            go_wp2_with fail
            refine (C1.out _).mono ?_
            rintro e w1 ⟨rfl, hw⟩
            subst hw
            go_wp2_with fail
            refine (C2.out _).mono ?_
            rintro e w2 ⟨rfl, hw⟩
            subst hw
            go_wp2_with fail
            refine (C3.out _).mono ?_
            rintro e w3 ⟨rfl, hw⟩
            subst hw
            go_wp2_with fail
            refine (C4.out _).mono ?_
            rintro e w4 ⟨rfl, hw⟩
            subst hw
            go_wp2_with fail
            go_ret
            exact ⟨by rw [HD.out]; rfl, B0.out⟩
theorem i_in (n a b : Int) (w : World) : Calls Try.prog 41 #[.int .i64 n, .int .i64 a, .int .i64 b] w fun e w' => e = .returned (.bool (inn n a b)) ∧ w' = w := win_any n a b w

set_option maxHeartbeats 1000000 in
theorem igrid_any (r c s ws st : Int) (w : World) : Calls Try.prog 33 #[.agg #[.int .i64 r, .int .i64 c, .int .i64 s, .int .i64 ws, .int .i64 st]] w fun e w' => e = .returned (.bool (gok r c s ws st)) ∧ Below w.heap.size w w' := by
  have B0 : Hid (Below w.heap.size w (w.alloc (Obj.cells #[.int .i64 r, .int .i64 c, .int .i64 s, .int .i64 ws, .int .i64 st] 26))) := (Below.refl _ _).alloc (Nat.le_refl _) _
  have C1 : Hid (∀ w, Calls Try.prog 41 #[.int .i64 r, .int .i64 2, .int .i64 64] w fun e w' => e = .returned (.bool (inn r 2 64)) ∧ w' = w) := fun w => i_in _ _ _ w
  have C2 : Hid (∀ w, Calls Try.prog 41 #[.int .i64 c, .int .i64 2, .int .i64 64] w fun e w' => e = .returned (.bool (inn c 2 64)) ∧ w' = w) := fun w => i_in _ _ _ w
  have C3 : Hid (∀ w, Calls Try.prog 41 #[.int .i64 st, .int .i64 1, .int .i64 3000] w fun e w' => e = .returned (.bool (inn st 1 3000)) ∧ w' = w) := fun w => i_in _ _ _ w
  have C4 : Hid (∀ w, Calls Try.prog 41 #[.int .i64 s, .int .i64 (-9000), .int .i64 9000] w fun e w' => e = .returned (.bool (inn s (-9000) 9000)) ∧ w' = w) := fun w => i_in _ _ _ w
  have C5 : Hid (∀ w, Calls Try.prog 41 #[.int .i64 ws, .int .i64 (-18000), .int .i64 18000] w fun e w' => e = .returned (.bool (inn ws (-18000) 18000)) ∧ w' = w) := fun w => i_in _ _ _ w
  unfold gok
  cases c1 : inn r 2 64
  · rw [c1] at C1
    clear c1
    go_enter Try.func33, Try.ntmps33
    go_wp2_with fail
    refine (C1.out _).mono ?_
    rintro e w1 ⟨rfl, hw⟩
    subst hw
    go_wp2_with fail
    go_ret
    exact ⟨rfl, B0.out⟩
  · skip
    cases c2 : inn c 2 64
    · rw [c1] at C1
      rw [c2] at C2
      clear c1 c2
      go_enter Try.func33, Try.ntmps33
      go_wp2_with fail
      refine (C1.out _).mono ?_
      rintro e w1 ⟨rfl, hw⟩
      subst hw
      go_wp2_with fail
      refine (C2.out _).mono ?_
      rintro e w2 ⟨rfl, hw⟩
      subst hw
      go_wp2_with fail
      go_ret
      exact ⟨rfl, B0.out⟩
    · skip
      cases c3 : inn st 1 3000
      · rw [c1] at C1
        rw [c2] at C2
        rw [c3] at C3
        clear c1 c2 c3
        go_enter Try.func33, Try.ntmps33
        go_wp2_with fail
        refine (C1.out _).mono ?_
        rintro e w1 ⟨rfl, hw⟩
        subst hw
        go_wp2_with fail
        refine (C2.out _).mono ?_
        rintro e w2 ⟨rfl, hw⟩
        subst hw
        go_wp2_with fail
        refine (C3.out _).mono ?_
        rintro e w3 ⟨rfl, hw⟩
        subst hw
        go_wp2_with fail
        go_ret
        exact ⟨rfl, B0.out⟩
      · skip
        cases c4 : inn s (-9000) 9000
        · rw [c1] at C1
          rw [c2] at C2
          rw [c3] at C3
          rw [c4] at C4
          clear c1 c2 c3 c4
          go_enter Try.func33, Try.ntmps33
          go_wp2_with fail
          refine (C1.out _).mono ?_
          rintro e w1 ⟨rfl, hw⟩
          subst hw
          go_wp2_with fail
          refine (C2.out _).mono ?_
          rintro e w2 ⟨rfl, hw⟩
          subst hw
          go_wp2_with fail
          refine (C3.out _).mono ?_
          rintro e w3 ⟨rfl, hw⟩
          subst hw
          go_wp2_with fail
          refine (C4.out _).mono ?_
          rintro e w4 ⟨rfl, hw⟩
          subst hw
          go_wp2_with fail
          go_ret
          exact ⟨rfl, B0.out⟩
        · skip
          obtain ⟨m1, m2⟩ := prod_le ((inn_iff _ _ _).1 c1) ((inn_iff _ _ _).1 c3)
          obtain ⟨m3, m4⟩ := (inn_iff _ _ _).1 c4
          obtain ⟨m5, m6⟩ := (inn_iff _ _ _).1 c1
          obtain ⟨p, hp⟩ : ∃ p, p = (r - 1) * st := ⟨_, rfl⟩
          have j0 : IntKind.i64.wrap (r - 1) = r - 1 := IntWalk.i64_in _ (by omega)
          have j1 : wrap64 ((r - 1) * st) = p := by rw [hp]; exact IntWalk.wrap64_in _ (by omega)
          rw [← hp] at m1 m2 ⊢
          have j2 : IntKind.i64.wrap (s + p) = s + p := IntWalk.i64_in _ (by omega)
          rw [c1] at C1
          rw [c2] at C2
          rw [c3] at C3
          rw [c4] at C4
          clear c1 c2 c3 c4 hp
          by_cases h5 : s + p ≤ 9000
          · cases c5 : inn ws (-18000) 18000
            · rw [c5] at C5
              clear c5
              go_enter Try.func33, Try.ntmps33
              go_wp2_with fail
              refine (C1.out _).mono ?_
              rintro e w1 ⟨rfl, hw⟩
              subst hw
              go_wp2_with fail
              refine (C2.out _).mono ?_
              rintro e w2 ⟨rfl, hw⟩
              subst hw
              go_wp2_with fail
              refine (C3.out _).mono ?_
              rintro e w3 ⟨rfl, hw⟩
              subst hw
              go_wp2_with fail
              refine (C4.out _).mono ?_
              rintro e w4 ⟨rfl, hw⟩
              subst hw
              go_wp2_with fail
              refine (C5.out _).mono ?_
              rintro e w5 ⟨rfl, hw⟩
              subst hw
              go_wp2_with fail
              go_ret
              exact ⟨by simp [h5], B0.out⟩
            · rw [c5] at C5
              clear c5
              go_enter Try.func33, Try.ntmps33
              go_wp2_with fail
              refine (C1.out _).mono ?_
              rintro e w1 ⟨rfl, hw⟩
              subst hw
              go_wp2_with fail
              refine (C2.out _).mono ?_
              rintro e w2 ⟨rfl, hw⟩
              subst hw
              go_wp2_with fail
              refine (C3.out _).mono ?_
              rintro e w3 ⟨rfl, hw⟩
              subst hw
              go_wp2_with fail
              refine (C4.out _).mono ?_
              rintro e w4 ⟨rfl, hw⟩
              subst hw
              go_wp2_with fail
              refine (C5.out _).mono ?_
              rintro e w5 ⟨rfl, hw⟩
              subst hw
              go_wp2_with fail
              go_ret
              exact ⟨by simp [h5], B0.out⟩
          · have HD : Hid (decide (s + p ≤ 9000) = false) := decide_eq_false h5
            go_enter Try.func33, Try.ntmps33
            go_wp2_with fail
            refine (C1.out _).mono ?_
            rintro e w1 ⟨rfl, hw⟩
            subst hw
            go_wp2_with fail
            refine (C2.out _).mono ?_
            rintro e w2 ⟨rfl, hw⟩
            subst hw
            go_wp2_with fail
            refine (C3.out _).mono ?_
            rintro e w3 ⟨rfl, hw⟩
            subst hw
            go_wp2_with fail
            refine (C4.out _).mono ?_
            rintro e w4 ⟨rfl, hw⟩
            subst hw
            go_wp2_with fail
            go_ret
            exact ⟨by rw [HD.out]; rfl, B0.out⟩
end Go.Proofs.Ytplichonohoacaa.Gd
