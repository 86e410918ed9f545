/- Winds that are right; winds as pairs. -/
import Derived.Test.YtmnpjfikilmknaaTrnL
namespace Go.Proofs.Ytmnpjfikilmknaa.Flt
open Go.ChangeShapes Go.WideShapes Go.ChangeAt Go.RowKit
attribute [local go_sem] run_store_float

abbrev wd (d : Int) (s : Nat) : Value := .agg #[.int .i64 d, .float .f64 s]
def inB (n l h : Int) : Bool := decide (l ≤ n) && decide (n ≤ h)
set_option maxHeartbeats 400000 in
theorem within_any (n l h : Int) (w : World) : Calls Try.prog 24 #[.int .i64 n, .int .i64 l, .int .i64 h] w fun e w' => e = .returned (.bool (inB n l h)) ∧ w' = w := by
  unfold inB
  cases h1 : decide (l ≤ n)
  · have i1 : ¬ l ≤ n := by simpa using h1
    go_enter Try.func24, Try.ntmps24
    go_wp2
    go_ret
    exact ⟨rfl, rfl⟩
  · have i1 : l ≤ n := by simpa using h1
    go_enter Try.func24, Try.ntmps24
    go_wp2
    go_ret
    exact ⟨rfl, rfl⟩
set_option maxHeartbeats 400000 in
theorem in_any (n l h : Int) (w : World) : Calls Try.prog 22 #[.int .i64 n, .int .i64 l, .int .i64 h] w fun e w' => e = .returned (.bool (inB n l h)) ∧ w' = w := by
  unfold inB
  cases h1 : decide (l ≤ n)
  · have i1 : ¬ l ≤ n := by simpa using h1
    go_enter Try.func22, Try.ntmps22
    go_wp2
    go_ret
    exact ⟨rfl, rfl⟩
  · have i1 : l ≤ n := by simpa using h1
    go_enter Try.func22, Try.ntmps22
    go_wp2
    go_ret
    exact ⟨rfl, rfl⟩

def wok (d : Int) (s : Nat) : Bool := inB d 0 36 && kn s && (ord s 0 == some .gt || ord s 0 == some .eq) && ((ord s 0 == some .eq) == decide (d = 0))

theorem kn_lt {x : Nat} (h : kn x = true) : rng x < 9218868437227405312 := by unfold kn at h; simpa using h
theorem kn_ge {x : Nat} (h : kn x = false) : 9218868437227405312 ≤ rng x := by unfold kn at h; simpa using h

set_option maxHeartbeats 1000000 in
theorem swok (d : Int) (s : Nat) (w : World) : Calls Try.prog 15 #[wd d s] w fun e w' => e = .returned (.bool (wok d s)) ∧ Below w.heap.size w w' := by
  unfold wok
  have e0 : (decide (d = 0)) = (d == 0) := by by_cases h : d = 0 <;> simp [h]
  cases h1 : inB d 0 36
  · go_enter Try.func15, Try.ntmps15
    go_wp2_with fail
    refine (in_any _ _ _ _).mono ?_
    rintro e w1 ⟨rfl, rfl⟩
    rw [h1]
    go_wp2_with fail
    go_ret
    exact ⟨rfl, (Below.refl _ _).alloc (Nat.le_refl _) _⟩
  · cases h2 : kn s
    · have K := kn_ge h2
      have HK : Hid (9218868437227405312 ≤ rng s) := K
      clear K
      go_enter Try.func15, Try.ntmps15
      go_wp2_with fail
      refine (in_any _ _ _ _).mono ?_
      rintro e w1 ⟨rfl, rfl⟩
      rw [h1]
      go_wp2_with fail
      refine (known_no _ _ HK.out).mono ?_
      rintro e w1 ⟨rfl, rfl⟩
      go_wp2_with fail
      go_ret
      exact ⟨rfl, ((Below.refl _ _).alloc (Nat.le_refl _) _).drew⟩
    · have HK : Hid (rng s < 9218868437227405312) := kn_lt h2
      cases h3 : (ord s 0 == some .eq)
      · cases h4 : (ord s 0 == some .gt)
        · go_enter Try.func15, Try.ntmps15
          go_wp2_with fail
          refine (in_any _ _ _ _).mono ?_
          rintro e w1 ⟨rfl, rfl⟩
          rw [h1]
          go_wp2_with fail
          refine (known_yes _ _ HK.out).mono ?_
          rintro e w1 ⟨rfl, rfl⟩
          go_wp2_with fail
          go_ret
          exact ⟨rfl, (Below.refl _ _).alloc (Nat.le_refl _) _⟩
        · go_enter Try.func15, Try.ntmps15
          go_wp2_with fail
          refine (in_any _ _ _ _).mono ?_
          rintro e w1 ⟨rfl, rfl⟩
          rw [h1]
          go_wp2_with fail
          refine (known_yes _ _ HK.out).mono ?_
          rintro e w1 ⟨rfl, rfl⟩
          go_wp2_with fail
          go_ret
          exact ⟨by rw [e0]; simp, (Below.refl _ _).alloc (Nat.le_refl _) _⟩
      · go_enter Try.func15, Try.ntmps15
        go_wp2_with fail
        refine (in_any _ _ _ _).mono ?_
        rintro e w1 ⟨rfl, rfl⟩
        rw [h1]
        go_wp2_with fail
        refine (known_yes _ _ HK.out).mono ?_
        rintro e w1 ⟨rfl, rfl⟩
        go_wp2_with fail
        go_ret
        exact ⟨by rw [e0]; simp, (Below.refl _ _).alloc (Nat.le_refl _) _⟩
set_option maxHeartbeats 1000000 in
theorem iwok (d : Int) (s : Nat) (w : World) (hs : s < 18446744073709551616) : Calls Try.prog 17 #[wd d s] w fun e w' => e = .returned (.bool (wok d s)) ∧ Below w.heap.size w w' := by
  unfold wok
  have e0 : (decide (d = 0)) = (d == 0) := by by_cases h : d = 0 <;> simp [h]
  cases h1 : inB d 0 36
  · go_enter Try.func17, Try.ntmps17
    go_wp2_with fail
    refine (within_any _ _ _ _).mono ?_
    rintro e w1 ⟨rfl, rfl⟩
    rw [h1]
    go_wp2_with fail
    go_ret
    exact ⟨rfl, (Below.refl _ _).alloc (Nat.le_refl _) _⟩
  · cases h2 : kn s
    · have K := kn_ge h2
      have HK : Hid (9218868437227405312 ≤ rng s) := K
      clear K
      go_enter Try.func17, Try.ntmps17
      go_wp2_with fail
      refine (within_any _ _ _ _).mono ?_
      rintro e w1 ⟨rfl, rfl⟩
      rw [h1]
      go_wp2_with fail
      refine (iknown _ _ hs).mono ?_
      rintro e w1 ⟨rfl, rfl⟩
      rw [h2]
      go_wp2_with fail
      go_ret
      exact ⟨rfl, (Below.refl _ _).alloc (Nat.le_refl _) _⟩
    · have HK : Hid (rng s < 9218868437227405312) := kn_lt h2
      cases h3 : (ord s 0 == some .eq)
      · cases h4 : (ord s 0 == some .gt)
        · go_enter Try.func17, Try.ntmps17
          go_wp2_with fail
          refine (within_any _ _ _ _).mono ?_
          rintro e w1 ⟨rfl, rfl⟩
          rw [h1]
          go_wp2_with fail
          refine (iknown _ _ hs).mono ?_
          rintro e w1 ⟨rfl, rfl⟩
          rw [h2]
          go_wp2_with fail
          go_ret
          exact ⟨rfl, (Below.refl _ _).alloc (Nat.le_refl _) _⟩
        · go_enter Try.func17, Try.ntmps17
          go_wp2_with fail
          refine (within_any _ _ _ _).mono ?_
          rintro e w1 ⟨rfl, rfl⟩
          rw [h1]
          go_wp2_with fail
          refine (iknown _ _ hs).mono ?_
          rintro e w1 ⟨rfl, rfl⟩
          rw [h2]
          go_wp2_with fail
          go_ret
          exact ⟨by rw [e0]; simp, (Below.refl _ _).alloc (Nat.le_refl _) _⟩
      · go_enter Try.func17, Try.ntmps17
        go_wp2_with fail
        refine (within_any _ _ _ _).mono ?_
        rintro e w1 ⟨rfl, rfl⟩
        rw [h1]
        go_wp2_with fail
        refine (iknown _ _ hs).mono ?_
        rintro e w1 ⟨rfl, rfl⟩
        rw [h2]
        go_wp2_with fail
        go_ret
        exact ⟨by rw [e0]; simp, (Below.refl _ _).alloc (Nat.le_refl _) _⟩
end Go.Proofs.Ytmnpjfikilmknaa.Flt
