/- Winds and skies of a report. -/
import Derived.Test.YtngchoonfheckaaObC
namespace Go.Proofs.Ytngchoonfheckaa.Flt
open Go.ChangeShapes Go.WideShapes Go.ChangeAt Go.RowKit
attribute [local go_sem] run_store_float

abbrev wd (d : Int) (s : Nat) : Value := .agg #[.int .i64 d, .float .f64 s]
theorem kn_lt {x : Nat} (h : kn x = true) : rng x < 9218868437227405312 := by unfold kn at h; simpa using h
theorem kn_ge {x : Nat} (h : kn x = false) : 9218868437227405312 ≤ rng x := by unfold kn at h; simpa using h
def wok (d : Int) (s : Nat) : Bool := inB d 0 36 && kn s && (FloatKind.f64.format.order s 0 == some .gt || FloatKind.f64.format.order s 0 == some .eq) && ((FloatKind.f64.format.order s 0 == some .eq) == decide (d = 0))

set_option maxHeartbeats 1000000 in
theorem iwok (d : Int) (s : Nat) (w : World) (hs : s < 18446744073709551616) : Calls Try.prog 27 #[wd d s] w fun e w' => e = .returned (.bool (wok d s)) ∧ Below w.heap.size w w' := by
  unfold wok
  have e0 : (decide (d = 0)) = (d == 0) := by by_cases h : d = 0 <;> simp [h]
  cases h1 : inB d 0 36
  · go_enter Try.func27, Try.ntmps27
    go_wp2_with fail
    refine (within_any _ _ _ _).mono ?_
    rintro e w1 ⟨rfl, rfl⟩
    rw [h1]
    go_wp2_with fail
    go_ret
    exact ⟨rfl, (Below.refl _ _).alloc (Nat.le_refl _) _⟩
  · cases h2 : kn s
    · have K := kn_ge h2
      have HK : Hid (9218868437227405312 ≤ rng s) := K
      clear K
      go_enter Try.func27, Try.ntmps27
      go_wp2_with fail
      refine (within_any _ _ _ _).mono ?_
      rintro e w1 ⟨rfl, rfl⟩
      rw [h1]
      go_wp2_with fail
      refine (iknown _ _ hs).mono ?_
      rintro e w1 ⟨rfl, rfl⟩
      rw [h2]
      go_wp2_with fail
      go_ret
      exact ⟨rfl, (Below.refl _ _).alloc (Nat.le_refl _) _⟩
    · have HK : Hid (rng s < 9218868437227405312) := kn_lt h2
      cases h3 : (FloatKind.f64.format.order s 0 == some .eq)
      · cases h4 : (FloatKind.f64.format.order s 0 == some .gt)
        · go_enter Try.func27, Try.ntmps27
          go_wp2_with fail
          refine (within_any _ _ _ _).mono ?_
          rintro e w1 ⟨rfl, rfl⟩
          rw [h1]
          go_wp2_with fail
          refine (iknown _ _ hs).mono ?_
          rintro e w1 ⟨rfl, rfl⟩
          rw [h2]
          go_wp2_with fail
          go_ret
          exact ⟨rfl, (Below.refl _ _).alloc (Nat.le_refl _) _⟩
        · go_enter Try.func27, Try.ntmps27
          go_wp2_with fail
          refine (within_any _ _ _ _).mono ?_
          rintro e w1 ⟨rfl, rfl⟩
          rw [h1]
          go_wp2_with fail
          refine (iknown _ _ hs).mono ?_
          rintro e w1 ⟨rfl, rfl⟩
          rw [h2]
          go_wp2_with fail
          go_ret
          exact ⟨by rw [e0]; simp, (Below.refl _ _).alloc (Nat.le_refl _) _⟩
      · go_enter Try.func27, Try.ntmps27
        go_wp2_with fail
        refine (within_any _ _ _ _).mono ?_
        rintro e w1 ⟨rfl, rfl⟩
        rw [h1]
        go_wp2_with fail
        refine (iknown _ _ hs).mono ?_
        rintro e w1 ⟨rfl, rfl⟩
        rw [h2]
        go_wp2_with fail
        go_ret
        exact ⟨by rw [e0]; simp, (Below.refl _ _).alloc (Nat.le_refl _) _⟩

abbrev ob (s : Int) (t d p : Nat) (di : Int) (sp v r : Nat) (we cl : Int) : Value := .agg #[.int .i64 s, .float .f64 t, .float .f64 d, .float .f64 p, .int .i64 di, .float .f64 sp, .float .f64 v, .float .f64 r, .int .i64 we, .int .i64 cl]

set_option maxHeartbeats 1000000 in
theorem windMiss (s : Int) (t d p : Nat) (di : Int) (sp v r : Nat) (we cl : Int) (w : World) : Calls Try.prog 18 #[ob s t d p di sp v r we cl] w fun e w' => e = .returned (.bool ((di == -1) && nan sp)) ∧ Below w.heap.size w w' := by
  cases c : (di == -1)
  · go_enter Try.func18, Try.ntmps18
    go_wp2_with fail
    go_ret
    exact ⟨rfl, (Below.refl _ _).alloc (Nat.le_refl _) _⟩
  · go_enter Try.func18, Try.ntmps18
    go_wp2_with fail
    refine (isnan_any _ _).mono ?_
    rintro e w1 ⟨rfl, hw1⟩
    subst hw1
    go_wp2_with fail
    go_ret
    exact ⟨rfl, (Below.refl _ _).alloc (Nat.le_refl _) _⟩

set_option maxHeartbeats 1000000 in
theorem skyMiss (s : Int) (t d p : Nat) (di : Int) (sp v r : Nat) (we cl : Int) (w : World) : Calls Try.prog 20 #[ob s t d p di sp v r we cl] w fun e w' => e = .returned (.bool ((we == -1) && (cl == -1))) ∧ Below w.heap.size w w' := by
  cases c : (we == -1)
  · go_enter Try.func20, Try.ntmps20
    go_wp2_with fail
    go_ret
    exact ⟨rfl, (Below.refl _ _).alloc (Nat.le_refl _) _⟩
  · go_enter Try.func20, Try.ntmps20
    go_wp2_with fail
    go_ret
    exact ⟨rfl, (Below.refl _ _).alloc (Nat.le_refl _) _⟩

set_option maxHeartbeats 1000000 in
theorem skyRight (we cl : Int) (w : World) : Calls Try.prog 21 #[.agg #[.int .i64 we, .int .i64 cl]] w fun e w' => e = .returned (.bool (inB we 0 99 && inB cl 0 8)) ∧ Below w.heap.size w w' := by
  cases c : inB we 0 99
  · go_enter Try.func21, Try.ntmps21
    go_wp2_with fail
    refine (within_any _ _ _ _).mono ?_
    rintro e w1 ⟨rfl, hw1⟩
    subst hw1
    rw [c]
    go_wp2_with fail
    go_ret
    exact ⟨rfl, (Below.refl _ _).alloc (Nat.le_refl _) _⟩
  · go_enter Try.func21, Try.ntmps21
    go_wp2_with fail
    refine (within_any _ _ _ _).mono ?_
    rintro e w1 ⟨rfl, hw1⟩
    subst hw1
    rw [c]
    go_wp2_with fail
    refine (within_any _ _ _ _).mono ?_
    rintro e w1 ⟨rfl, hw1⟩
    subst hw1
    go_wp2_with fail
    go_ret
    exact ⟨rfl, (Below.refl _ _).alloc (Nat.le_refl _) _⟩

/-- A block with two cells that may be written. -/
def Bx (w : World) (k : Nat) (x y : Value) : Prop := w.cell? ⟨k, 0, none⟩ = some x ∧ w.cell? ⟨k, 1, none⟩ = some y ∧ w.frozen? ⟨k, 0, none⟩ = false ∧ w.frozen? ⟨k, 1, none⟩ = false ∧ k < w.heap.size
theorem Bx.below {w w' : World} {k B : Nat} {x y : Value} (h : Bx w k x y) (hb : Below B w w') (hB : k < B) : Bx w' k x y :=
  ⟨(hb.cell (p := ⟨k, 0, none⟩) hB).trans h.1, (hb.cell (p := ⟨k, 1, none⟩) hB).trans h.2.1, (hb.frozen (p := ⟨k, 0, none⟩) hB).trans h.2.2.1, (hb.frozen (p := ⟨k, 1, none⟩) hB).trans h.2.2.2.1, Nat.lt_of_lt_of_le h.2.2.2.2 hb.size⟩
theorem Bx.on {w w' : World} {k : Nat} {x y : Value} (h : Bx w k x y) (hb : Below w.heap.size w w') : Bx w' k x y := h.below hb h.2.2.2.2
theorem Bx.new (w : World) (x y : Value) (t : TypeId) : Bx (w.alloc (.cells #[x, y] t)) w.heap.size x y := by
  refine ⟨?_, ?_, ?_, ?_, ?_⟩ <;> simp [go_sem]

set_option maxHeartbeats 1000000 in
theorem blowRight (d : Int) (s : Nat) (w : World) (hs : s < 18446744073709551616) : Calls Try.prog 19 #[wd d s] w fun e w' => e = .returned (.bool (sw s 10 0 99 && wok d s)) ∧ Below w.heap.size w w' := by
  have HS : Hid (s < 18446744073709551616) := hs
  clear hs
  cases c : sw s 10 0 99
  · go_enter Try.func19, Try.ntmps19
    go_wp2_with fail
    refine (stepsIn_any _ _ _ _ _ HS.out (by decide)).mono ?_
    rintro e w1 ⟨rfl, b1⟩
    rw [c]
    have B1 : Hid (Below w.heap.size w w1) := ((Below.refl _ _).alloc (Nat.le_refl _) _).trans (b1.mono (by simp))
    clear b1
    go_wp2_with fail
    go_ret
    exact ⟨rfl, B1.out⟩
  · go_enter Try.func19, Try.ntmps19
    go_wp2_with fail
    refine (stepsIn_any _ _ _ _ _ HS.out (by decide)).mono ?_
    rintro e w1 ⟨rfl, b1⟩
    rw [c]
    have B1 : Hid (Below w.heap.size w w1) := ((Below.refl _ _).alloc (Nat.le_refl _) _).trans (b1.mono (by simp))
    obtain ⟨x0, x1, x2, x3, x4⟩ := (Bx.new w (.int .i64 d) (.float .f64 s) 37).on b1
    clear b1
    go_wp2_with fail
    refine (iwok _ _ _ HS.out).mono ?_
    rintro e w2 ⟨rfl, b2⟩
    have B2 : Hid (Below w.heap.size w w2) := B1.out.trans (b2.mono B1.out.size)
    clear b2
    go_wp2_with fail
    go_ret
    exact ⟨rfl, B2.out⟩
end Go.Proofs.Ytngchoonfheckaa.Flt
