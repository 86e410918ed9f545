/- Whether a cell lies at the edge: both sides. -/
import Derived.Test.YtagkbglgdmajhaaDq
import Derived.Test.YtagkbglgdmajhaaBxS
import Derived.Deep.DeepCutAuto
import Derived.Deep.QuietTactic
namespace Go.Proofs.Ytagkbglgdmajhaa.Hm
open Go.ChangeShapes Go.WideShapes Go.ChangeAt Go.RowKit
open Go.Proofs.Ytagkbglgdmajhaa.Lists Go.Proofs.Ytagkbglgdmajhaa.Dp

set_option maxRecDepth 20000 in
set_option maxHeartbeats 2000000 in
theorem sedge_any (r c : Int) (x : Nat) (hr : 1 ≤ r ∧ r ≤ 24) (hc : 1 ≤ c ∧ c ≤ 24) (hx : x < 576) (u : Value) (w : World) :
    Calls Try.prog 20 #[Bx.sv r c u, .int .i64 x] w fun e w' => e = .returned (.bool (edB r c x)) ∧ Below w.heap.size w w' := by
  have td : (x : Int).tdiv c = (x : Int) / c := Int.tdiv_eq_ediv_of_nonneg (by omega)
  have tm : (x : Int).tmod c = (x : Int) % c := Int.tmod_eq_emod_of_nonneg (by omega)
  have i1 : 0 ≤ (x : Int) / c ∧ (x : Int) / c ≤ x := ⟨Int.ediv_nonneg (by omega) (by omega), Int.ediv_le_self c (by omega)⟩
  have j1 : 0 ≤ (x : Int) % c ∧ (x : Int) % c < c := ⟨Int.emod_nonneg _ (by omega), Int.emod_lt_of_pos _ (by omega)⟩
  obtain ⟨r1, r2⟩ := hr
  obtain ⟨c1, c2⟩ := hc
  obtain ⟨q, hq⟩ : ∃ q, edB r c x = q := ⟨_, rfl⟩
  have HQ : Hid (((x : Int) / c == 0 || (x : Int) % c == 0 || (x : Int) / c == r - 1 || (x : Int) % c == c - 1) = q) := hq
  rw [hq]
  have wi : IntKind.i64.wrap ((x : Int) / c) = (x : Int) / c := IntWalk.i64_in _ (by omega)
  generalize (x : Int) / c = i at *
  generalize (x : Int) % c = j at *
  obtain ⟨i1, i2⟩ := i1
  obtain ⟨j1, j2⟩ := j1
  have cz : ¬ c = 0 := by omega
  have w1 : IntKind.i64.wrap (r - 1) = r - 1 := IntWalk.i64_in _ (by omega)
  have w2 : IntKind.i64.wrap (c - 1) = c - 1 := IntWalk.i64_in _ (by omega)
  have B1 : Below w.heap.size w (w.alloc (Obj.cells #[.int .i64 r, .int .i64 c, u] 28)) := (Below.refl _ _).alloc (Nat.le_refl _) _
  have z0 : (w.alloc (Obj.cells #[.int .i64 r, .int .i64 c, u] 28)).cell? ⟨w.heap.size, 0, none⟩ = some (.int .i64 r) := by simp [go_sem]
  have z1 : (w.alloc (Obj.cells #[.int .i64 r, .int .i64 c, u] 28)).cell? ⟨w.heap.size, 1, none⟩ = some (.int .i64 c) := by simp [go_sem]
  obtain ⟨wa, hwa⟩ : ∃ wa, wa = w.alloc (Obj.cells #[.int .i64 r, .int .i64 c, u] 28) := ⟨_, rfl⟩
  have HWA : Hid (wa = w.alloc (Obj.cells #[.int .i64 r, .int .i64 c, u] 28)) := hwa
  rw [← hwa] at B1 z0 z1
  have BB : Hid (∀ n, Below w.heap.size w (wa.drewN n)) := fun n => Bx.below_drewN B1 n
  clear hwa hq B1 hx
  by_cases t0 : i = 0
  · have s0 : (i == 0) = true := by simpa using t0
    have hq : q = true := by rw [← HQ.out]; simp [t0]
    subst hq
    clear HQ
    go_enter Try.func20, Try.ntmps20
    go_wp2_with fail
    rw [← HWA.out]
    go_wp2_with fail
    go_ret
    exact ⟨rfl, BB.out 0⟩
  · have s0 : (i == 0) = false := by simpa using t0
    by_cases t1 : j = 0
    · have s1 : (j == 0) = true := by simpa using t1
      have hq : q = true := by rw [← HQ.out]; simp [t1]
      subst hq
      clear HQ
      go_enter Try.func20, Try.ntmps20
      go_wp2_with fail
      rw [← HWA.out]
      go_wp2_with fail
      go_ret
      exact ⟨rfl, BB.out 0⟩
    · have s1 : (j == 0) = false := by simpa using t1
      by_cases t2 : i = r - 1
      · have s2 : (i == r - 1) = true := by simpa using t2
        have hq : q = true := by rw [← HQ.out]; simp [t2]
        subst hq
        clear HQ
        go_enter Try.func20, Try.ntmps20
        go_wp2_with fail
        rw [← HWA.out]
        go_wp2_with fail
        go_ret
        exact ⟨rfl, BB.out 0⟩
      · have s2 : (i == r - 1) = false := by simpa using t2
        by_cases t3 : j = c - 1
        · have s3 : (j == c - 1) = true := by simpa using t3
          have hq : q = true := by rw [← HQ.out]; simp [t3]
          subst hq
          clear HQ
          go_enter Try.func20, Try.ntmps20
          go_wp2_with fail
          rw [← HWA.out]
          go_wp2_with fail
          go_ret
          exact ⟨rfl, BB.out 0⟩
        · have s3 : (j == c - 1) = false := by simpa using t3
          have hq : q = false := by rw [← HQ.out]; simp [t0, t1, t2, t3]
          subst hq
          clear HQ
          go_enter Try.func20, Try.ntmps20
          go_wp2_with fail
          rw [← HWA.out]
          go_wp2_with fail
          go_ret
          exact ⟨rfl, BB.out 0⟩
set_option maxRecDepth 20000 in
set_option maxHeartbeats 2000000 in
theorem iedge_any (r c : Int) (x : Nat) (hr : 1 ≤ r ∧ r ≤ 24) (hc : 1 ≤ c ∧ c ≤ 24) (hx : x < 576) (u : Value) (w : World) :
    Calls Try.prog 24 #[Bx.sv r c u, .int .i64 x] w fun e w' => e = .returned (.bool (edB r c x)) ∧ Below w.heap.size w w' := by
  have td : (x : Int).tdiv c = (x : Int) / c := Int.tdiv_eq_ediv_of_nonneg (by omega)
  have tm : (x : Int).tmod c = (x : Int) % c := Int.tmod_eq_emod_of_nonneg (by omega)
  have i1 : 0 ≤ (x : Int) / c ∧ (x : Int) / c ≤ x := ⟨Int.ediv_nonneg (by omega) (by omega), Int.ediv_le_self c (by omega)⟩
  have j1 : 0 ≤ (x : Int) % c ∧ (x : Int) % c < c := ⟨Int.emod_nonneg _ (by omega), Int.emod_lt_of_pos _ (by omega)⟩
  obtain ⟨r1, r2⟩ := hr
  obtain ⟨c1, c2⟩ := hc
  obtain ⟨q, hq⟩ : ∃ q, edB r c x = q := ⟨_, rfl⟩
  have HQ : Hid (((x : Int) / c == 0 || (x : Int) % c == 0 || (x : Int) / c == r - 1 || (x : Int) % c == c - 1) = q) := hq
  rw [hq]
  have wi : IntKind.i64.wrap ((x : Int) / c) = (x : Int) / c := IntWalk.i64_in _ (by omega)
  generalize (x : Int) / c = i at *
  generalize (x : Int) % c = j at *
  obtain ⟨i1, i2⟩ := i1
  obtain ⟨j1, j2⟩ := j1
  have cz : ¬ c = 0 := by omega
  have w1 : IntKind.i64.wrap (r - 1) = r - 1 := IntWalk.i64_in _ (by omega)
  have w2 : IntKind.i64.wrap (c - 1) = c - 1 := IntWalk.i64_in _ (by omega)
  have B1 : Below w.heap.size w (w.alloc (Obj.cells #[.int .i64 r, .int .i64 c, u] 28)) := (Below.refl _ _).alloc (Nat.le_refl _) _
  have z0 : (w.alloc (Obj.cells #[.int .i64 r, .int .i64 c, u] 28)).cell? ⟨w.heap.size, 0, none⟩ = some (.int .i64 r) := by simp [go_sem]
  have z1 : (w.alloc (Obj.cells #[.int .i64 r, .int .i64 c, u] 28)).cell? ⟨w.heap.size, 1, none⟩ = some (.int .i64 c) := by simp [go_sem]
  obtain ⟨wa, hwa⟩ : ∃ wa, wa = w.alloc (Obj.cells #[.int .i64 r, .int .i64 c, u] 28) := ⟨_, rfl⟩
  have HWA : Hid (wa = w.alloc (Obj.cells #[.int .i64 r, .int .i64 c, u] 28)) := hwa
  rw [← hwa] at B1 z0 z1
  have BB : Hid (∀ n, Below w.heap.size w (wa.drewN n)) := fun n => Bx.below_drewN B1 n
  clear hwa hq B1 hx
  by_cases t0 : i = 0
  · have s0 : (i == 0) = true := by simpa using t0
    have hq : q = true := by rw [← HQ.out]; simp [t0]
    subst hq
    clear HQ
    go_enter Try.func24, Try.ntmps24
    go_wp2_with fail
    rw [← HWA.out]
    go_quiet (fail)
    go_wp2_with fail
    go_ret
    exact ⟨rfl, BB.out _⟩
  · have s0 : (i == 0) = false := by simpa using t0
    by_cases t1 : i = r - 1
    · have s1 : (i == r - 1) = true := by simpa using t1
      have hq : q = true := by rw [← HQ.out]; simp [t1]
      subst hq
      clear HQ
      go_enter Try.func24, Try.ntmps24
      go_wp2_with fail
      rw [← HWA.out]
      go_quiet (fail)
      go_wp2_with fail
      go_ret
      exact ⟨rfl, BB.out _⟩
    · have s1 : (i == r - 1) = false := by simpa using t1
      by_cases t2 : j = 0
      · have s2 : (j == 0) = true := by simpa using t2
        have hq : q = true := by rw [← HQ.out]; simp [t2]
        subst hq
        clear HQ
        go_enter Try.func24, Try.ntmps24
        go_wp2_with fail
        rw [← HWA.out]
        go_quiet (fail)
        go_wp2_with fail
        go_ret
        exact ⟨rfl, BB.out _⟩
      · have s2 : (j == 0) = false := by simpa using t2
        by_cases t3 : j = c - 1
        · have s3 : (j == c - 1) = true := by simpa using t3
          have hq : q = true := by rw [← HQ.out]; simp [t3]
          subst hq
          clear HQ
          go_enter Try.func24, Try.ntmps24
          go_wp2_with fail
          rw [← HWA.out]
          go_quiet (fail)
          go_wp2_with fail
          go_ret
          exact ⟨rfl, BB.out _⟩
        · have s3 : (j == c - 1) = false := by simpa using t3
          have hq : q = false := by rw [← HQ.out]; simp [t0, t1, t2, t3]
          subst hq
          clear HQ
          go_enter Try.func24, Try.ntmps24
          go_wp2_with fail
          rw [← HWA.out]
          go_quiet (fail)
          go_wp2_with fail
          go_ret
          exact ⟨rfl, BB.out _⟩
end Go.Proofs.Ytagkbglgdmajhaa.Hm
