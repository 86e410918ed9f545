/- z / 10^p * 10^p in float64: nearest to it is z, for every z of at most 1e15 and p of at most 6. -/
import Derived.Test.YtilgifehilomgaaDoorFltG
import Derived.Test.YtilgifehilomgaaDoorTen
namespace Go.Proofs.YtilgifehilomgaaDoor.Flt
open Ieee

def trip (z : Int) (p : Nat) : Option (Bool × Bool × Int) :=
  (double.div (floatOfInt .f64 z) (tenF p)).bind fun q => (double.mul q (tenF p)).map fun m => (decide (rng q < 9218868437227405312), decide (rng m ≤ 4831355200913801216), near m)

theorem of_trip (z : Int) (p : Nat) (h : trip z p = some (true, true, z)) : ∃ q m, double.div (floatOfInt .f64 z) (tenF p) = some q ∧ double.mul q (tenF p) = some m ∧ rng q < 9218868437227405312 ∧ rng m ≤ 4831355200913801216 ∧ near m = z := by
  unfold trip at h
  cases h1 : double.div (floatOfInt .f64 z) (tenF p) with
  | none => rw [h1] at h; cases h
  | some q =>
    rw [h1] at h
    cases h2 : double.mul q (tenF p) with
    | none =>
      have h' : (double.mul q (tenF p)).map (fun m => (decide (rng q < 9218868437227405312), decide (rng m ≤ 4831355200913801216), near m)) = some (true, true, z) := h
      rw [h2] at h'; cases h'
    | some m =>
      have h' : (double.mul q (tenF p)).map (fun m => (decide (rng q < 9218868437227405312), decide (rng m ≤ 4831355200913801216), near m)) = some (true, true, z) := h
      rw [h2] at h'
      have h3 := Option.some.inj h'
      have a := congrArg (fun t => t.1) h3
      have b := congrArg (fun t => t.2.1) h3
      have c := congrArg (fun t => t.2.2) h3
      exact ⟨q, m, rfl, h2, of_decide_eq_true a, of_decide_eq_true b, c⟩

theorem trip_edge (z : Int) (p : Nat) (hp : p ≤ 6) (hz : z = 0 ∨ z = 1000000000000000 ∨ z = -1000000000000000) : trip z p = some (true, true, z) := by
  rcases (by omega : p = 0 ∨ p = 1 ∨ p = 2 ∨ p = 3 ∨ p = 4 ∨ p = 5 ∨ p = 6) with rfl | rfl | rfl | rfl | rfl | rfl | rfl <;> rcases hz with rfl | rfl | rfl <;> decide +kernel

theorem ten_val (p : Nat) (hp : p ≤ 6) : val (rng (tenF p)) = 10 ^ p * U ∧ sgn (tenF p) = false ∧ rng (tenF p) < 9218868437227405312 := by
  rcases (by omega : p = 0 ∨ p = 1 ∨ p = 2 ∨ p = 3 ∨ p = 4 ∨ p = 5 ∨ p = 6) with rfl | rfl | rfl | rfl | rfl | rfl | rfl <;> decide +kernel
theorem ten_le (p : Nat) (hp : p ≤ 6) : 1 ≤ 10 ^ p ∧ 10 ^ p ≤ 1000000 := by
  rcases (by omega : p = 0 ∨ p = 1 ∨ p = 2 ∨ p = 3 ∨ p = 4 ∨ p = 5 ∨ p = 6) with rfl | rfl | rfl | rfl | rfl | rfl | rfl <;> decide

theorem back (z : Int) (p : Nat) (hz : z.natAbs ≤ 1000000000000000) (hp : p ≤ 6) : ∃ q m, double.div (floatOfInt .f64 z) (tenF p) = some q ∧ double.mul q (tenF p) = some m ∧ rng q < 9218868437227405312 ∧ rng m ≤ 4831355200913801216 ∧ near m = z := by
  by_cases he : z = 0 ∨ z = 1000000000000000 ∨ z = -1000000000000000
  · exact of_trip z p (trip_edge z p hp he)
  · have hU := U_pos
    obtain ⟨f1, f2, f3⟩ := fl_num z (by omega)
    obtain ⟨t1, t2, t3⟩ := ten_val p hp
    obtain ⟨p1, p2⟩ := ten_le p hp
    have key : val (rng (floatOfInt .f64 z)) = z.natAbs * U ∧ sgn (floatOfInt .f64 z) = decide (z < 0) := by
      rcases num_cases (floatOfInt .f64 z) with ⟨a, b⟩ | ⟨a, b⟩
      · rw [f2] at b
        have z0 : 0 ≤ z := by
          by_cases c : z < 0
          · have : z * (U : Int) < 0 := Int.mul_neg_of_neg_of_pos c (by omega)
            omega
          · omega
        obtain ⟨n, rfl⟩ : ∃ n : Nat, z = n := ⟨z.toNat, by omega⟩
        refine ⟨?_, by rw [a, decide_eq_false (by omega)]⟩
        have : ((n * U : Nat) : Int) = ((val (rng (floatOfInt .f64 n)) : Nat) : Int) := by rw [Int.natCast_mul]; exact b
        have := Int.ofNat.inj this
        simp only [Int.natAbs_natCast]
        exact this.symm
      · rw [f2] at b
        have z0 : z < 0 := by
          by_cases c : 0 < z
          · have : 0 < z * (U : Int) := Int.mul_pos c (by omega)
            omega
          · omega
        obtain ⟨n, rfl⟩ : ∃ n : Nat, z = -(n : Int) := ⟨z.natAbs, by omega⟩
        refine ⟨?_, by rw [a, decide_eq_true z0]⟩
        have b' : (n : Int) * (U : Int) = (val (rng (floatOfInt .f64 (-(n : Int)))) : Int) := by
          rw [Int.neg_mul] at b
          omega
        have : ((n * U : Nat) : Int) = ((val (rng (floatOfInt .f64 (-(n : Int)))) : Nat) : Int) := by rw [Int.natCast_mul]; exact b'
        have := Int.ofNat.inj this
        simp only [Int.natAbs_neg, Int.natAbs_natCast]
        exact this.symm
    obtain ⟨q, r, e1, lq, e2, l, c1, c2⟩ := back_pos (floatOfInt .f64 z) (tenF p) z.natAbs (10 ^ p) f1 t3 key.1 t1 (by omega) hz p1 p2
    rw [t2] at e2
    have es : ((sgn (floatOfInt .f64 z) ^^ false) ^^ false) = decide (z < 0) := by rw [key.2]; simp
    rw [es] at e2
    obtain ⟨s1, s2, _⟩ := sgn_word (decide (z < 0)) r (by omega)
    refine ⟨q, _, e1, e2, lq, ?_, ?_⟩
    · rw [s2]
      by_cases c : 4831355200913801216 ≤ r
      · have v := val_mono c
        rw [val_top] at v
        have : (2 * z.natAbs + 1) * U ≤ 1999999999999999 * U := Nat.mul_le_mul_right _ (by omega)
        omega
      · omega
    · unfold near
      rw [s1, s2, rhe_is _ _ c1 c2]
      unfold sg
      by_cases c : z < 0
      · rw [decide_eq_true c]; simp; omega
      · rw [decide_eq_false c]; simp; omega
end Go.Proofs.YtilgifehilomgaaDoor.Flt
