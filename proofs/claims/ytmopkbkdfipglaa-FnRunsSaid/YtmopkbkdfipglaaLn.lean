/- How many bits a number wants: bits.Len64. -/
import Derived.Test.YtmopkbkdfipglaaGp
import Derived.Test.YtmopkbkdfipglaaLb
import Derived.Lib.BitFns
namespace Go.Proofs.Ytmopkbkdfipglaa.Lists
open Go.ChangeShapes Go.WideShapes Go.ChangeAt Go.RowKit

theorem wdN_shift (x s : Nat) (h : 2 ^ s ≤ x) : wdN x = s + wdN (x / 2 ^ s) := by
  have hp : 0 < 2 ^ s := Nat.pow_pos (by omega)
  have hd : 0 < x / 2 ^ s := Nat.div_pos h hp
  refine (wdN_unique (w := s + wdN (x / 2 ^ s)) ?_ ?_).symm
  · have := wdN_lt (x / 2 ^ s)
    rw [Nat.pow_add]
    rw [Nat.div_lt_iff_lt_mul hp] at this
    rwa [Nat.mul_comm]
  · right
    have := wdN_ge (x / 2 ^ s)
    have h0 : wdN (x / 2 ^ s) ≠ 0 := by
      intro e
      have := wdN_lt (x / 2 ^ s)
      rw [e] at this
      omega
    rcases this with q | q
    · exact absurd q h0
    · rw [show s + wdN (x / 2 ^ s) - 1 = s + (wdN (x / 2 ^ s) - 1) by omega, Nat.pow_add]
      calc 2 ^ s * 2 ^ (wdN (x / 2 ^ s) - 1) ≤ 2 ^ s * (x / 2 ^ s) := Nat.mul_le_mul_left _ q
        _ ≤ x := Nat.mul_div_le _ _

theorem wdN_half (x : Nat) (h : x ≠ 0) : wdN x = 1 + wdN (x / 2) := by
  by_cases h1 : x = 1
  · subst h1; decide
  · exact wdN_shift x 1 (by omega)
theorem bl_wd : ∀ (f x : Nat), x < 2 ^ f → Lib.bitLenAux f x = wdN x
  | 0, x, h => by
    have : x = 0 := by simpa using h
    subst this
    rfl
  | f + 1, x, h => by
    rw [Lib.bitLenAux]
    split
    · subst_vars; rfl
    · rename_i h0
      rw [bl_wd f (x / 2) (by rw [Nat.pow_succ] at h; omega), ← wdN_half x h0]
theorem ilen_any (x : Nat) (hx : x < 18446744073709551616) (w : World) : Calls Try.prog 66 #[.int .u64 (x : Int)] w fun e w' => e = .returned (.int .i64 (wdN x : Int)) ∧ w' = w := by
  have h := Try.bits_Len64 (x : Int) w (by omega) (by omega)
  rw [Int.toNat_natCast] at h
  unfold Lib.bitLen at h
  rw [bl_wd 64 x (by simpa using hx)] at h
  exact h
end Go.Proofs.Ytmopkbkdfipglaa.Lists
