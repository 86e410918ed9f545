/- The sines in the model. -/
import Derived.Test.YtgnnmepjdmcecaaSin
namespace Go.Proofs.Ytgnnmepjdmcecaa.Flt
open Go.ChangeShapes Go.WideShapes Go.ChangeAt Go.RowKit
attribute [local go_sem] run_store_float

theorem tm_bound (k : Int) : -36 < k.tmod 36 ∧ k.tmod 36 < 36 := by
  rcases Int.le_total 0 k with h | h
  · rw [Int.tmod_eq_emod_of_nonneg h]; omega
  · have := Int.neg_tmod (-k) 36
    rw [Int.neg_neg] at this
    rw [this, Int.tmod_eq_emod_of_nonneg (by omega)]; omega
theorem tm_pos (k : Int) (h : 0 ≤ k) : k.tmod 36 = k % 36 := Int.tmod_eq_emod_of_nonneg h
def md (k : Int) : Int := (k.tmod 36 + 36).tmod 36
theorem md_bound (k : Int) : 0 ≤ md k ∧ md k < 36 := by
  unfold md
  have := tm_bound k
  rw [tm_pos _ (by omega)]
  omega

set_option maxHeartbeats 1000000 in
theorem ssine (n : Int) (w : World) : Calls Try.prog 31 #[.int .i64 n] w fun e w' => ∃ b, e = .returned (.float .f64 b) ∧ cn b = sine (md n) ∧ Below w.heap.size w w' := by
  have hs : ∀ x y w, (binOp .sub 27 (.float .f64 x) (.float .f64 y)).run Try.prog w = .ok (.float .f64 (opB .sub x y w)) (w.drewN (opD .sub x y)) := fun x y w => run_op Try.prog .sub arSub 30 x y w
  obtain ⟨h0, h1⟩ := md_bound n
  obtain ⟨b0, b1⟩ := tm_bound n
  obtain ⟨r, hr⟩ : ∃ r, n.tmod 36 = r := ⟨_, rfl⟩
  have hk : (r + 36).tmod 36 = md n := by rw [← hr]; rfl
  obtain ⟨k, hkk⟩ : ∃ k, md n = k := ⟨_, rfl⟩
  rw [hkk] at hk h0 h1 ⊢
  rw [hr] at b0 b1
  clear hkk
  by_cases h9 : k ≤ 9
  · skip
    have ht := tb (k).toNat (by omega)
    have EN : Hid (cn (sn (k).toNat) = sn (k).toNat) := sn_num _ (by omega)
    have ES : Hid (sine k = sn (k).toNat) := (by show sine k = _; unfold sine; rw [if_pos h9])
    generalize sn (k).toNat = z at *
    go_enter Try.func31, Try.ntmps31
    go_wp2
    go_ret
    exact ⟨_, rfl, by rw [EN.out]; exact (ES.out).symm, (by first | exact (Below.refl _ _).alloc (Nat.le_refl _) _ | exact below_drewN ((Below.refl _ _).alloc (Nat.le_refl _) _) _)⟩
  · by_cases h18 : k ≤ 18
    · skip
      have ht := tb (18 - k).toNat (by omega)
      have EN : Hid (cn (sn (18 - k).toNat) = sn (18 - k).toNat) := sn_num _ (by omega)
      have ES : Hid (sine k = sn (18 - k).toNat) := (by show sine k = _; unfold sine; rw [if_neg h9, if_pos h18])
      generalize sn (18 - k).toNat = z at *
      go_enter Try.func31, Try.ntmps31
      go_wp2
      go_ret
      exact ⟨_, rfl, by rw [EN.out]; exact (ES.out).symm, (by first | exact (Below.refl _ _).alloc (Nat.le_refl _) _ | exact below_drewN ((Below.refl _ _).alloc (Nat.le_refl _) _) _)⟩
    · by_cases h27 : k ≤ 27
      · skip
        have ht := tb (k - 18).toNat (by omega)
        have EN : Hid (cn (sn (k - 18).toNat) = sn (k - 18).toNat) := sn_num _ (by omega)
        have ES : Hid (sine k = opF .sub 0 (sn (k - 18).toNat)) := (by show sine k = _; unfold sine; rw [if_neg h9, if_neg h18, if_pos h27])
        generalize sn (k - 18).toNat = z at *
        go_enter Try.func31, Try.ntmps31
        go_wp2
        go_ret
        exact ⟨_, rfl, by rw [cn_op, EN.out]; exact (ES.out).symm, (by first | exact (Below.refl _ _).alloc (Nat.le_refl _) _ | exact below_drewN ((Below.refl _ _).alloc (Nat.le_refl _) _) _)⟩
      · skip
        have ht := tb (36 - k).toNat (by omega)
        have EN : Hid (cn (sn (36 - k).toNat) = sn (36 - k).toNat) := sn_num _ (by omega)
        have ES : Hid (sine k = opF .sub 0 (sn (36 - k).toNat)) := (by show sine k = _; unfold sine; rw [if_neg h9, if_neg h18, if_neg h27])
        generalize sn (36 - k).toNat = z at *
        go_enter Try.func31, Try.ntmps31
        go_wp2
        go_ret
        exact ⟨_, rfl, by rw [cn_op, EN.out]; exact (ES.out).symm, (by first | exact (Below.refl _ _).alloc (Nat.le_refl _) _ | exact below_drewN ((Below.refl _ _).alloc (Nat.le_refl _) _) _)⟩

end Go.Proofs.Ytgnnmepjdmcecaa.Flt
