/- The value of a point, missing beyond the grid: the model. -/
import Derived.Test.YtplichonohoacaaGsA
namespace Go.Proofs.Ytplichonohoacaa.Gd
open Go.ChangeShapes Go.WideShapes Go.ChangeAt Go.RowKit
open Go.Proofs.Ytplichonohoacaa.Flt

def there (r c i j : Int) : Bool := inn i 0 (r - 1) && inn j 0 (c - 1)
def nearV (r c : Int) (L : List Nat) (i j : Int) : Nat := if there r c i j then cn (L.getD (i * c + j).toNat 0) else qn
theorem place_le {r c i j : Int} (h : there r c i j = true) (hc : 2 ≤ c) : 0 ≤ i * c ∧ i * c + c ≤ r * c ∧ 0 ≤ j ∧ j < c ∧ 0 ≤ i ∧ i < r := by
  unfold there at h
  simp only [Bool.and_eq_true, inn_iff] at h
  obtain ⟨⟨h1, h2⟩, h3, h4⟩ := h
  have e1 : 0 ≤ i * c := Int.mul_nonneg h1 (by omega)
  have e2 : (i + 1) * c ≤ r * c := Int.mul_le_mul_of_nonneg_right (by omega) (by omega)
  rw [Int.add_mul] at e2
  exact ⟨e1, by omega, h3, by omega, h1, by omega⟩

set_option maxRecDepth 20000 in
set_option maxHeartbeats 2000000 in
theorem near_any (r c s ws st : Int) (L : List Nat) (v : Value) (i j : Int) (w : World) (hL : Fls.Reads w v L) (hr : 2 ≤ r ∧ r ≤ 64) (hc : 2 ≤ c ∧ c ≤ 64) (hn : (L.length : Int) = r * c) :
    Calls Try.prog 19 #[gv r c s ws st, v, .int .i64 i, .int .i64 j] w fun e w' => ∃ x, e = .returned (.float .f64 x) ∧ cn x = nearV r c L i j ∧ Below w.heap.size w w' := by
  have IN : Hid (∀ (n a b : Int) (w : World), Calls Try.prog 32 #[.int .i64 n, .int .i64 a, .int .i64 b] w fun e w' => e = .returned (.bool (inn n a b)) ∧ w' = w) := fun n a b w => s_in n a b w
  have I1 : Hid (∀ w, Calls Try.prog 32 #[.int .i64 i, .int .i64 0, .int .i64 (r - 1)] w fun e w' => e = .returned (.bool (inn i 0 (r - 1))) ∧ w' = w) := fun w => s_in _ _ _ w
  have I2 : Hid (∀ w, Calls Try.prog 32 #[.int .i64 j, .int .i64 0, .int .i64 (c - 1)] w fun e w' => e = .returned (.bool (inn j 0 (c - 1))) ∧ w' = w) := fun w => s_in _ _ _ w
  have B0 : Hid (Below w.heap.size w (w.alloc (Obj.cells #[.int .i64 r, .int .i64 c, .int .i64 s, .int .i64 ws, .int .i64 st] 26))) := (Below.refl _ _).alloc (Nat.le_refl _) _
  obtain ⟨a, cap, hv⟩ := hL.form
  have HE : Hid (nearV r c L i j = if inn i 0 (r - 1) && inn j 0 (c - 1) then cn (L.getD (i * c + j).toNat 0) else qn) := rfl
  obtain ⟨N, hN⟩ : ∃ N, N = nearV r c L i j := ⟨_, rfl⟩
  rw [← hN] at HE ⊢
  clear hN IN
  cases h1 : inn i 0 (r - 1)
  · rw [h1] at I1
    have HT : Hid (N = qn) := (by show _ = _; rw [HE.out, h1]; rfl)
    clear HE I2 h1
    subst hv
    go_enter Try.func19, Try.ntmps19
    go_wp2_with fail
    refine (I1.out _).mono ?_
    rintro e w1 ⟨rfl, hw⟩
    subst hw
    go_wp2_with fail
    refine (Flt.none_any _).mono ?_
    rintro e w9 ⟨z, rfl, hz, _, hw9⟩
    have HZ : Hid (cn z = qn) := hz
    have B9 : Hid (Below w.heap.size w w9) := (by show Below _ _ _; rw [hw9]; exact below_drewN B0.out 1)
    clear hz hw9
    go_wp2_with fail
    go_ret
    exact ⟨z, rfl, HZ.out.trans HT.out.symm, B9.out⟩
  cases h2 : inn j 0 (c - 1)
  · rw [h1] at I1
    rw [h2] at I2
    have HT : Hid (N = qn) := (by show _ = _; rw [HE.out, h1, h2]; rfl)
    clear HE h1 h2
    subst hv
    go_enter Try.func19, Try.ntmps19
    go_wp2_with fail
    refine (I1.out _).mono ?_
    rintro e w1 ⟨rfl, hw⟩
    subst hw
    go_wp2_with fail
    refine (I2.out _).mono ?_
    rintro e w2 ⟨rfl, hw⟩
    subst hw
    go_wp2_with fail
    refine (Flt.none_any _).mono ?_
    rintro e w9 ⟨z, rfl, hz, _, hw9⟩
    have HZ : Hid (cn z = qn) := hz
    have B9 : Hid (Below w.heap.size w w9) := (by show Below _ _ _; rw [hw9]; exact below_drewN B0.out 1)
    clear hz hw9
    go_wp2_with fail
    go_ret
    exact ⟨z, rfl, HZ.out.trans HT.out.symm, B9.out⟩
  · obtain ⟨p0, p1, p2, p3, p4, p5⟩ := place_le (r := r) (c := c) (i := i) (j := j) (by unfold there; rw [h1, h2]; rfl) hc.1
    have pl := prod_le2 hr hc
    rw [h1] at I1
    rw [h2] at I2
    obtain ⟨p, hp⟩ : ∃ p, p = i * c := ⟨_, rfl⟩
    have j1 : wrap64 (i * c) = p := by rw [hp]; exact IntWalk.wrap64_in _ (by omega)
    obtain ⟨k, hk⟩ : ∃ k : Nat, i * c + j = (k : Int) := ⟨(i * c + j).toNat, by omega⟩
    have HT : Hid (N = cn (L.getD k 0)) := (by show _ = _; rw [HE.out, h1, h2, hk]; rfl)
    have kl : k < L.length := by omega
    have hk' : p + j = (k : Int) := by rw [hp]; exact hk
    obtain ⟨b, o, hcel, hv2⟩ := reads_at hL
    obtain ⟨hb, cap2, rfl⟩ := hv2 (by omega)
    have q := (B0.out.cell (p := ⟨b, o + k, none⟩) hb).trans (hcel k kl)
    have z1 : (0 : Int) ≤ (k : Int) := by omega
    have z2 : (k : Int) < (L.length : Int) := by omega
    have b1 : 0 ≤ p ∧ p ≤ 4096 ∧ j < 64 := by omega
    obtain ⟨n, hn⟩ : ∃ n, n = L.length := ⟨_, rfl⟩
    rw [← hn] at z2 ⊢
    clear HE h1 h2 hk hp hcel hv2 hv kl hn p0 p1
    generalize L.getD k 0 = x at *
    go_enter Try.func19, Try.ntmps19
    go_wp2_with fail
    refine (I1.out _).mono ?_
    rintro e w1 ⟨rfl, hw⟩
    subst hw
    go_wp2_with fail
    refine (I2.out _).mono ?_
    rintro e w2 ⟨rfl, hw⟩
    subst hw
    go_wp2_with fail
    go_ret
    exact ⟨x, rfl, HT.out.symm, B0.out⟩
end Go.Proofs.Ytplichonohoacaa.Gd
