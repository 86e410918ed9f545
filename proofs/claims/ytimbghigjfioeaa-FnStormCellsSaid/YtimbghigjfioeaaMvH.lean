/- Whether a cell is high: the model and the program. -/
import Derived.Test.YtimbghigjfioeaaBxI
import Derived.Test.YtimbghigjfioeaaBo
import Derived.Test.YtimbghigjfioeaaMvP
namespace Go.Proofs.Ytimbghigjfioeaa.Mv
open Go.ChangeShapes Go.WideShapes Go.ChangeAt Go.RowKit
open Go.Proofs.Ytimbghigjfioeaa.Lists

def hi (r c : Int) (L : List Int) (lv i j : Int) : Bool := Bx.inn i 0 (r - 1) && (Bx.inn j 0 (c - 1) && decide (lv ≤ L.getD (i * c + j).toNat 0))
theorem at_le {r c i j : Int} (hr : 1 ≤ r ∧ r ≤ 24) (hc : 1 ≤ c ∧ c ≤ 24) (hi : 0 ≤ i ∧ i ≤ r - 1) (hj : 0 ≤ j ∧ j ≤ c - 1) : 0 ≤ i * c ∧ i * c ≤ 552 ∧ i * c + j < r * c := by
  have h1 : 0 ≤ i * c := Int.mul_nonneg hi.1 (by omega)
  have h2 : i * c ≤ (r - 1) * c := Int.mul_le_mul_of_nonneg_right hi.2 (by omega)
  have h3 : (r - 1) * c = r * c - c := by rw [Int.sub_mul, Int.one_mul]
  have h4 : i * c ≤ 23 * c := Int.mul_le_mul_of_nonneg_right (by omega) (by omega)
  omega

set_option maxHeartbeats 1000000 in
theorem ihigh_any (r c : Int) (L : List Int) (lv i j : Int) (v : Value) (w : World) (hL : Lists.Reads w v L) (hr : 1 ≤ r ∧ r ≤ 24) (hc : 1 ≤ c ∧ c ≤ 24) (hn : (L.length : Int) = r * c) :
    Calls Try.prog 21 #[Bx.sv r c v, .int .i64 lv, .agg #[.int .i64 j, .int .i64 i]] w fun e w' => e = .returned (.bool (hi r c L lv i j)) ∧ Below w.heap.size w w' := by
  obtain ⟨r1, r2⟩ := hr
  obtain ⟨c1, c2⟩ := hc
  have B0 : Hid (Below w.heap.size w ((w.alloc (Obj.cells #[.int .i64 r, .int .i64 c, v] 26)).alloc (Obj.cells #[.int .i64 j, .int .i64 i] 44))) := ((Below.refl _ _).alloc (Nat.le_refl _) _).alloc (by simp) _
  have S1 : Hid (∀ w', Calls Try.prog 19 #[.int .i64 i, .int .i64 0, .int .i64 (r - 1)] w' fun e w'' => e = .returned (.bool (Bx.inn i 0 (r - 1))) ∧ w'' = w') := fun w' => Bx.i_in _ _ _ w'
  have S2 : Hid (∀ w', Calls Try.prog 19 #[.int .i64 j, .int .i64 0, .int .i64 (c - 1)] w' fun e w'' => e = .returned (.bool (Bx.inn j 0 (c - 1))) ∧ w'' = w') := fun w' => Bx.i_in _ _ _ w'
  cases e2 : Bx.inn j 0 (c - 1)
  · have HE : Hid (hi r c L lv i j = false) := (by show _ = _; unfold hi; rw [e2]; simp)
    rw [e2] at S2
    clear e2 S1 hL
    go_enter Try.func21, Try.ntmps21
    go_wp2_with fail
    refine (S2.out _).mono ?_
    rintro e w1 ⟨rfl, hw⟩
    subst hw
    go_wp2_with fail
    go_ret
    exact ⟨by rw [HE.out]; rfl, B0.out⟩
  cases e1 : Bx.inn i 0 (r - 1)
  · have HE : Hid (hi r c L lv i j = false) := (by show _ = _; unfold hi; rw [e1]; rfl)
    rw [e1] at S1
    rw [e2] at S2
    clear e1 e2 hL
    go_enter Try.func21, Try.ntmps21
    go_wp2_with fail
    refine (S2.out _).mono ?_
    rintro e w1 ⟨rfl, hw⟩
    subst hw
    go_wp2_with fail
    refine (S1.out _).mono ?_
    rintro e w1 ⟨rfl, hw⟩
    subst hw
    go_wp2_with fail
    go_ret
    exact ⟨by rw [HE.out]; rfl, B0.out⟩
  · have HE : Hid (hi r c L lv i j = decide (lv ≤ L.getD (i * c + j).toNat 0)) := (by show _ = _; unfold hi; rw [e1, e2]; rfl)
    rw [e1] at S1
    rw [e2] at S2
    rw [Bx.inn_iff] at e1 e2
    obtain ⟨p1, p2, p3⟩ := at_le ⟨r1, r2⟩ ⟨c1, c2⟩ e1 e2
    obtain ⟨i1, i2⟩ := e1
    obtain ⟨j1, j2⟩ := e2
    obtain ⟨b, o, hcell, hv⟩ := Bx.reads_at hL
    obtain ⟨hb, cap, rfl⟩ := hv (by omega)
    obtain ⟨k, hk⟩ : ∃ k : Nat, i * c + j = (k : Int) := ⟨(i * c + j).toNat, by omega⟩
    have q : w.cell? ⟨b, o + k, none⟩ = some (.int .i64 (L.getD k 0)) := hcell k (by omega)
    have hkn : (k : Int) < (L.length : Int) := by omega
    rw [hk] at HE
    have HE' : Hid (hi r c L lv i j = decide (lv ≤ L.getD k 0)) := HE.out
    have i5 : (k : Int) ≤ 600 := by omega
    have i6 : (0 : Int) ≤ (k : Int) := by omega
    obtain ⟨p, hp⟩ : ∃ p, i * c = p := ⟨_, rfl⟩
    rw [hp] at p1 p2 hk
    generalize L.length = n at *
    generalize L.getD k 0 = z at *
    clear hL hcell hv HE p3 hn
    go_enter Try.func21, Try.ntmps21
    go_wp2_with fail
    refine (S2.out _).mono ?_
    rintro e w1 ⟨rfl, hw⟩
    subst hw
    go_wp2_with fail
    refine (S1.out _).mono ?_
    rintro e w1 ⟨rfl, hw⟩
    subst hw
    go_wp2_with fail
    go_ret
    exact ⟨by rw [HE'.out]; rfl, B0.out⟩
end Go.Proofs.Ytimbghigjfioeaa.Mv
