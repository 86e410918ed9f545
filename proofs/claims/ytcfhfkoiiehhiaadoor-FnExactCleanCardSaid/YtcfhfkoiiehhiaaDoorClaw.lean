/- Clean: the law. -/
import Derived.Test.YtcfhfkoiiehhiaaDoorSCl
namespace Go.Proofs.YtcfhfkoiiehhiaaDoor.Ru
open Go.ChangeShapes Go.WideShapes Go.ChangeAt Go.RowKit

/-- what Clean answers -/
def cleanOf (L : List UInt8) (u : ByteArray) : Prop :=
  (∀ v w, Reads w v L → Calls Tryd.prog 4 #[v] w fun e w' => e = .returned (.string u) ∧ Below w.heap.size w w') ∧
  (∀ v w, Reads w v L → Lib.Utf8Tabs 0 1 w → Calls Tryd.prog 6 #[v] w fun e w' => e = .returned (.string u) ∧ Below w.heap.size w w')
theorem clean_both (L : List UInt8) : ∃ u, cleanOf L u := by
  by_cases h : L.length ≤ 20000
  · obtain ⟨s, hsL⟩ : ∃ s : ByteArray, s = ⟨L.toArray⟩ := ⟨_, rfl⟩
    have hll : s.size = L.length := by rw [hsL]; simp [ByteArray.size]
    obtain ⟨k, hk⟩ := ends_any s
    refine ⟨⟨(outs s k).toArray⟩, fun v w hR => ?_, fun v w hR hT => ?_⟩
    · refine (sclean v L s hsL w hR (by omega)).mono ?_
      rintro e w' ⟨m, hm, rfl, hb⟩
      rw [ends_one hk hm]
      exact ⟨rfl, hb⟩
    · refine (iclean v L s hsL w hR (by omega) hT).mono ?_
      rintro e w' ⟨m, hm, rfl, hb⟩
      rw [ends_one hk hm]
      exact ⟨rfl, hb⟩
  · refine ⟨⟨#[]⟩, fun v w hR => ?_, fun v w hR hT => ?_⟩
    · refine (sclean_big v L w hR (by omega)).mono ?_
      rintro e w' ⟨rfl, rfl⟩
      exact ⟨rfl, Below.refl _ _⟩
    · refine (iclean_big v L w hR (by omega)).mono ?_
      rintro e w' ⟨rfl, rfl⟩
      exact ⟨rfl, Below.refl _ _⟩

set_option maxHeartbeats 2000000 in
theorem cleanLaw (v : Value) (L : List UInt8) (w : World) (hR : Reads w v L) (hT : Lib.Utf8Tabs 0 1 w) :
    Calls Tryd.prog 3 #[v] w fun e w' => e = .returned (.bool true) ∧ Below w.heap.size w w' := by
  have TA : Hid (L.length ≤ 1048576 → ∀ w, Reads w v L → Calls Tryd.prog 5 #[v] w fun e w' => ∃ v', e = .returned v' ∧ Reads w' v' L ∧ Below w.heap.size w w') := fun h w hr => to_any w v L hr h
  have HR : Hid (Reads w v L) := hR
  have HT : Hid (Lib.Utf8Tabs 0 1 w) := hT
  obtain ⟨a, cap, rfl⟩ := hR.form
  clear hR hT
  by_cases h : 1048576 < L.length
  · go_enter Tryd.func3, Tryd.ntmps3
    go_wp2
    go_ret
    exact ⟨rfl, Below.refl _ _⟩
  · obtain ⟨u, cs, ci⟩ := clean_both L
    have CS : Hid (∀ v w, Reads w v L → Calls Tryd.prog 4 #[v] w fun e w' => e = .returned (.string u) ∧ Below w.heap.size w w') := cs
    have CI : Hid (∀ v w, Reads w v L → Lib.Utf8Tabs 0 1 w → Calls Tryd.prog 6 #[v] w fun e w' => e = .returned (.string u) ∧ Below w.heap.size w w') := ci
    clear cs ci
    go_enter Tryd.func3, Tryd.ntmps3
    go_wp2_with fail
    refine (TA.out (by omega) _ HR.out).mono ?_
    rintro e w1 ⟨v1, rfl, r1, b1⟩
    have R1 : Hid (Reads w1 v1 L) := r1
    have B1 : Hid (Below w.heap.size w w1) := b1
    obtain ⟨a1, c1, hv1⟩ := r1.form
    subst hv1
    clear r1 b1
    go_wp2_with fail
    refine (CS.out _ _ R1.out).mono ?_
    rintro e w2 ⟨rfl, b2⟩
    have B2 : Hid (Below w.heap.size w w2) := B1.out.trans (b2.mono B1.out.size)
    clear b2
    go_wp2_with fail
    refine (TA.out (by omega) _ (HR.out.below B2.out (Nat.le_refl _))).mono ?_
    rintro e w3 ⟨v3, rfl, r3, b3⟩
    have R3 : Hid (Reads w3 v3 L) := r3
    have B3 : Hid (Below w.heap.size w w3) := B2.out.trans (b3.mono B2.out.size)
    obtain ⟨a3, c3, hv3⟩ := r3.form
    subst hv3
    clear r3 b3
    go_wp2_with fail
    refine (CI.out _ _ R3.out (Utf8Tabs_below HT.out B3.out)).mono ?_
    rintro e w4 ⟨rfl, b4⟩
    have R4 : Hid (Reads w4 (.slice a3 L.length c3) L) := R3.out.below b4 (Nat.le_refl _)
    have B4 : Hid (Below w.heap.size w w4) := B3.out.trans (b4.mono B3.out.size)
    clear b4
    go_wp2_with fail
    refine (TA.out (by omega) _ (HR.out.below B4.out (Nat.le_refl _))).mono ?_
    rintro e w5 ⟨v5, rfl, r5, b5⟩
    have R5 : Hid (Reads w5 (.slice a3 L.length c3) L) := R4.out.below b5 (Nat.le_refl _)
    have R6 : Hid (Reads w5 v5 L) := r5
    have B5 : Hid (Below w.heap.size w w5) := B4.out.trans (b5.mono B4.out.size)
    obtain ⟨a5, c5, hv5⟩ := r5.form
    subst hv5
    clear r5 b5
    go_wp2_with fail
    refine (eq_same _ _ _ L R5.out R6.out).mono ?_
    rintro e w6 ⟨rfl, n, rfl⟩
    go_wp2_with fail
    go_ret
    exact ⟨rfl, below_drewN B5.out _⟩
end Go.Proofs.YtcfhfkoiiehhiaaDoor.Ru
