/- ReadStamp, in the model and in the program. -/
import Derived.Test.YtjnkeeedoffdkaaDoorFig
import Derived.Deep.RegionWith
import Derived.Deep.RegionHeld3
import Derived.Deep.DrawnRows
import Derived.Deep.Cut
import Derived.Deep.DeepCutAuto
import Derived.Deep.DeepMust
namespace Go.Proofs.YtjnkeeedoffdkaaDoor.Fig
open Go.ChangeShapes Go.WideShapes Go.ChangeAt Go.RowKit
attribute [local go_sem ↓] Go.wp_at_zero Go.wp_at_succ

abbrev dt (a b c d e : Int) : Value := .agg #[.int .i64 a, .int .i64 b, .int .i64 c, .int .i64 d, .int .i64 e]

set_option maxHeartbeats 4000000 in
theorem irs_any (s : ByteArray) (v : Int) (B : Bool) (t : ByteArray) (w : World) (h17 : s.size = 17)
    (T : World → Prop) (hk : ∀ w', Below w.heap.size w w' → T w') (ht : ∀ w, T w → Calls Tryd.prog 9 #[dt (fig (s.extract 0 4)) (fig (s.extract 5 7)) (fig (s.extract 8 10)) (fig (s.extract 11 13)) (fig (s.extract 14 16))] w fun e w' => e = .returned (.tuple #[.int .i64 v, .bool B]) ∧ Below w.heap.size w w')
    (hst : ∀ w, T w → Calls Tryd.prog 8 #[.int .i64 v] w fun e w' => e = .returned (.string t) ∧ Below w.heap.size w w') :
    Calls Tryd.prog 10 #[.string s] w fun e w' => e = .returned (if B && (t.toList == s.toList) then .tuple #[.int .i64 v, .bool true] else .tuple #[.int .i64 0, .bool false]) ∧ Below w.heap.size w w' := by
  have HK : Hid (∀ w', Below w.heap.size w w' → T w') := hk
  have HT : Hid (∀ w, T w → Calls Tryd.prog 9 #[dt (fig (s.extract 0 4)) (fig (s.extract 5 7)) (fig (s.extract 8 10)) (fig (s.extract 11 13)) (fig (s.extract 14 16))] w fun e w' => e = .returned (.tuple #[.int .i64 v, .bool B]) ∧ Below w.heap.size w w') := ht
  have HS : Hid (∀ w, T w → Calls Tryd.prog 8 #[.int .i64 v] w fun e w' => e = .returned (.string t) ∧ Below w.heap.size w w') := hst
  have F1 : Hid (∀ w, Calls Tryd.prog 25 #[.string (s.extract 0 4)] w fun e w' => e = .returned (.int .i64 (fig (s.extract 0 4))) ∧ w' = w) := fun w => ifig _ w (by simp [ByteArray.size_extract]; omega)
  have F2 : Hid (∀ w, Calls Tryd.prog 25 #[.string (s.extract 5 7)] w fun e w' => e = .returned (.int .i64 (fig (s.extract 5 7))) ∧ w' = w) := fun w => ifig _ w (by simp [ByteArray.size_extract]; omega)
  have F3 : Hid (∀ w, Calls Tryd.prog 25 #[.string (s.extract 8 10)] w fun e w' => e = .returned (.int .i64 (fig (s.extract 8 10))) ∧ w' = w) := fun w => ifig _ w (by simp [ByteArray.size_extract]; omega)
  have F4 : Hid (∀ w, Calls Tryd.prog 25 #[.string (s.extract 11 13)] w fun e w' => e = .returned (.int .i64 (fig (s.extract 11 13))) ∧ w' = w) := fun w => ifig _ w (by simp [ByteArray.size_extract]; omega)
  have F5 : Hid (∀ w, Calls Tryd.prog 25 #[.string (s.extract 14 16)] w fun e w' => e = .returned (.int .i64 (fig (s.extract 14 16))) ∧ w' = w) := fun w => ifig _ w (by simp [ByteArray.size_extract]; omega)
  have e17 : ((s.size : Int) != 17) = false := by rw [h17]; rfl
  clear ht hst hk
  generalize fig (s.extract 0 4) = f1 at *
  generalize fig (s.extract 5 7) = f2 at *
  generalize fig (s.extract 8 10) = f3 at *
  generalize fig (s.extract 11 13) = f4 at *
  generalize fig (s.extract 14 16) = f5 at *
  go_enter Tryd.func10, Tryd.ntmps10
  go_upto_region 3 with fail
  go_region_held3 (fun _ => True) (trivial)
    (first
    | (go_at_call_of 25 (Value.string (s.extract 0 4)); refine (F1.out _).mono ?_; rintro e w1 ⟨rfl, hw1⟩; subst hw1)
    | (go_at_call_of 25 (Value.string (s.extract 5 7)); refine (F2.out _).mono ?_; rintro e w1 ⟨rfl, hw1⟩; subst hw1)
    | (go_at_call_of 25 (Value.string (s.extract 8 10)); refine (F3.out _).mono ?_; rintro e w1 ⟨rfl, hw1⟩; subst hw1)
    | (go_at_call_of 25 (Value.string (s.extract 11 13)); refine (F4.out _).mono ?_; rintro e w1 ⟨rfl, hw1⟩; subst hw1)
    | (go_at_call_of 25 (Value.string (s.extract 14 16)); refine (F5.out _).mono ?_; rintro e w1 ⟨rfl, hw1⟩; subst hw1))
  all_goals
    go_wp2_with fail
    refine (HT.out _ (HK.out _ (((Below.refl w.heap.size w).alloc (Nat.le_refl _) _).drew))).mono ?_
    rintro e w2 ⟨rfl, hb2⟩
    have B2 : Hid (Below w.heap.size w w2) := (((Below.refl w.heap.size w).alloc (Nat.le_refl _) _).drew).trans (hb2.mono (by simp))
    clear hb2
    cases B
    · go_wp2_with fail
      go_ret2
      exact ⟨rfl, B2.out⟩
    · go_wp2_with fail
      refine (HS.out _ (HK.out _ B2.out)).mono ?_
      rintro e w3 ⟨rfl, hb3⟩
      have B3 : Hid (Below w.heap.size w w3) := B2.out.trans (hb3.mono B2.out.size)
      clear hb3
      cases hq : (t.toList == s.toList)
      · have hq' : (t.toList != s.toList) = true := by unfold bne; rw [hq]; rfl
        go_wp2_with fail
        all_goals
          go_ret2
          exact ⟨rfl, B3.out⟩
      · have hq' : (t.toList != s.toList) = false := by unfold bne; rw [hq]; rfl
        go_wp2_with fail
        all_goals
          go_ret2
          exact ⟨rfl, B3.out⟩
end Go.Proofs.YtjnkeeedoffdkaaDoor.Fig
