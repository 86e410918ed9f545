/- The law FnExactNearDay walked, where the table of days is as the program lays it. -/
import Derived.Test.YtdmlihaaafpenaaDoorNearL
import Derived.Test.YtdmlihaaafpenaaDoorNearS
import Derived.Test.YtdmlihaaafpenaaDoorNearS24
namespace Go.Proofs.YtdmlihaaafpenaaDoor.Dates
open Go.ChangeShapes Go.WideShapes Go.ChangeAt Go.RowKit

theorem snear_yes (day hour minute ref : Int) (w : World) (r1 : 0 ≤ ref) (r2 : ref ≤ 52596000) (hf : Fine day hour minute) :
    Calls Tryd.prog 12 (args4 day hour minute ref) w fun e w' => ∃ Y M r b : Int, e = res2 b ∧ 2000 ≤ Y ∧ Y ≤ 2100 ∧ 1 ≤ M ∧ M ≤ 12 ∧ 0 ≤ r ∧ r < dim Y M ∧ r + ys Y + cum Y M = ref / 1440 ∧ Inv day hour minute ref (12 * (Y - 2001)) (12 * (Y - 1999) + 12) b ∧ Below w.heap.size w w' := by
  by_cases e : hour = 24
  · have e2 := hf.2.2.2 e
    subst e e2
    exact snear_24 day ref w r1 r2 hf
  · exact snear_lt day hour minute ref w r1 r2 hf (by have := hf.2.1.2; omega)

theorem same_best {day hour minute ref Y M r b Y2 M2 r2 b2 : Int} (hf : Fine day hour minute) (q2 : ref ≤ 52596000)
    (a1 : 2000 ≤ Y) (a2 : Y ≤ 2100) (a3 : 1 ≤ M) (a4 : M ≤ 12) (a5 : 0 ≤ r) (a6 : r < dim Y M) (a7 : r + ys Y + cum Y M = ref / 1440) (a8 : Inv day hour minute ref (12 * (Y - 2001)) (12 * (Y - 1999) + 12) b)
    (b1 : 2000 ≤ Y2) (b2' : Y2 ≤ 2100) (b3 : 1 ≤ M2) (b4 : M2 ≤ 12) (b5 : 0 ≤ r2) (b6 : r2 < dim Y2 M2) (b7 : r2 + ys Y2 + cum Y2 M2 = ref / 1440) (b8 : Inv day hour minute ref (12 * (Y2 - 2000) + M2 - 1 - 2) (12 * (Y2 - 2000) + M2 - 1 + 3) b2) : b = b2 := by
  obtain ⟨rfl, rfl, rfl⟩ := unique (ref / 1440) Y M r Y2 M2 r2 a1 a2 a3 a4 a5 a6 a7 (by omega) b1 b2' b3 b4 b5 b6 b7
  have hy := yr_of Y M a3 a4
  have hs : start (12 * (Y - 2000) + M - 1) = ys Y + cum Y M := by unfold start; rw [hy.1, hy.2]
  have hM : Y = 2100 → M = 1 := by
    intro e
    by_cases h : 2 ≤ M
    · have c := cum_le Y 2 M (by omega) h (by omega)
      have c2 : cum Y 2 = 31 := rfl
      have y : ys Y = 36525 := by rw [e]; rfl
      omega
    · omega
  have hJ : 12 * (Y - 2000) + M - 1 ≤ 1200 := by
    by_cases e : Y = 2100
    · have := hM e; omega
    · omega
  refine near hf.clock (J := 12 * (Y - 2000) + M - 1) (by omega) hJ (by rw [hs]; omega) (fun h => ?_) q2 (by omega) (by omega) a8 b8
  have ss := start_succ (12 * (Y - 2000) + M - 1) (by omega) h
  rw [hy.1, hy.2, hs] at ss
  omega

set_option maxHeartbeats 1000000 in
theorem nearLaw (day hour minute ref : Int) (w : World) (H : Months w) :
    Calls Tryd.prog 5 (args4 day hour minute ref) w fun e w' => e = .returned (.bool true) ∧ Below w.heap.size w w' := by
  have HM : Hid (∀ w' : World, Below w.heap.size w w' → Months w') := fun w' hb => H.below hb H.size
  clear H
  by_cases hg : (0 ≤ ref ∧ ref ≤ 52596000) ∧ Fine day hour minute
  · obtain ⟨⟨r1, r2⟩, hf⟩ := hg
    go_enter Tryd.func5, Tryd.ntmps5
    go_wp2_with fail
    refine (snear_yes _ _ _ _ _ r1 r2 hf).mono ?_
    rintro e w1 ⟨Y, M, r, b, he, a1, a2, a3, a4, a5, a6, a7, a8, hb1⟩
    have A : Hid (∀ Y2 M2 r2 b2 : Int, 2000 ≤ Y2 → Y2 ≤ 2100 → 1 ≤ M2 → M2 ≤ 12 → 0 ≤ r2 → r2 < dim Y2 M2 → r2 + ys Y2 + cum Y2 M2 = ref / 1440 → Inv day hour minute ref (12 * (Y2 - 2000) + M2 - 1 - 2) (12 * (Y2 - 2000) + M2 - 1 + 3) b2 → b = b2) :=
      fun Y2 M2 r2' b2 c1 c2 c3 c4 c5 c6 c7 c8 => same_best hf r2 a1 a2 a3 a4 a5 a6 a7 a8 c1 c2 c3 c4 c5 c6 c7 c8
    clear a1 a2 a3 a4 a5 a6 a7 a8
    have HF : Hid (Fine day hour minute) := hf
    clear hf
    by_cases hb : b < 0
    · rw [res_no hb] at he
      subst he
      go_wp2_with fail
      refine (inear_yes _ _ _ _ _ (HM.out _ hb1) r1 r2 HF.out).mono ?_
      rintro e w2 ⟨Y2, M2, r2', b2, he, c1, c2, c3, c4, c5, c6, c7, c8, hb2⟩
      obtain rfl := A.out Y2 M2 r2' b2 c1 c2 c3 c4 c5 c6 c7 c8
      clear c1 c2 c3 c4 c5 c6 c7 c8 A
      rw [res_no (by omega)] at he
      subst he
      go_wp2_with fail
      go_ret
      exact ⟨rfl, hb1.trans (hb2.mono hb1.size)⟩
    · rw [res_yes hb] at he
      subst he
      go_wp2_with fail
      refine (inear_yes _ _ _ _ _ (HM.out _ hb1) r1 r2 HF.out).mono ?_
      rintro e w2 ⟨Y2, M2, r2', b2, he, c1, c2, c3, c4, c5, c6, c7, c8, hb2⟩
      obtain rfl := A.out Y2 M2 r2' b2 c1 c2 c3 c4 c5 c6 c7 c8
      clear c1 c2 c3 c4 c5 c6 c7 c8 A
      rw [res_yes (by omega)] at he
      subst he
      have hvv : (b != b) = false := by simp
      go_wp2_with fail
      go_ret
      exact ⟨rfl, hb1.trans (hb2.mono hb1.size)⟩
  · have hg' : (ref < 0 ∨ 52596000 < ref) ∨ ¬ Fine day hour minute := by
      by_cases hf : Fine day hour minute
      · left
        have : ¬ (0 ≤ ref ∧ ref ≤ 52596000) := fun x => hg ⟨x, hf⟩
        omega
      · exact Or.inr hf
    have HG : Hid ((ref < 0 ∨ 52596000 < ref) ∨ ¬ Fine day hour minute) := hg'
    clear hg hg'
    go_enter Tryd.func5, Tryd.ntmps5
    go_wp2_with fail
    refine (snear_no _ _ _ _ _ HG.out).mono ?_
    rintro e w1 ⟨rfl, hb1⟩
    go_wp2_with fail
    refine (inear_no _ _ _ _ _ (HM.out _ hb1) HG.out).mono ?_
    rintro e w2 ⟨rfl, hb2⟩
    go_wp2_with fail
    go_ret
    exact ⟨rfl, hb1.trans (hb2.mono hb1.size)⟩
end Go.Proofs.YtdmlihaaafpenaaDoor.Dates
