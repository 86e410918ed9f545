/- TickRun: the law. -/
import Derived.Test.YtpdmfhbpedimaaaLc
import Derived.Test.YtpdmfhbpedimaaaMt
import Derived.Deep.RegionHeld3
namespace Go.Proofs.Ytpdmfhbpedimaaa.Ty
open Go.ChangeShapes Go.WideShapes Go.ChangeAt Go.RowKit
open Go.Proofs.Ytpdmfhbpedimaaa.Lists Go.Proofs.Ytpdmfhbpedimaaa.Tm Go.Proofs.Ytpdmfhbpedimaaa.Rk Go.Proofs.Ytpdmfhbpedimaaa.Ru Go.Proofs.Ytpdmfhbpedimaaa.Al

theorem rb_same {r x j : Value} {xs ys : List Value} {n m g : Nat} (h : ∀ i, bk ys i = bk xs i) (hn : m = n) (hg : RB r x j ys m g) : RB r x j xs n g := by
  subst hn
  rcases hg with ((q | ⟨i, hi, q⟩) | q) | q
  · exact .inl (.inl (.inl q))
  · exact .inl (.inl (.inr ⟨i, hi, by rw [← h]; exact q⟩))
  · exact .inl (.inr q)
  · exact .inr q

theorem tick_both (R : Tk.Ls) (X : List Int) (now : Int) (J : Jb.Ls) (tn : Int) : ∃ (AR : Tk.Ls) (AX : List Int) (AJ : Jb.Ls) (anow : Int) (AL : List Int), AR.length ≤ 1048576 ∧ (∀ i, i < AR.length → (Tk.cl AR i).length ≤ 1048576) ∧ AX.length ≤ 1048576 ∧ AJ.length ≤ 1048576 ∧ AL.length ≤ 1048576 ∧
    (∀ w' r x j, RR w' r x j R X J → Calls Try.prog 22 #[rv r x now j, .int .i64 tn] w' fun e w'' => ∃ ra rc xa xc ja jc la lc, e = .returned (.tuple #[rv (.slice ra AR.length rc) (.slice xa AX.length xc) anow (.slice ja AJ.length jc), .slice la AL.length lc]) ∧ RR w'' (.slice ra AR.length rc) (.slice xa AX.length xc) (.slice ja AJ.length jc) AR AX AJ ∧ Lists.Reads w'' (.slice la AL.length lc) AL ∧ Below w'.heap.size w' w'') ∧
    (∀ w' r x j, RR w' r x j R X J → Calls Try.prog 23 #[rv r x now j, .int .i64 tn] w' fun e w'' => ∃ ra rc xa xc ja jc la lc xs, e = .returned (.tuple #[rv (.slice ra AR.length rc) (.slice xa AX.length xc) anow (.slice ja AJ.length jc), .slice la AL.length lc]) ∧ RO w'' w'.heap.size (.slice ra AR.length rc) (.slice xa AX.length xc) (.slice ja AJ.length jc) xs AR AX AJ ∧ w''.ownsRow w'.heap.size 2 1 (.slice la AL.length lc) AL.length (ints AL) ∧ (∀ g, RB (.slice ra AR.length rc) (.slice xa AX.length xc) (.slice ja AJ.length jc) xs AR.length g → (Value.slice la AL.length lc).ownBlock ≠ some g) ∧ Below w'.heap.size w' w'') := by
  cases h : okR R X now J
  · refine ⟨[], [], [], 0, [], by simp, fun i hi => absurd hi (by simp), by simp, by simp, by simp, fun w' r x j hh => ?_, fun w' r x j hh => ?_⟩
    · refine (stick_no R X now J r x j tn w' hh h).mono ?_
      rintro e w2 ⟨rfl, hb⟩
      exact ⟨none, 0, none, 0, none, 0, _, _, rfl, nil_rr _, Or.inl ⟨rfl, _, _, rfl⟩, hb⟩
    · refine (itick_no R X now J r x j tn w' hh h).mono ?_
      rintro e w2 ⟨rfl, hb⟩
      exact ⟨none, 0, none, 0, none, 0, none, 0, [], rfl, nil_ro _ _, ⟨rfl, .inl ⟨rfl, rfl⟩⟩, fun g _ h => by simp [Value.ownBlock] at h, hb⟩
  by_cases h4 : tn < 0
  · refine ⟨[], [], [], 0, [], by simp, fun i hi => absurd hi (by simp), by simp, by simp, by simp, fun w' r x j hh => ?_, fun w' r x j hh => ?_⟩
    · refine (stick_neg R X now J r x j tn w' hh h h4).mono ?_
      rintro e w2 ⟨rfl, hb⟩
      exact ⟨none, 0, none, 0, none, 0, _, _, rfl, nil_rr _, Or.inl ⟨rfl, _, _, rfl⟩, hb⟩
    · refine (itick_neg R X now J r x j tn w' hh h h4).mono ?_
      rintro e w2 ⟨rfl, hb⟩
      exact ⟨none, 0, none, 0, none, 0, none, 0, [], rfl, nil_ro _ _, ⟨rfl, .inl ⟨rfl, rfl⟩⟩, fun g _ h => by simp [Value.ownBlock] at h, hb⟩
  · obtain ⟨s1, s2, s3, s4⟩ := sm_ok h
    refine ⟨R, X, J, nw now tn, lts R J now (nw now tn) R.length, s1, s2, s3, s4, Nat.le_trans (lts_len _ _ _ _ _) s1, fun w' r x j hh => ?_, fun w' r x j hh => ?_⟩
    · exact stick_yes R X now J r x j tn w' hh h (by omega)
    · refine (itick_yes R X now J r x j tn w' hh h (by omega)).mono ?_
      rintro e w2 ⟨ra, rc, xa, xc, ja, jc, la, lc, rfl, ⟨xs, h1, h2, h3⟩, hb⟩
      exact ⟨ra, rc, xa, xc, ja, jc, la, lc, xs, rfl, h1, h2, h3, hb⟩
end Go.Proofs.Ytpdmfhbpedimaaa.Ty
