/- Report: the law. -/
import Derived.Test.YtpdmfhbpedimaaaLc
import Derived.Test.YtpdmfhbpedimaaaMr
import Derived.Deep.RegionHeld3
namespace Go.Proofs.Ytpdmfhbpedimaaa.Ty
open Go.ChangeShapes Go.WideShapes Go.ChangeAt Go.RowKit
open Go.Proofs.Ytpdmfhbpedimaaa.Lists Go.Proofs.Ytpdmfhbpedimaaa.Tm Go.Proofs.Ytpdmfhbpedimaaa.Rk Go.Proofs.Ytpdmfhbpedimaaa.Ru Go.Proofs.Ytpdmfhbpedimaaa.Al

theorem rep_both (R : Tk.Ls) (X : List Int) (now : Int) (J : Jb.Ls) (tk : Int) (ok : Bool) : ∃ (AR : Tk.Ls) (AX : List Int) (AJ : Jb.Ls) (anow : Int) (ab : Bool), AR.length ≤ 1048576 ∧ (∀ i, i < AR.length → (Tk.cl AR i).length ≤ 1048576) ∧ AX.length ≤ 1048576 ∧ AJ.length ≤ 1048576 ∧
    (∀ w' r x j, RR w' r x j R X J → Calls Try.prog 18 #[rv r x now j, .int .i64 tk, .bool ok] w' fun e w'' => ∃ ra rc xa xc ja jc, e = .returned (.tuple #[(rv (.slice ra AR.length rc) (.slice xa AX.length xc) anow (.slice ja AJ.length jc)), .bool ab]) ∧ RR w'' (.slice ra AR.length rc) (.slice xa AX.length xc) (.slice ja AJ.length jc) AR AX AJ ∧ Below w'.heap.size w' w'') ∧
    (∀ w' r x j, RR w' r x j R X J → Calls Try.prog 19 #[rv r x now j, .int .i64 tk, .bool ok] w' fun e w'' => ∃ ra rc xa xc ja jc xs, e = .returned (.tuple #[(rv (.slice ra AR.length rc) (.slice xa AX.length xc) anow (.slice ja AJ.length jc)), .bool ab]) ∧ RO w'' w'.heap.size (.slice ra AR.length rc) (.slice xa AX.length xc) (.slice ja AJ.length jc) xs AR AX AJ ∧ Below w'.heap.size w' w'') := by
  cases h : okR R X now J
  · refine ⟨[], [], [], 0, false, by simp, fun i hi => absurd hi (by simp), by simp, by simp, fun w' r x j hh => ?_, fun w' r x j hh => ?_⟩
    · refine (srep_no R X now J r x j tk ok w' hh h).mono ?_
      rintro e w2 ⟨rfl, hb⟩
      exact ⟨none, 0, none, 0, none, 0, rfl, nil_rr _, hb⟩
    · refine (irep_no R X now J r x j tk ok w' hh h).mono ?_
      rintro e w2 ⟨rfl, hb⟩
      exact ⟨none, 0, none, 0, none, 0, [], rfl, nil_ro _ _, hb⟩
  · obtain ⟨s1, s2, s3, s4⟩ := sm_ok h
    by_cases h4 : 1 ≤ tk ∧ tk ≤ (J.length : Int)
    · obtain ⟨i, hi, rfl⟩ : ∃ i : Nat, i < J.length ∧ tk = (i : Int) + 1 := ⟨(tk - 1).toNat, by omega, by omega⟩
      by_cases h5 : hw J i = 1
      · have hl : (js J i (ez ok (tr J i) (Tk.cz R i 3)) (tr J i)).length = J.length := by simp [js]
        refine ⟨R, X, js J i (ez ok (tr J i) (Tk.cz R i 3)) (tr J i), now, true, s1, s2, s3, by rw [hl]; exact s4, fun w' r x j hh => ?_, fun w' r x j hh => ?_⟩
        · rw [hl]
          cases ok
          · by_cases h6 : tr J i = Tk.cz R i 3
            · rw [show ez false (tr J i) (Tk.cz R i 3) = 3 by simp [ez, h6]]
              exact srep_lost R X now J r x j i w' hh h hi h5 h6
            · rw [show ez false (tr J i) (Tk.cz R i 3) = 0 by simp [ez, h6]]
              exact srep_wait R X now J r x j i w' hh h hi h5 h6
          · rw [show ez true (tr J i) (Tk.cz R i 3) = 2 by simp [ez]]
            exact srep_ok R X now J r x j i w' hh h hi h5
        · rw [hl]
          refine (irep_end R X now J r x j i ok w' hh h hi h5).mono ?_
          rintro e w2 ⟨ra, rc, xa, xc, ja, jc, rfl, ⟨xs, h1⟩, hb⟩
          exact ⟨ra, rc, xa, xc, ja, jc, xs, rfl, h1, hb⟩
      · refine ⟨R, X, J, now, false, s1, s2, s3, s4, fun w' r x j hh => ?_, fun w' r x j hh => ?_⟩
        · exact srep_not R X now J r x j i ok w' hh h hi h5
        · refine (irep_not R X now J r x j i ok w' hh h hi h5).mono ?_
          rintro e w2 ⟨ra, rc, xa, xc, ja, jc, rfl, ⟨xs, h1⟩, hb⟩
          exact ⟨ra, rc, xa, xc, ja, jc, xs, rfl, h1, hb⟩
    · refine ⟨R, X, J, now, false, s1, s2, s3, s4, fun w' r x j hh => ?_, fun w' r x j hh => ?_⟩
      · exact srep_out R X now J r x j tk ok w' hh h h4
      · refine (irep_out R X now J r x j tk ok w' hh h h4).mono ?_
        rintro e w2 ⟨ra, rc, xa, xc, ja, jc, rfl, ⟨xs, h1⟩, hb⟩
        exact ⟨ra, rc, xa, xc, ja, jc, xs, rfl, h1, hb⟩
end Go.Proofs.Ytpdmfhbpedimaaa.Ty
