/- Permuted: the program. -/
import Derived.Test.YtefheoafpkghjaaPi
import Derived.Deep.RegionHeld3
namespace Go.Proofs.Ytefheoafpkghjaa.Pe
open Go.ChangeShapes Go.WideShapes Go.ChangeAt Go.RowKit
open Go.Proofs.Ytefheoafpkghjaa.Lists Go.Proofs.Ytefheoafpkghjaa.Al

set_option maxHeartbeats 1000000 in
theorem imod_no (A B : List Int) (va vb : Value) (w : World) (hA : Lists.Reads w va A) (hB : Lists.Reads w vb B) (fA : A.length < 9223372036854775808) (fB : B.length < 9223372036854775808) (h : ¬ (okU A 8 = true ∧ okU B 8 = true)) :
    Calls Try.prog 7 #[va, vb] w fun e w' => e = .returned (.tuple #[.int .i64 0, .int .i64 0]) ∧ Below w.heap.size w w' := by
  have CA : Hid (Calls Try.prog 13 #[va, .int .i64 8] w fun e w' => e = .returned (.bool (okU A 8)) ∧ w' = w) := iok_any A 8 va w hA fA
  have CB : Hid (Calls Try.prog 13 #[vb, .int .i64 8] w fun e w' => e = .returned (.bool (okU B 8)) ∧ w' = w) := iok_any B 8 vb w hB fB
  obtain ⟨a, ca, rfl⟩ := hA.form
  obtain ⟨b, cb, rfl⟩ := hB.form
  clear hA hB
  generalize okU A 8 = oA at *
  generalize okU B 8 = oB at *
  generalize A.length = n at *
  generalize B.length = m at *
  cases oA
  · go_enter Try.func7, Try.ntmps7
    go_wp2_with fail
    refine CA.out.mono ?_
    rintro e w1 ⟨rfl, hw⟩
    have hw' := hw.symm
    subst hw'
    go_wp2_with fail
    exact bodyPost_ret (v := .tuple #[.int .i64 0, .int .i64 0]) (by simp [results, Try.results7, go_sem]) rfl ⟨rfl, Below.refl _ _⟩
  · have e : oB = false := by simpa using h
    subst e
    go_enter Try.func7, Try.ntmps7
    go_wp2_with fail
    refine CA.out.mono ?_
    rintro e w1 ⟨rfl, hw⟩
    have hw' := hw.symm
    subst hw'
    go_wp2_with fail
    refine CB.out.mono ?_
    rintro e w1 ⟨rfl, hw⟩
    have hw' := hw.symm
    subst hw'
    go_wp2_with fail
    exact bodyPost_ret (v := .tuple #[.int .i64 0, .int .i64 0]) (by simp [results, Try.results7, go_sem]) rfl ⟨rfl, Below.refl _ _⟩

set_option maxHeartbeats 1000000 in
theorem imod_yes (A B : List Int) (va vb : Value) (w : World) (hA : Lists.Reads w va A) (hB : Lists.Reads w vb B) (oA : okU A 8 = true) (oB : okU B 8 = true) :
    Calls Try.prog 7 #[va, vb] w fun e w' => e = .returned (.tuple #[.int .i64 (wy (A ++ B) A.length (tot A A.length)).1, .int .i64 (wy (A ++ B) A.length (tot A A.length)).2]) ∧ Below w.heap.size w w' := by
  obtain ⟨lA, iA⟩ := okU_parts oA
  obtain ⟨lB, iB⟩ := okU_parts oB
  have CA : Hid (Calls Try.prog 13 #[va, .int .i64 8] w fun e w' => e = .returned (.bool true) ∧ w' = w) := (by have := iok_any A 8 va w hA (by omega); rw [oA] at this; exact this)
  have CB : Hid (Calls Try.prog 13 #[vb, .int .i64 8] w fun e w' => e = .returned (.bool true) ∧ w' = w) := (by have := iok_any B 8 vb w hB (by omega); rw [oB] at this; exact this)
  obtain ⟨ba, pa, hcA, hvA⟩ := reads_at hA
  obtain ⟨sA, ca, rfl⟩ := hvA (by omega)
  obtain ⟨bb, pb, hcB, hvB⟩ := reads_at hB
  obtain ⟨sB, cb, rfl⟩ := hvB (by omega)
  have RA : Hid (Lists.Reads w (.slice (some ⟨ba, pa, none⟩) A.length ca) A) := hA
  clear oA oB hA hB hvA hvB
  obtain ⟨r1, hr1⟩ : ∃ r, r = (wy (A ++ B) A.length (tot A A.length)).1 := ⟨_, rfl⟩
  obtain ⟨r2, hr2⟩ : ∃ r, r = (wy (A ++ B) A.length (tot A A.length)).2 := ⟨_, rfl⟩
  rw [← hr1, ← hr2]
  have HR1 : Hid (r1 = (wy (A ++ B) A.length (tot A A.length)).1) := hr1
  have HR2 : Hid (r2 = (wy (A ++ B) A.length (tot A A.length)).2) := hr2
  clear hr1 hr2
  go_enter Try.func7, Try.ntmps7
  go_wp2_with fail
  refine CA.out.mono ?_
  rintro e w1 ⟨rfl, hw⟩
  have hw' := hw.symm
  subst hw'
  go_wp2_with fail
  refine CB.out.mono ?_
  rintro e w1 ⟨rfl, hw⟩
  have hw' := hw.symm
  subst hw'
  have K : Hid (Calls Try.prog 15 #[.slice (some ⟨w.heap.size, 0, none⟩) 2 2] (w.alloc (.cells #[.slice (some ⟨ba, pa, none⟩) A.length ca, .slice (some ⟨bb, pb, none⟩) B.length cb] 24)) fun e w' => ∃ v, e = .returned v ∧ Lists.Reads w' v (A ++ B) ∧ Below w.heap.size w w') := (by
    have z : (w.alloc (.cells #[.slice (some ⟨ba, pa, none⟩) A.length ca, .slice (some ⟨bb, pb, none⟩) B.length cb] 24)).heap.size = w.heap.size + 1 := World.size_alloc _ _
    have bl : Below w.heap.size w (w.alloc (.cells #[.slice (some ⟨ba, pa, none⟩) A.length ca, .slice (some ⟨bb, pb, none⟩) B.length cb] 24)) := (Below.refl _ _).alloc (Nat.le_refl _) _
    refine (concat_any A B ba pa ca bb pb cb w.heap.size _ (fun i hi => by rw [bl.cell (p := ⟨ba, pa + i, none⟩) sA]; exact hcA i hi) (fun i hi => by rw [bl.cell (p := ⟨bb, pb + i, none⟩) sB]; exact hcB i hi) ⟨by omega, by omega⟩ ⟨by omega, by omega⟩ (by omega) (by omega) (by omega) (by simp [go_sem]) (by simp [go_sem])).mono ?_
    rintro e w' ⟨v, rfl, ho, hb⟩
    exact ⟨v, rfl, reads_row ho, bl.trans (hb.mono (by omega))⟩)
  have TO : Hid (∀ w', Below w.heap.size w w' → Calls Try.prog 16 #[.slice (some ⟨ba, pa, none⟩) A.length ca] w' fun e w2 => e = .returned (.int .i64 (tot A A.length)) ∧ w2 = w') := fun w' hb => total_any A _ w' (RA.out.on hb) (by omega) iA
  have CH : Hid (∀ w' v, Lists.Reads w' v (A ++ B) → Calls Try.prog 14 #[v, .int .i64 (A.length : Int), .int .i64 (tot A A.length)] w' fun e w2 => e = .returned (.tuple #[.int .i64 r1, .int .i64 r2]) ∧ ∃ k, w2 = w'.drewN k) := fun w' v hr => (by
    have td := tot_bd iA A.length (Nat.le_refl _)
    have eL : (A ++ B).length = A.length + B.length := List.length_append
    have := choices_any (A ++ B) A.length (tot A A.length) v w' hr (by omega) (inB_app iA iB) (by omega) (by rw [eL]; omega)
    rw [← HR1.out, ← HR2.out] at this
    exact this)
  clear hcA hcB
  go_wp2_with fail
  refine K.out.mono ?_
  rintro e w1 ⟨v, rfl, hr, hb⟩
  have HR : Hid (Lists.Reads w1 v (A ++ B)) := hr
  have HB : Hid (Below w.heap.size w w1) := hb
  clear hr hb
  go_wp2_with fail
  refine (TO.out w1 HB.out).mono ?_
  rintro e w2 ⟨rfl, hw⟩
  have hw' := hw.symm
  subst hw'
  go_wp2_with fail
  refine (CH.out _ v HR.out).mono ?_
  rintro e w3 ⟨rfl, k, rfl⟩
  go_wp2_with fail
  exact bodyPost_ret (v := .tuple #[.int .i64 r1, .int .i64 r2]) (by simp [results, Try.results7, go_sem]) rfl ⟨rfl, below_drewN HB.out k⟩
end Go.Proofs.Ytefheoafpkghjaa.Pe
