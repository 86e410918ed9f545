/- Unwave of the model where it refuses; both sides told alike. -/
import Derived.Test.YtpokbicnogcijaaUs
namespace Go.Proofs.Ytpokbicnogcijaa.Lists
open Go.ChangeShapes Go.WideShapes Go.ChangeAt Go.RowKit

set_option maxHeartbeats 1000000 in
theorem sunwave_no (w : World) (s : Int) (g cap : Nat) (X : List Int) (hg : g < w.heap.size) (hc : X.length ≤ cap) (hcm : cap ≤ maxLen) (K : ∀ i, i < X.length → w.cell? ⟨g, i, none⟩ = some (.int .i64 (X.getD i 0))) (ho : uok X s = false) :
    Calls Try.prog 5 #[.slice (some ⟨g, 0, none⟩) X.length cap, .int .i64 s] w fun e w' => IUo w X s e w' := by
  have R : Reads w (.slice (some ⟨g, 0, none⟩) X.length cap) X := .inr ⟨g, 0, cap, rfl, hc, hcm, hg, fun i hi => by rw [Nat.zero_add]; exact K i hi⟩
  have HI : Hid (Calls Try.prog 16 #[.slice (some ⟨g, 0, none⟩) X.length cap, .int .u64 60] w fun e w' => e = .returned (.bool (sml 1152921504606846976 X)) ∧ w' = w) := ssml60_any w _ X R (by unfold maxLen at hcm; omega)
  have FN : Hid (IUo w X s (.returned (.tuple #[.slice (some ⟨w.heap.size, 0, none⟩) 0 0, .bool false])) (w.alloc (.cells #[] 2))) := (by
    show IUo _ _ _ _ _
    have e : ures X s = none := by unfold ures; rw [ho]; simp
    refine ⟨(Below.refl _ _).alloc (Nat.le_refl _) _, .slice (some ⟨w.heap.size, 0, none⟩) 0 0, by rw [e]; rfl, ?_⟩
    rw [e]
    exact empty_row 2)
  cases hs : sml 1152921504606846976 X
  · rw [hs] at HI
    clear K R ho hs
    go_enter Try.func5, Try.ntmps5
    go_wp2_with (go_at_call 16; refine HI.out.mono ?_; rintro e w' ⟨rfl, hw⟩; have hw' := hw.symm; subst hw')
    go_ret2
    exact FN.out
  · rw [hs] at HI
    have HO : Hid (okS s = false) := (by show _ = _; unfold uok at ho; rw [hs] at ho; simpa using ho)
    clear K R ho hs
    go_enter Try.func5, Try.ntmps5
    go_wp2_with (first | (go_at_call 16; refine HI.out.mono ?_; rintro e w' ⟨rfl, hw⟩; have hw' := hw.symm; subst hw') | (go_at_call 17; refine (sin_any _ _ _ _).mono ?_; rintro e w' ⟨rfl, hw⟩; have hw' := hw.symm; subst hw'; rw [show (decide (1 ≤ s) && decide (s ≤ 12)) = false from HO.out]))
    go_ret2
    exact FN.out
theorem sunwave_any (w : World) (s : Int) (g cap : Nat) (X : List Int) (hg : g < w.heap.size) (hc : X.length ≤ cap) (hcm : cap ≤ maxLen) (K : ∀ i, i < X.length → w.cell? ⟨g, i, none⟩ = some (.int .i64 (X.getD i 0))) :
    Calls Try.prog 5 #[.slice (some ⟨g, 0, none⟩) X.length cap, .int .i64 s] w fun e w' => IUo w X s e w' := by
  cases h : uok X s
  · exact sunwave_no w s g cap X hg hc hcm K h
  · have h' := h
    unfold uok okS at h'
    simp only [Bool.and_eq_true, decide_eq_true_eq] at h'
    obtain ⟨t, rfl⟩ : ∃ t : Nat, s = (t : Int) := ⟨s.toNat, by omega⟩
    exact sunwave_yes w t g cap X hg hc hcm (by omega) h'.2 K
end Go.Proofs.Ytpokbicnogcijaa.Lists
