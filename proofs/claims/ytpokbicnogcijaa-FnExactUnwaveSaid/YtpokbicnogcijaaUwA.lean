/- FnExactUnwave: both sides answer alike, and the law says so. -/
import Derived.Test.YtpokbicnogcijaaUwL
import Derived.Test.YtpokbicnogcijaaUt
namespace Go.Proofs.Ytpokbicnogcijaa.LawUwL
open Go.ChangeShapes Go.WideShapes Go.ChangeAt Go.RowKit
open Go.Proofs.Ytpokbicnogcijaa.Lists

theorem iuo_get {w w' : World} {X : List Int} {s : Int} {e : Ending} (h : IUo w X s e w') : ∃ u0, e = .returned (.tuple #[u0, .bool (ures X s).isSome]) ∧ w'.ownsRow w.heap.size 2 1 u0 ((ures X s).getD []).length (ints ((ures X s).getD [])) ∧ Below w.heap.size w w' := by
  obtain ⟨hb, v, rfl, r⟩ := h
  exact ⟨v, rfl, r, hb⟩
theorem ures_len (X : List Int) (s : Int) : ((ures X s).getD []).length ≤ 5000 := by
  cases h : ures X s with
  | none => simp
  | some Y =>
    unfold ures at h
    split at h
    · rename_i hu
      have := un_len h
      unfold uok at hu
      simp only [Bool.and_eq_true] at hu
      have := (sml_iff.1 hu.2).1
      simp
      omega
    · cases h
theorem unwaveAll (w : World) (v0 : Value) (L0 : List Int) (h0 : Lists.Reads w v0 L0) (f0 : L0.length < 9223372036854775808) (n1 : Int) :
    Calls Try.prog 3 #[v0, .int .i64 n1] w fun e w' => e = .returned (.bool true) ∧ Below w.heap.size w w' := by
  refine unwaveLaw w v0 L0 h0 f0 n1 ((ures L0 n1).getD []) (ures_len _ _) (ures L0 n1).isSome ?_ ?_
  · intro W B0 t0 o ne
    obtain ⟨g, cap, rfl, _, hg, hc, hm⟩ := row_some o ne
    exact (sunwave_any W n1 g cap L0 hg hc hm fun i hi => row_at o rfl i hi).mono fun e w' h => iuo_get h
  · intro W B0 t0 o ne
    obtain ⟨g, cap, rfl, _, hg, hc, hm⟩ := row_some o ne
    exact (iunwave_any W n1 g cap L0 hg hc hm fun i hi => row_at o rfl i hi).mono fun e w' h => iuo_get h
end Go.Proofs.Ytpokbicnogcijaa.LawUwL
