/- DrawWaves: for one code the same row, up to which missing number. -/
import Derived.Test.YtgnnmepjdmcecaaFg
namespace Go.Proofs.Ytgnnmepjdmcecaa.Fd
open Go.ChangeShapes Go.WideShapes Go.ChangeAt Go.RowKit
open Flt
attribute [local go_sem] Flt.run_store_float

set_option maxHeartbeats 1000000 in
theorem waves_draw (B : List UInt8) (hB : B.length ≤ 1048576) : ∃ X : Pr.Ls, ∀ a cap w, Cod B a cap w w.heap.size → Calls Try.prog 5 #[.slice a B.length cap] w fun e w' => ∃ v C, e = .returned v ∧ C.map cnp = X ∧ Pr.Row w' (w.heap.size + 1) v C ∧ Below w.heap.size w w' := by
  obtain ⟨F, hF⟩ := pair_fn B
  obtain ⟨X, p', H⟩ := draw_any B F hF 0
  refine ⟨X, fun a cap w hc => ?_⟩
  have O := open_any (.slice a B.length cap) a B.length cap rfl w
  have R := Rd.new hc hB
  have HH : Hid (∀ r w, Rd B 0 r w → Calls Try.prog 12 #[.pointer (some ⟨r, 0, none⟩)] w fun e w' => ∃ v, e = .returned v ∧ LP B w r X p' v X.length w') := H
  go_enter Try.func5, Try.ntmps5
  go_wp2_with fail
  refine O.mono ?_
  rintro e w1 ⟨rfl, rfl⟩
  go_wp2_with fail
  refine (HH.out _ _ R).mono ?_
  rintro e w2 ⟨v, rfl, D⟩
  have K : Hid (∃ C : Pr.Ls, C.map cnp = X ∧ Pr.Row w2 (w.heap.size + 1) v C) := (by
    obtain ⟨C, hC, R⟩ := D.row
    simp at R
    exact ⟨C, hC, R⟩)
  have BL : Hid (Below w.heap.size w w2) := ((Below.refl w.heap.size w).alloc (Nat.le_refl _) _).trans D.tn.bel
  clear D R HH H
  go_wp2_with fail
  go_ret
  obtain ⟨C, hC, R⟩ := K.out
  exact ⟨_, C, rfl, hC, R, BL.out⟩
end Go.Proofs.Ytgnnmepjdmcecaa.Fd
