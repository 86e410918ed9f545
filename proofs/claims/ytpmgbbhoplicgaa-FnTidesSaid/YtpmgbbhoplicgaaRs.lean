/- Rotate: the model; what is refused; the law. -/
import Derived.Test.YtpmgbbhoplicgaaRi
import Derived.Deep.RegionHeldLaw
import Derived.Deep.AppendLies
namespace Go.Proofs.Ytpmgbbhoplicgaa.Ro
open Go.ChangeShapes Go.WideShapes Go.ChangeAt Go.RowKit
open Go.Proofs.Ytpmgbbhoplicgaa.Flt Go.Proofs.Ytpmgbbhoplicgaa.Wa Go.Proofs.Ytpmgbbhoplicgaa.An Go.Proofs.Ytpmgbbhoplicgaa.Co Go.Proofs.Ytpmgbbhoplicgaa.Ho Go.Proofs.Ytpmgbbhoplicgaa.Rl

attribute [local go_sem] Flt.run_store_float
attribute [local go_sem ↓] Go.wp_at_zero Go.wp_at_succ
set_option maxHeartbeats 1000000 in
theorem iro_no (L : Co.Ls) (h : Int) (v : Value) (w : World) (hL : Co.Reads w v L) (hno : okP L = false ∨ (okP L = true ∧ inn h (-1000000) 1000000 = false)) :
    Calls Try.prog 10 #[v, .int .i64 h] w fun e w' => ∃ v' C, e = .returned v' ∧ Rl.Tells C (rf L h) 0 ∧ Co.Row w' w.heap.size v' C ∧ Below w.heap.size w w' := by
  have C : Hid (Calls Try.prog 20 #[v] w fun e w' => e = .returned (.bool (okP L)) ∧ Below w.heap.size w w') := iok_any L v w hL
  have C2 : Hid (∀ w, Calls Try.prog 21 #[.int .i64 h] w fun e w' => e = .returned (.bool (inn h (-1000000) 1000000)) ∧ w' = w) := fun w => ihour h w
  have T0 : Hid (Rl.Tells [] (rf L h) 0) := ⟨rfl, fun i hi => absurd hi (by omega)⟩
  have RN : Hid (∀ w' : World, Co.Row w' w.heap.size (.slice none 0 0) []) := fun w' => ⟨[], ⟨by simp, .inl ⟨rfl, rfl⟩⟩, fun i hi => absurd hi (by simp)⟩
  obtain ⟨a, cap, rfl⟩ := hL.form
  clear hL
  generalize L.length = n at *
  rcases hno with ho | ⟨ho, hi⟩
  · rw [ho] at C
    clear ho
    go_enter Try.func10, Try.ntmps10
    go_wp2_with fail
    refine C.out.mono ?_
    rintro e w0 ⟨rfl, hb0⟩
    have B0 : Hid (Below w.heap.size w w0) := hb0
    clear hb0
    go_wp2_with fail
    go_ret
    exact ⟨_, [], rfl, T0.out, RN.out _, B0.out⟩
  · rw [ho] at C
    rw [hi] at C2
    clear ho hi
    go_enter Try.func10, Try.ntmps10
    go_wp2_with fail
    refine C.out.mono ?_
    rintro e w0 ⟨rfl, hb0⟩
    have B0 : Hid (Below w.heap.size w w0) := hb0
    clear hb0
    go_wp2_with fail
    refine (C2.out _).mono ?_
    rintro e w2 ⟨rfl, hw⟩
    have hw' := hw.symm
    subst hw'
    go_wp2_with fail
    go_ret
    exact ⟨_, [], rfl, T0.out, RN.out _, B0.out⟩

end Go.Proofs.Ytpmgbbhoplicgaa.Ro
