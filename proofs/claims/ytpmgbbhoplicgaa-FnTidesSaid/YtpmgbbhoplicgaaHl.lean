/- Heights: what the model refuses; the law. -/
import Derived.Test.YtpmgbbhoplicgaaHm
namespace Go.Proofs.Ytpmgbbhoplicgaa.Ho
open Go.ChangeShapes Go.WideShapes Go.ChangeAt Go.RowKit
open Go.Proofs.Ytpmgbbhoplicgaa.Flt Go.Proofs.Ytpmgbbhoplicgaa.Wa Go.Proofs.Ytpmgbbhoplicgaa.An Go.Proofs.Ytpmgbbhoplicgaa.Co

attribute [local go_sem] Flt.run_store_float
set_option maxHeartbeats 1000000 in
theorem shei_no (L : Co.Ls) (h : Int) (v : Value) (w : World) (hL : Co.Reads w v L) (hno : okP L = false ∨ (okP L = true ∧ inn h (-1000000) 1000000 = false)) :
    Calls Try.prog 6 #[v, .int .i64 h] w fun e w' => ∃ x, e = .returned (.float .f64 x) ∧ cn x = qn ∧ Below w.heap.size w w' := by
  have C : Hid (Calls Try.prog 14 #[v] w fun e w' => e = .returned (.bool (okP L)) ∧ Below w.heap.size w w') := sok_any L v w hL
  have C2 : Hid (∀ w, Calls Try.prog 15 #[.int .i64 h] w fun e w' => e = .returned (.bool (inn h (-1000000) 1000000)) ∧ w' = w) := fun w => shour h w
  have C3 : Hid (∀ w, Calls Try.prog 16 #[] w fun e w' => ∃ b, e = .returned (.float .f64 b) ∧ cn b = qn ∧ b < 18446744073709551616 ∧ w' = w.drew) := fun w => none_any w
  obtain ⟨a, cap, rfl⟩ := hL.form
  clear hL
  generalize L.length = n at *
  rcases hno with ho | ⟨ho, hi⟩
  · rw [ho] at C
    clear ho
    go_enter Try.func6, Try.ntmps6
    go_wp2_with fail
    refine C.out.mono ?_
    rintro e w1 ⟨rfl, hb⟩
    have B1 : Hid (Below w.heap.size w w1) := hb
    clear hb
    go_wp2_with fail
    refine (C3.out _).mono ?_
    rintro e w2 ⟨x, rfl, hx, _, hw⟩
    have HX : Hid (cn x = qn) := hx
    have B2 : Hid (Below w.heap.size w w2) := (by rw [hw]; exact B1.out.drew)
    clear hx hw
    go_wp2_with fail
    go_ret
    exact ⟨x, rfl, HX.out, B2.out⟩
  · rw [ho] at C
    rw [hi] at C2
    clear ho hi
    go_enter Try.func6, Try.ntmps6
    go_wp2_with fail
    refine C.out.mono ?_
    rintro e w1 ⟨rfl, hb⟩
    have B1 : Hid (Below w.heap.size w w1) := hb
    clear hb
    go_wp2_with fail
    refine (C2.out _).mono ?_
    rintro e w2 ⟨rfl, hw⟩
    have hw' := hw.symm
    subst hw'
    go_wp2_with fail
    refine (C3.out _).mono ?_
    rintro e w2 ⟨x, rfl, hx, _, hw⟩
    have HX : Hid (cn x = qn) := hx
    have B2 : Hid (Below w.heap.size w w2) := (by rw [hw]; exact B1.out.drew)
    clear hx hw
    go_wp2_with fail
    go_ret
    exact ⟨x, rfl, HX.out, B2.out⟩
theorem shei_any (L : Co.Ls) (h : Int) (v : Value) (w : World) (hL : Co.Reads w v L) :
    Calls Try.prog 6 #[v, .int .i64 h] w fun e w' => ∃ x, e = .returned (.float .f64 x) ∧ cn x = H0 L h ∧ Below w.heap.size w w' := by
  unfold H0
  cases ho : okP L
  · simpa using shei_no L h v w hL (Or.inl ho)
  · cases hi : inn h (-1000000) 1000000
    · simpa using shei_no L h v w hL (Or.inr ⟨ho, hi⟩)
    · simpa using shei_yes L h v w hL ho hi

end Go.Proofs.Ytpmgbbhoplicgaa.Ho
