/- Waves: model, program, what is refused; the law. -/
import Derived.Test.YtgnnmepjdmcecaaWs
import Derived.Deep.RegionHeldLaw
namespace Go.Proofs.Ytgnnmepjdmcecaa.Wv
open Go.ChangeShapes Go.WideShapes Go.ChangeAt Go.RowKit
open Go.Proofs.Ytgnnmepjdmcecaa.Flt Go.Proofs.Ytgnnmepjdmcecaa.Wa Go.Proofs.Ytgnnmepjdmcecaa.Pr Go.Proofs.Ytgnnmepjdmcecaa.Wl Go.Proofs.Ytgnnmepjdmcecaa.Lg

attribute [local go_sem] Flt.run_store_float
theorem tells_nil (f : Nat → Nat × Nat) : Wl.Tells [] f 0 := ⟨rfl, fun i hi => absurd hi (by omega)⟩
theorem row_nil (w : World) (B : Nat) : Pr.Row w B (.slice none 0 0) [] := ⟨[], ⟨by simp, .inl ⟨rfl, rfl⟩⟩, fun i hi => absurd hi (by simp)⟩
theorem row_lit (w : World) : Pr.Row (w.alloc (Obj.cells #[] 29)) w.heap.size (.slice (some ⟨w.heap.size, 0, none⟩) 0 0) [] := ⟨[], World.ownsRow_lit w #[] 0 (Nat.le_refl _) (Nat.zero_le _) rfl, fun i hi => absurd hi (by simp)⟩
set_option maxHeartbeats 1000000 in
theorem isums_no (L : Pr.Ls) (by_ : Int) (v : Value) (w : World) (hL : Pr.Reads w v L) (hlg : Lg.lg L.length = false) :
    Calls Try.prog 16 #[v, .int .i64 by_] w fun e w' => e = .returned (.slice none 0 0) ∧ w' = w := by
  have hf := hL.fits
  have D0 : Hid (∀ w, Calls Try.prog 17 #[.int .i64 (L.length : Int), .int .i64 36] w fun e w' => e = .returned (.bool false) ∧ w' = w) := fun w => by have := Lg.div_any L.length (by omega) w; rw [hlg] at this; exact this
  obtain ⟨a, cap, rfl⟩ := hL.form
  clear hL hlg
  generalize L.length = n at *
  go_enter Try.func16, Try.ntmps16
  go_wp2_with fail
  refine (D0.out _).mono ?_
  rintro e w0 ⟨rfl, hw⟩
  have hw' := hw.symm
  subst hw'
  go_wp2_with fail
  go_ret
  exact ⟨rfl, rfl⟩
theorem lgs (n : Nat) (hf : (n : Int) ≤ 9223372036854775807) (w : World) : Calls Try.prog 14 #[.int .i64 (n : Int)] w fun e w' => e = .returned (.bool (Lg.lg n)) ∧ w' = w := Lg.long_any n (by omega) w
set_option maxHeartbeats 1000000 in
theorem swaves (L : Pr.Ls) (v : Value) (w : World) (hL : Pr.Reads w v L) :
    Calls Try.prog 6 #[v] w fun e w' => ∃ v' C, e = .returned v' ∧ Wl.Tells C (wf L (-1) L.length) (if Lg.lg L.length then L.length else 0) ∧ Pr.Row w' w.heap.size v' C ∧ Below w.heap.size w w' := by
  have hf := hL.fits
  have D0 : Hid (∀ w, Calls Try.prog 14 #[.int .i64 (L.length : Int)] w fun e w' => e = .returned (.bool (Lg.lg L.length)) ∧ w' = w) := fun w => lgs _ (by omega) w
  cases hlg : Lg.lg L.length
  · rw [if_neg Bool.false_ne_true]
    rw [hlg] at D0
    obtain ⟨a, cap, rfl⟩ := hL.form
    have RL : Hid (Pr.Row (w.alloc (Obj.cells #[] 29)) w.heap.size (.slice (some ⟨w.heap.size, 0, none⟩) 0 0) []) := row_lit w
    clear hL hlg
    have T0 : Hid (Wl.Tells [] (wf L (-1) L.length) 0) := tells_nil _
    generalize wf L (-1) L.length = f at *
    generalize L.length = n at *
    go_enter Try.func6, Try.ntmps6
    go_wp2_with fail
    refine (D0.out _).mono ?_
    rintro e w0 ⟨rfl, hw⟩
    have hw' := hw.symm
    subst hw'
    go_wp2_with fail
    go_ret
    exact ⟨_, [], rfl, T0.out, RL.out, (Below.refl _ _).alloc (Nat.le_refl _) _⟩
  · rw [if_pos rfl]
    rw [hlg] at D0
    have S : Hid (Calls Try.prog 15 #[v, .int .i64 (-1)] w fun e w' => ∃ v' C, e = .returned v' ∧ Wl.Tells C (wf L (-1) L.length) L.length ∧ Pr.Row w' w.heap.size v' C ∧ Below w.heap.size w w') := ssums L (-1) v w hL hlg (Or.inr rfl)
    obtain ⟨a, cap, rfl⟩ := hL.form
    clear hL hlg
    generalize wf L (-1) L.length = f at *
    generalize L.length = n at *
    go_enter Try.func6, Try.ntmps6
    go_wp2_with fail
    refine (D0.out _).mono ?_
    rintro e w0 ⟨rfl, hw⟩
    have hw' := hw.symm
    subst hw'
    go_wp2_with fail
    refine S.out.mono ?_
    rintro e w1 ⟨v', C, rfl, t, r, hb⟩
    have T : Hid (Wl.Tells C f n) := t
    have R : Hid (Pr.Row w1 w.heap.size v' C) := r
    have B : Hid (Below w.heap.size w w1) := hb
    clear t r hb
    go_wp2_with fail
    go_ret
    exact ⟨_, C, rfl, T.out, R.out, B.out⟩
set_option maxHeartbeats 1000000 in
theorem iwaves (L : Pr.Ls) (v : Value) (w : World) (hL : Pr.Reads w v L) :
    Calls Try.prog 7 #[v] w fun e w' => ∃ v' C, e = .returned v' ∧ Wl.Tells C (wf L (-1) L.length) (if Lg.lg L.length then L.length else 0) ∧ Pr.Row w' w.heap.size v' C ∧ Below w.heap.size w w' := by
  cases hlg : Lg.lg L.length
  · rw [if_neg Bool.false_ne_true]
    have S : Hid (Calls Try.prog 16 #[v, .int .i64 (-1)] w fun e w' => e = .returned (.slice none 0 0) ∧ w' = w) := isums_no L (-1) v w hL hlg
    have T0 : Hid (Wl.Tells [] (wf L (-1) L.length) 0) := tells_nil _
    obtain ⟨a, cap, rfl⟩ := hL.form
    clear hL hlg
    generalize wf L (-1) L.length = f at *
    generalize L.length = n at *
    go_enter Try.func7, Try.ntmps7
    go_wp2_with fail
    refine S.out.mono ?_
    rintro e w0 ⟨rfl, hw⟩
    have hw' := hw.symm
    subst hw'
    go_wp2_with fail
    go_ret
    exact ⟨_, [], rfl, T0.out, row_nil _ _, Below.refl _ _⟩
  · rw [if_pos rfl]
    have S : Hid (Calls Try.prog 16 #[v, .int .i64 (-1)] w fun e w' => ∃ v' C, e = .returned v' ∧ Wl.Tells C (wf L (-1) L.length) L.length ∧ Pr.Row w' w.heap.size v' C ∧ Below w.heap.size w w' ∧ ∃ g, v' = .slice (some ⟨g, 0, none⟩) L.length L.length) := isums L (-1) v w hL hlg (Or.inr rfl)
    obtain ⟨a, cap, rfl⟩ := hL.form
    clear hL hlg
    generalize wf L (-1) L.length = f at *
    generalize L.length = n at *
    go_enter Try.func7, Try.ntmps7
    go_wp2_with fail
    refine S.out.mono ?_
    rintro e w1 ⟨v', C, rfl, t, r, hb, _⟩
    have T : Hid (Wl.Tells C f n) := t
    have R : Hid (Pr.Row w1 w.heap.size v' C) := r
    have B : Hid (Below w.heap.size w w1) := hb
    clear t r hb
    go_wp2_with fail
    go_ret
    exact ⟨_, C, rfl, T.out, R.out, B.out⟩
theorem lg_many (n : Nat) : (if Lg.lg n then n else 0) ≤ 1000 := by
  cases h : Lg.lg n
  · exact Nat.zero_le _
  · have := (Lg.lg_le h).2
    show n ≤ 1000
    omega
end Go.Proofs.Ytgnnmepjdmcecaa.Wv
