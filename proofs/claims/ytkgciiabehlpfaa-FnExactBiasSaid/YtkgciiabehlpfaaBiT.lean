/- By how much reads differ in the mean: the model at lists that are too long; both, at every list. -/
import Derived.Test.YtkgciiabehlpfaaBiS
import Derived.Test.YtkgciiabehlpfaaBiI
namespace Go.Proofs.Ytkgciiabehlpfaa.Bi
open Go.ChangeShapes Go.WideShapes Go.ChangeAt Go.RowKit
open Go.Proofs.Ytkgciiabehlpfaa.Flt

set_option maxHeartbeats 1000000 in
theorem sbias_short (a b : Option Addr) (n m c d : Nat) (w : World) (hl : 300 < n ∨ 300 < m) (hn : n < 9223372036854775808) (hm : m < 9223372036854775808) :
    Calls Try.prog 15 #[.slice a n c, .slice b m d] w fun e w' => ∃ r, e = .returned (.tuple #[.float .f64 r, .int .i64 0]) ∧ cn r = qn ∧ ∃ m, w' = w.drewN m := by
  have hcond : (0 < n ∧ 300 < n) ∨ (0 < n ∧ n ≤ 300 ∧ 300 < m) ∨ n = 0 := by omega
  go_enter Try.func15, Try.ntmps15
  go_wp2_with fail
  go_loop [6, 7, 8] (fun x c i => x = .float .f64 0 ∧ c = .int .i64 0 ∧ i = .int .i64 0) (fun _ _ _ => 0)
  case atStart => exact ⟨rfl, rfl, rfl⟩
  case round =>
    obtain ⟨rfl, rfl, rfl⟩ := hrel
    rcases hcond with ⟨h0, h1⟩ | ⟨h0, h1, h2⟩ | h0
    · have i0 : (0 : Int) < (n : Int) := by omega
      have i1 : ¬ (n : Int) ≤ 300 := by omega
      clear hl
      go_wp2_with fail
      refine (none_any _).mono ?_
      rintro e w3 ⟨g, rfl, hg, _, hw3⟩
      have HG : Hid (cn g = qn) := hg
      have HW3 : Hid (w3 = w.drew) := hw3
      clear hg hw3
      go_wp2_with fail
      go_ret2
      exact ⟨g, rfl, HG.out, 1, HW3.out⟩
    · have i0 : (0 : Int) < (n : Int) := by omega
      have i1 : (n : Int) ≤ 300 := by omega
      have i2 : ¬ (m : Int) ≤ 300 := by omega
      clear hl
      go_wp2_with fail
      refine (none_any _).mono ?_
      rintro e w3 ⟨g, rfl, hg, _, hw3⟩
      have HG : Hid (cn g = qn) := hg
      have HW3 : Hid (w3 = w.drew) := hw3
      clear hg hw3
      go_wp2_with fail
      go_ret2
      exact ⟨g, rfl, HG.out, 1, HW3.out⟩
    · subst h0
      clear hl
      go_wp2_with fail
      refine (none_any _).mono ?_
      rintro e w3 ⟨g, rfl, hg, _, hw3⟩
      have HG : Hid (cn g = qn) := hg
      have HW3 : Hid (w3 = w.drew) := hw3
      clear hg hw3
      go_wp2_with fail
      go_ret2
      exact ⟨g, rfl, HG.out, 1, HW3.out⟩
theorem drewN_below (w : World) (m : Nat) : Below w.heap.size w (w.drewN m) := below_drewN (Below.refl _ _) m
theorem sbias_any (w : World) (v u : Value) (L B : Rd.Ls) (h : Rd.Reads w v L) (h' : Rd.Reads w u B) :
    Calls Try.prog 15 #[v, u] w fun e w' => ∃ r, e = .returned (.tuple #[.float .f64 r, .int .i64 (bias L B).2]) ∧ cn r = (bias L B).1 ∧ Below w.heap.size w w' := by
  by_cases hl : L.length ≤ 300 ∧ B.length ≤ 300
  · refine (sbias_long w v u L B h h' hl.1 hl.2).mono ?_
    rintro e w' ⟨r, rfl, hr, m, rfl⟩
    exact ⟨r, rfl, hr, drewN_below w m⟩
  · rw [bias_no (by omega)]
    have f := h.fits
    have f' := h'.fits
    obtain ⟨a, cap, rfl⟩ := h.form
    obtain ⟨a', cap', rfl⟩ := h'.form
    refine (sbias_short a a' L.length B.length cap cap' w (by omega) f f').mono ?_
    rintro e w' ⟨r, rfl, hr, m, rfl⟩
    exact ⟨r, rfl, hr, drewN_below w m⟩
theorem ibias_any (w : World) (v u : Value) (L B : Rd.Ls) (h : Rd.Reads w v L) (h' : Rd.Reads w u B) (hk : Oks L) (hk' : Oks B) :
    Calls Try.prog 17 #[v, u] w fun e w' => ∃ r, e = .returned (.tuple #[.float .f64 r, .int .i64 (bias L B).2]) ∧ cn r = (bias L B).1 ∧ Below w.heap.size w w' := by
  by_cases hl : L.length ≤ 300 ∧ B.length ≤ 300
  · exact ibias_long w v u L B h h' hl.1 hl.2 hk hk'
  · rw [bias_no (by omega)]
    have f := h.fits
    have f' := h'.fits
    obtain ⟨a, cap, rfl⟩ := h.form
    obtain ⟨a', cap', rfl⟩ := h'.form
    refine (ibias_short a a' L.length B.length cap cap' w (by omega) f f').mono ?_
    rintro e w' ⟨rfl, hb⟩
    exact ⟨qn, rfl, by decide +kernel, hb⟩
end Go.Proofs.Ytkgciiabehlpfaa.Bi
