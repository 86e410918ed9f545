/- A press found between two levels. -/
import Derived.Test.YtjnjpbbpphklhaaAscL
import Derived.Test.YtjnjpbbpphklhaaLpA
namespace Go.Proofs.Ytjnjpbbpphklhaa.Flt
open Go.ChangeShapes Go.WideShapes Go.ChangeAt Go.RowKit
attribute [local go_sem] run_store_float

def hit (L : Lv) (p : Int) (i : Nat) : Bool := inB p (pOf L (i + 1)) (pOf L i)
def rebF (L : Lv) (p : Int) : Nat → Nat → Nat
  | 0, _ => qn
  | m + 1, i => if hit L p i then bet (pOf L i) (tOf L i) (pOf L (i + 1)) (tOf L (i + 1)) p else rebF L p m (i + 1)
def rebAns (L : Lv) (p : Int) : Nat := if lok L then rebF L p (L.length - 1) 0 else qn
theorem rebF_hit {L : Lv} {p : Int} {n k R : Nat} (h : rebF L p (n - 1 - k) k = R) (hk : k + 1 < n) (hh : hit L p k = true) : bet (pOf L k) (tOf L k) (pOf L (k + 1)) (tOf L (k + 1)) p = R := by
  obtain ⟨m, e⟩ : ∃ m, n - 1 - k = m + 1 := ⟨n - 1 - k - 1, by omega⟩
  rw [e] at h
  unfold rebF at h
  rw [hh] at h
  exact h
theorem rebF_next {L : Lv} {p : Int} {n k R : Nat} (h : rebF L p (n - 1 - k) k = R) (hk : k + 1 < n) (hh : hit L p k = false) : rebF L p (n - 1 - (k + 1)) (k + 1) = R := by
  obtain ⟨m, e⟩ : ∃ m, n - 1 - k = m + 1 := ⟨n - 1 - k - 1, by omega⟩
  have e2 : n - 1 - (k + 1) = m := by omega
  rw [e] at h
  rw [e2]
  unfold rebF at h
  rw [hh] at h
  exact h
theorem rebF_end {L : Lv} {p : Int} {n k R : Nat} (h : rebF L p (n - 1 - k) k = R) (hk : ¬ k + 1 < n) : qn = R := by
  have e : n - 1 - k = 0 := by omega
  rw [e] at h
  exact h

set_option maxHeartbeats 1000000 in
theorem ireb_no (w : World) (v : Value) (L : Lv) (p : Int) (h : Reads w v L) (hk : lok L = false) (hm : L.length ≤ 1048576) :
    Calls Try.prog 10 #[v, .int .i64 p] w fun e w' => ∃ x, e = .returned (.float .f64 x) ∧ cn x = qn ∧ Below w.heap.size w w' := by
  have H0 : Hid (Reads w v L) := h
  have HM : Hid (L.length ≤ 1048576) := hm
  clear hm
  obtain ⟨a, cap, rfl⟩ := h.form
  clear h
  go_enter Try.func10, Try.ntmps10
  go_wp2_with fail
  refine (iok_any _ _ L H0.out HM.out).mono ?_
  rintro e w1 ⟨rfl, b1⟩
  rw [hk]
  have B1 : Hid (Below w.heap.size w w1) := b1
  clear b1
  go_wp2_with fail
  refine (nan_any _).mono ?_
  rintro e w2 ⟨rfl, hw2⟩
  subst hw2
  go_wp2_with fail
  go_ret
  exact ⟨qn, rfl, cn_qn, B1.out⟩

set_option maxHeartbeats 1000000 in
theorem ireb_yes (w : World) (v : Value) (L : Lv) (p : Int) (h : Reads w v L) (hk : lok L = true) :
    Calls Try.prog 10 #[v, .int .i64 p] w fun e w' => ∃ x, e = .returned (.float .f64 x) ∧ cn x = rebF L p (L.length - 1) 0 ∧ Below w.heap.size w w' := by
  obtain ⟨h2, h4, hok⟩ := lok_size hk
  have OK : Hid (∀ j, j < L.length → okAt L j = true) := hok
  have HM : Hid (L.length ≤ 1048576) := (by show _ ≤ _; omega)
  have H0 : Hid (Reads w v L) := h
  rcases h with ⟨rfl, _⟩ | ⟨b, o, c, rfl, x1, x2, x3, x4⟩
  · simp at h2
  have K : Hid (b < w.heap.size ∧ ∀ i, i < L.length → w.cell? ⟨b, o + i * 2, none⟩ = some (.int .i64 (pOf L i)) ∧ w.cell? ⟨b, o + i * 2 + 1, none⟩ = some (.float .f64 (tOf L i))) := ⟨x3, x4⟩
  obtain ⟨n, hn⟩ : ∃ n, n = L.length := ⟨_, rfl⟩
  rw [← hn] at x1 h2 h4 H0 ⊢
  have HN : Hid (n = L.length) := hn
  obtain ⟨R, hR⟩ : ∃ R, rebF L p (n - 1) 0 = R := ⟨_, rfl⟩
  have HR0 : Hid (rebF L p (n - 1 - 0) 0 = R) := hR
  rw [hR]
  unfold maxLen at x2
  clear x4 hn hok hR
  go_enter Try.func10, Try.ntmps10
  go_wp2_with fail
  refine (iok_any _ _ L H0.out HM.out).mono ?_
  rintro e w1 ⟨rfl, b1⟩
  rw [hk]
  have B1 : Hid (Below w.heap.size w w1) := b1
  clear b1
  have j0 : IntKind.i64.wrap ((n : Int) - 1) = (n : Int) - 1 := IntWalk.i64_in _ (by omega)
  go_wp2_with fail
  go_loopw [13] (fun i wr => ∃ k : Nat, k + 1 ≤ n ∧ i = .int .i64 k ∧ Hid (rebF L p (n - 1 - k) k = R) ∧ Hid (Below w.heap.size w wr)) (fun i _ => n - (intOf i).toNat)
  case atStart => exact ⟨0, by omega, rfl, HR0, B1⟩
  case round =>
    obtain ⟨k, hkn, rfl, HR, BR⟩ := hrel
    by_cases hlt : k + 1 < n
    · have hlt2 : k + 1 < L.length := by rw [← HN.out]; omega
      have q1 : wr.cell? ⟨b, o + k * 2, none⟩ = some (.int .i64 (pOf L k)) := (BR.out.cell (p := ⟨b, o + k * 2, none⟩) K.out.1).trans (K.out.2 k (by omega)).1
      have q2 : wr.cell? ⟨b, o + k * 2 + 1, none⟩ = some (.float .f64 (tOf L k)) := (BR.out.cell (p := ⟨b, o + k * 2 + 1, none⟩) K.out.1).trans (K.out.2 k (by omega)).2
      have q3 : wr.cell? ⟨b, o + (k + 1) * 2, none⟩ = some (.int .i64 (pOf L (k + 1))) := (BR.out.cell (p := ⟨b, o + (k + 1) * 2, none⟩) K.out.1).trans (K.out.2 (k + 1) hlt2).1
      have q4 : wr.cell? ⟨b, o + (k + 1) * 2 + 1, none⟩ = some (.float .f64 (tOf L (k + 1))) := (BR.out.cell (p := ⟨b, o + (k + 1) * 2 + 1, none⟩) K.out.1).trans (K.out.2 (k + 1) hlt2).2
      have HH : Hid (hit L p k = inB p (pOf L (k + 1)) (pOf L k)) := rfl
      have H1 : Hid (hit L p k = true → bet (pOf L k) (tOf L k) (pOf L (k + 1)) (tOf L (k + 1)) p = R) := fun hh => rebF_hit HR.out hlt hh
      have H2 : Hid (hit L p k = false → rebF L p (n - 1 - (k + 1)) (k + 1) = R) := fun hh => rebF_next HR.out hlt hh
      generalize tOf L k = t0 at *
      generalize tOf L (k + 1) = t1 at *
      generalize pOf L k = p0 at *
      generalize pOf L (k + 1) = p1 at *
      have j1 : (k : Int) + 1 < (n : Int) := by omega
      have j2 : (k : Int) < (n : Int) := by omega
      have j3 : (0 : Int) ≤ (k : Int) := by omega
      have j4 : (0 : Int) ≤ (k : Int) + 1 := by omega
      have j5 : IntKind.i64.wrap ((k : Int) + 1) = (k : Int) + 1 := IntWalk.i64_in _ (by omega)
      have j8 : (k : Int) < (n : Int) - 1 := by omega
      have n1 : b < wr.heap.size := Nat.lt_of_lt_of_le K.out.1 BR.out.size
      clear hlt2
      cases c1 : inB p p1 p0
      · have C1 : Hid (inB p p1 p0 = false) := c1
        have MIS : Hid (hit L p k = false) := HH.out.trans c1
        go_wp2_with fail
        go_quiet ((go_at_call 24; exact Calls.quiet_of_same (wi_no C1.out _)))
        have BQ : Hid (Below w.heap.size w (wr.drewN nq)) := below_drewN BR.out nq
        go_wp2_with fail
        go_roundw
        case rel => exact ⟨k + 1, by omega, by go_num, H2.out MIS.out, BQ⟩
        case measure => simp [intOf]; omega
      · have C1 : Hid (inB p p1 p0 = true) := c1
        have HIT : Hid (hit L p k = true) := HH.out.trans c1
        go_wp2_with fail
        go_quiet ((go_at_call 24; exact Calls.quiet_of_same (wi_yes C1.out _)))
        have BQ : Hid (Below w.heap.size w (wr.drewN nq)) := below_drewN BR.out nq
        go_wp2_with fail
        go_region_held3 (fun w' => w'.cell? ⟨b, o + k * 2, none⟩ = some (.int .i64 p0) ∧ w'.cell? ⟨b, o + k * 2 + 1, none⟩ = some (.float .f64 t0) ∧ w'.cell? ⟨b, o + (k + 1) * 2, none⟩ = some (.int .i64 p1) ∧ w'.cell? ⟨b, o + (k + 1) * 2 + 1, none⟩ = some (.float .f64 t1)) (go_keep)
          (first
          | (go_at_call 25; refine (ibet _ _ _ _ _ _).mono ?_; rintro e w3 ⟨g, rfl, hg, hb3⟩; have B3 := BQ.out.drew.trans (hb3.mono BQ.out.size); have r1 := (hb3.cell (p := ⟨b, o + k * 2, none⟩) n1).trans q1; have r2 := (hb3.cell (p := ⟨b, o + k * 2 + 1, none⟩) n1).trans q2; have r3 := (hb3.cell (p := ⟨b, o + (k + 1) * 2, none⟩) n1).trans q3; have r4 := (hb3.cell (p := ⟨b, o + (k + 1) * 2 + 1, none⟩) n1).trans q4))
        have HG : Hid (cn g = R) := hg.trans (H1.out HIT.out)
        have BB : Hid (Below w.heap.size w w3) := B3
        clear hg hb3 B3
        go_wp2_with fail
        go_ret
        exact ⟨g, rfl, HG.out, BB.out⟩
    · have j1 : ¬ (k : Int) < (n : Int) - 1 := by omega
      have HE : Hid (qn = R) := rebF_end HR.out hlt
      go_wp2_with fail
      refine (nan_any _).mono ?_
      rintro e w2 ⟨rfl, hw2⟩
      subst hw2
      go_wp2_with fail
      go_ret
      exact ⟨qn, rfl, cn_qn.trans HE.out, BR.out⟩
end Go.Proofs.Ytjnjpbbpphklhaa.Flt
