/- wantedOk, of words. -/
import Derived.Test.YtkegllbedejkgaaDoorWk
import Derived.Laws.Cover1
import Derived.Sort.Walk0
namespace Go.Proofs.YtkegllbedejkgaaDoor.Ix
open Go.ChangeShapes Go.WideShapes Go.ChangeAt Go.RowKit
open Al Eo
def wP (L : List ByteArray) (i : Nat) : Bool := pok (L.getD i ⟨#[]⟩) && (decide (i = 0) || Op.bytesLess (L.getD (i - 1) ⟨#[]⟩).toList (L.getD i ⟨#[]⟩).toList)
def allP (L : List ByteArray) (n : Nat) : Bool := (List.range n).all (wP L)
theorem allP_succ (L : List ByteArray) (n : Nat) : allP L (n + 1) = (allP L n && wP L n) := by
  unfold allP; rw [List.range_succ, List.all_append]; simp
theorem allP_at {L : List ByteArray} {n k : Nat} (h : k < n) (hf : wP L k = false) : allP L n = false := by
  unfold allP
  rw [List.all_eq_false]
  exact ⟨k, by simpa using h, by simp [hf]⟩
def okP (L : List ByteArray) : Bool := decide (L.length ≤ 40) && allP L L.length

set_option maxHeartbeats 2000000 in
theorem wantP_any (L : List ByteArray) (hz : ∀ i, i < L.length → (L.getD i ⟨#[]⟩).size ≤ 1048576) (v : Value) (w : World) (h : Reads w v L) : Calls Tryd.prog 33 #[v, .func (.func 34) #[] #[]] w fun e w' => e = .returned (.bool (okP L)) ∧ w' = w := by
  have ln : L.length < 9223372036854775808 := by
    rcases h with ⟨rfl, _⟩ | ⟨b, o, c, _, h1, h2, _⟩
    · decide
    · unfold maxLen at h2; omega
  obtain ⟨a, c, rfl⟩ := h.form
  obtain ⟨m, hm⟩ : ∃ m, m = L.length := ⟨_, rfl⟩
  have HM : Hid (m = L.length) := hm
  have HZ : Hid (∀ i, i < L.length → (L.getD i ⟨#[]⟩).size ≤ 1048576) := hz
  have HC : Hid (∀ i, i < m → ∃ b o, a = some ⟨b, o, none⟩ ∧ w.cell? ⟨b, o + i, none⟩ = some (.string (L.getD i ⟨#[]⟩))) := fun i hi => (by
    rw [HM.out] at hi
    rcases h with ⟨rfl, _⟩ | ⟨b, o, c, e, _, _, x, y⟩
    · simp at hi
    · simp at e; exact ⟨b, o, e.1, y i hi⟩)
  have HO : Hid (okP L = (decide (m ≤ 40) && allP L m)) := (by show _ = _; unfold okP; rw [HM.out])
  rw [← hm] at ln ⊢
  clear h hm hz
  by_cases h40 : 40 < m
  · have E : Hid (okP L = false) := (by show _ = _; rw [HO.out, decide_eq_false (by omega)]; rfl)
    have j40 : (40 : Int) < (m : Int) := by omega
    go_enter Tryd.func33, Tryd.ntmps33
    go_wp2_with fail
    go_ret
    exact ⟨by rw [E.out]; rfl, rfl⟩
  have j40 : ¬ (40 : Int) < (m : Int) := by omega
  go_enter Tryd.func33, Tryd.ntmps33
  go_wp2_with fail
  go_loopw [12] (fun i wr => ∃ k : Nat, k ≤ m ∧ i = .int .i64 k ∧ wr = w ∧ Hid (allP L k = true)) (fun i _ => m - (intOf i).toNat)
  case atStart => exact ⟨0, Nat.zero_le _, rfl, rfl, rfl⟩
  case round =>
    obtain ⟨k, hk, rfl, hw, AK⟩ := hrel
    subst hw
    by_cases hlt : k < m
    · obtain ⟨b, o, rfl, q0⟩ := HC.out k hlt
      have i0 : (0 : Int) ≤ (k : Int) := by omega
      have i1 : (k : Int) < (m : Int) := by omega
      have CF : Hid (Calls Tryd.prog 34 #[.string (L.getD k ⟨#[]⟩)] wr fun e w' => e = .returned (.bool (pok (L.getD k ⟨#[]⟩))) ∧ w' = wr) := iparam_any _ _ (HZ.out k (by rw [← HM.out]; exact hlt))
      have NO : Hid (wP L k = false → okP L = false) := fun h => (by rw [HO.out, allP_at hlt h]; simp)
      have YE : Hid (wP L k = true → allP L (k + 1) = true) := fun h => (by rw [allP_succ, AK.out, h]; rfl)
      have WW : Hid (wP L k = (pok (L.getD k ⟨#[]⟩) && (decide (k = 0) || Op.bytesLess (L.getD (k - 1) ⟨#[]⟩).toList (L.getD k ⟨#[]⟩).toList))) := rfl
      have HP0 : Hid (∀ k', k' + 1 = k → wr.cell? ⟨b, o + k', none⟩ = some (.string (L.getD (k - 1) ⟨#[]⟩))) := fun k' hk' => (by
        obtain ⟨b', o', e, y⟩ := HC.out k' (by omega)
        simp at e
        obtain ⟨rfl, rfl⟩ := e
        rw [y]
        have : k' = k - 1 := by omega
        rw [this])
      generalize L.getD k ⟨#[]⟩ = x at *
      generalize L.getD (k - 1) ⟨#[]⟩ = y at *
      generalize pok x = px at *
      clear AK
      cases px
      · have E : Hid (okP L = false) := NO.out (by rw [WW.out]; rfl)
        go_wp2_with fail
        refine CF.out.mono ?_
        rintro e w1 ⟨rfl, hw⟩
        subst hw
        go_wp2_with fail
        go_ret
        exact ⟨by rw [E.out]; rfl, rfl⟩
      · cases k with
        | zero =>
          rw [Nat.add_zero] at q0
          have NX : Hid (allP L 1 = true) := YE.out (by rw [WW.out]; rfl)
          go_wp2_with fail
          refine CF.out.mono ?_
          rintro e w1 ⟨rfl, hw⟩
          subst hw
          go_wp2_with fail
          go_roundw
          case rel => exact ⟨1, by omega, by go_num, trivial, NX⟩
          case measure => simp [intOf]; omega
        | succ k =>
          have qp := HP0.out k rfl
          have k1 : (0 : Int) < ((k + 1 : Nat) : Int) := by omega
          have k2 : (((k + 1 : Nat) : Int) - 1) = (k : Int) := by omega
          have k3 : (k : Int) < (m : Int) := by omega
          have k4 : (0 : Int) ≤ (k : Int) := by omega
          have k5 : (0 : Int) < (k : Int) + 1 := by omega
          cases hyx : Op.bytesLess y.toList x.toList
          · have E : Hid (okP L = false) := NO.out (by rw [WW.out, hyx]; simp)
            go_wp2_with fail
            refine CF.out.mono ?_
            rintro e w1 ⟨rfl, hw⟩
            subst hw
            go_wp2_with fail
            go_ret
            exact ⟨by rw [E.out]; rfl, rfl⟩
          · have NX : Hid (allP L (k + 1 + 1) = true) := YE.out (by rw [WW.out, hyx]; simp)
            go_wp2_with fail
            refine CF.out.mono ?_
            rintro e w1 ⟨rfl, hw⟩
            subst hw
            go_wp2_with fail
            go_roundw
            case rel => exact ⟨k + 1 + 1, by omega, by go_num, trivial, NX⟩
            case measure => simp [intOf]; omega
    · have hkm : k = m := by omega
      have E : Hid (okP L = true) := (by show _ = _; rw [HO.out, ← hkm, AK.out, decide_eq_true (by omega)]; rfl)
      have j1 : ¬ (k : Int) < (m : Int) := by omega
      go_wp2_with fail
      go_ret
      exact ⟨by rw [E.out]; rfl, rfl⟩
end Go.Proofs.YtkegllbedejkgaaDoor.Ix
