/- Whether a table is right: the program. -/
import Derived.Test.YteidipdjhkmgpaaPoC
namespace Go.Proofs.Yteidipdjhkmgpaa.Lists
open Go.ChangeShapes Go.WideShapes Go.ChangeAt Go.RowKit

def ahd (T : El) (j : Nat) : Int := if j = 0 then 0 else cO T (j - 1)
theorem eOk_ahd {T : El} {j : Nat} (h : 0 ≤ ahd T j) : eOk T j = (bt (cO T j) (ahd T j + 1) 99999 && ((bt (wO T j) 1 32 && bt (sO T j) (-10) 10) && bt (rO T j) (-1000000000) 1000000000)) := by
  have e : (bt (cO T j) 1 99999 && (j == 0 || decide (cO T (j - 1) < cO T j))) = bt (cO T j) (ahd T j + 1) 99999 := by
    unfold ahd at h ⊢
    by_cases hj : j = 0
    · subst hj
      simp
    · rw [if_neg hj] at h ⊢
      cases h2 : bt (cO T j) (cO T (j - 1) + 1) 99999
      · cases h1 : bt (cO T j) 1 99999
        · rfl
        · have q := bt_yes h1
          have : ¬ (cO T (j - 1) < cO T j) := fun x => by rw [bt_mk (by omega) q.2] at h2; cases h2
          simp [hj, this]
      · have q := bt_yes h2
        rw [bt_mk (by omega) q.2]
        simp [hj]
        omega
  unfold eOk
  rw [← e]
  cases bt (cO T j) 1 99999 <;> cases (j == 0 || decide (cO T (j - 1) < cO T j)) <;> cases bt (wO T j) 1 32 <;> cases bt (sO T j) (-10) 10 <;> rfl

set_option maxRecDepth 20000 in
set_option maxHeartbeats 2000000 in
theorem itab_any (w : World) (v : Value) (T : El) (h : ReadsE w v T) (hmax : T.length ≤ 1048576) :
    Calls Try.prog 14 #[v] w fun e w' => e = .returned (.bool (tOk T)) ∧ Below w.heap.size w w' := by
  obtain ⟨a, cap, rfl⟩ := h.form
  by_cases hb : 200 < T.length
  · have e : tOk T = false := by unfold tOk; simp; omega
    rw [e]
    have i1 : (200 : Int) < (T.length : Int) := by omega
    go_enter Try.func14, Try.ntmps14
    go_wp2
    go_ret
    exact ⟨rfl, Below.refl _ _⟩
  have c1 : ¬ ((200 : Int) < (T.length : Int)) := by omega
  have HC : Hid (∀ i, i < T.length → ∃ b o, a = some ⟨b, o, none⟩ ∧ T.length ≤ cap ∧ cap ≤ maxLen ∧ b < w.heap.size ∧ C4 w b o T i) := h.at
  obtain ⟨n, hn⟩ : ∃ n, n = T.length := ⟨_, rfl⟩
  have HN : Hid (n = T.length) := hn
  have hn2 : n ≤ 200 := by omega
  rw [← hn] at c1 ⊢
  obtain ⟨R, hR⟩ : ∃ r, r = tOk T := ⟨_, rfl⟩
  have HR : Hid (R = tOk T) := hR
  rw [← hR]
  clear h hb hn hR hmax
  go_enter Try.func14, Try.ntmps14
  go_wp2_with fail
  go_loopw [3, 5, 11] (fun p _ c wr => ∃ (j : Nat) (ah : Int), j ≤ n ∧ c = .int .i64 j ∧ p = .int .i64 ah ∧ 0 ≤ ah ∧ ah ≤ 99999 ∧ Hid (ah = ahd T j) ∧ Hid (∀ i, i < j → eOk T i = true) ∧ Hid (Below w.heap.size w wr)) (fun _ _ c _ => n - (intOf c).toNat)
  case atStart => exact ⟨0, 0, Nat.zero_le _, rfl, rfl, by omega, by omega, rfl, fun i hi => by omega, Below.refl _ _⟩
  case round =>
    obtain ⟨j, ah, hj, rfl, rfl, ah0, ah1, HA, HJ, BR⟩ := hrel
    by_cases hlt : j < n
    · obtain ⟨b, o, rfl, x1, x2, x3, x4⟩ := HC.out j (by rw [← HN.out]; exact hlt)
      have x5 := x4.on BR.out x3
      unfold C4 at x5
      obtain ⟨q0, q1, q2, q3⟩ := x5
      have i0 : (0 : Int) ≤ (j : Int) := by omega
      have i1 : (j : Int) < (n : Int) := by omega
      unfold maxLen at x2
      rw [← HN.out] at x1
      clear x4
      have B1 : Hid (Below w.heap.size w (wr.alloc (.cells #[.int .i64 (cO T j), .int .i64 (wO T j), .int .i64 (sO T j), .int .i64 (rO T j)] 34))) := BR.out.alloc BR.out.size _
      obtain ⟨c, hcx⟩ : ∃ c, c = cO T j := ⟨_, rfl⟩
      obtain ⟨x, hxx⟩ : ∃ c, c = wO T j := ⟨_, rfl⟩
      obtain ⟨s, hsx⟩ : ∃ c, c = sO T j := ⟨_, rfl⟩
      obtain ⟨r, hrx⟩ : ∃ c, c = rO T j := ⟨_, rfl⟩
      have HE : Hid (eOk T j = (bt c (ah + 1) 99999 && ((bt x 1 32 && bt s (-10) 10) && bt r (-1000000000) 1000000000))) := (by rw [hcx, hxx, hsx, hrx, HA.out]; exact eOk_ahd (by rw [← HA.out]; exact ah0))
      have HCC : Hid (c = cO T j) := hcx
      rw [← hcx] at q0 B1
      rw [← hxx] at q1 B1
      rw [← hsx] at q2 B1
      rw [← hrx] at q3 B1
      clear hcx hxx hsx hrx
      have BAD : Hid (eOk T j = false → R = false) := fun h => by rw [HR.out]; exact tOk_no (by rw [← HN.out]; exact hlt) h
      cases h1 : bt c (ah + 1) 99999
      · have H1 : Hid (bt c (ah + 1) 99999 = false) := h1
        have RF : Hid (R = false) := BAD.out (by rw [HE.out, h1]; rfl)
        clear h1
        go_wp2_with (first | (go_at_call_of 20 (Value.int IntKind.i64 c); refine (win_bt _ _ _ _ _ H1.out).mono ?_; rintro e w' ⟨rfl, hw⟩; have hw' := hw.symm; subst hw'))
        go_ret
        exact ⟨congrArg (fun x => Ending.returned (Value.bool x)) RF.out.symm, B1.out⟩
      have H1 : Hid (bt c (ah + 1) 99999 = true) := h1
      cases h2 : (bt x 1 32 && bt s (-10) 10)
      · have H2 : Hid ((bt x 1 32 && bt s (-10) 10) = false) := h2
        have RF : Hid (R = false) := BAD.out (by rw [HE.out, h1, h2]; rfl)
        clear h1 h2
        go_wp2_with (first | (go_at_call_of 20 (Value.int IntKind.i64 c); refine (win_bt _ _ _ _ _ H1.out).mono ?_; rintro e w' ⟨rfl, hw⟩; have hw' := hw.symm; subst hw') | (go_at_call 21; refine (wid_any _ _ _ _ H2.out).mono ?_; rintro e w' ⟨rfl, hw⟩; have hw' := hw.symm; subst hw'))
        go_ret
        exact ⟨congrArg (fun x => Ending.returned (Value.bool x)) RF.out.symm, B1.out⟩
      have H2 : Hid ((bt x 1 32 && bt s (-10) 10) = true) := h2
      cases h3 : bt r (-1000000000) 1000000000
      · have H3 : Hid (bt r (-1000000000) 1000000000 = false) := h3
        have RF : Hid (R = false) := BAD.out (by rw [HE.out, h1, h2, h3]; rfl)
        clear h1 h2 h3
        go_wp2_with (first | (go_at_call_of 20 (Value.int IntKind.i64 c); refine (win_bt _ _ _ _ _ H1.out).mono ?_; rintro e w' ⟨rfl, hw⟩; have hw' := hw.symm; subst hw') | (go_at_call 21; refine (wid_any _ _ _ _ H2.out).mono ?_; rintro e w' ⟨rfl, hw⟩; have hw' := hw.symm; subst hw') | (go_at_call_of 20 (Value.int IntKind.i64 r); refine (win_bt _ _ _ _ _ H3.out).mono ?_; rintro e w' ⟨rfl, hw⟩; have hw' := hw.symm; subst hw'))
        go_ret
        exact ⟨congrArg (fun x => Ending.returned (Value.bool x)) RF.out.symm, B1.out⟩
      have H3 : Hid (bt r (-1000000000) 1000000000 = true) := h3
      have GD : Hid (eOk T j = true) := (by show _ = _; rw [HE.out, h1, h2, h3]; rfl)
      have hcb := bt_yes h1
      clear h1 h2 h3
      go_wp2_with (first | (go_at_call_of 20 (Value.int IntKind.i64 c); refine (win_bt _ _ _ _ _ H1.out).mono ?_; rintro e w' ⟨rfl, hw⟩; have hw' := hw.symm; subst hw') | (go_at_call 21; refine (wid_any _ _ _ _ H2.out).mono ?_; rintro e w' ⟨rfl, hw⟩; have hw' := hw.symm; subst hw') | (go_at_call_of 20 (Value.int IntKind.i64 r); refine (win_bt _ _ _ _ _ H3.out).mono ?_; rintro e w' ⟨rfl, hw⟩; have hw' := hw.symm; subst hw'))
      go_roundw
      case rel => exact ⟨j + 1, c, by omega, by go_num, rfl, by omega, by omega, (by show _ = _; rw [HCC.out]; unfold ahd; rw [if_neg (by omega)]; rfl), fun i hi => by
        by_cases e : i = j
        · subst e; exact GD.out
        · exact HJ.out i (by omega), B1⟩
      case measure => simp [intOf]; omega
    · have a1 : ¬ ((j : Int) < (n : Int)) := by omega
      have R1 : Hid (R = true) := (by show R = true; rw [HR.out]; exact tOk_iff.2 ⟨by rw [← HN.out]; omega, fun i hi => HJ.out i (by rw [← HN.out] at hi; omega)⟩)
      go_wp2_with fail
      go_ret
      exact ⟨congrArg (fun x => Ending.returned (Value.bool x)) R1.out.symm, BR.out⟩
end Go.Proofs.Yteidipdjhkmgpaa.Lists
