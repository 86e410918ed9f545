/- Plans: what is right of them, plain; a descriptor, in the program. -/
import Derived.Test.YteidipdjhkmgpaaPoF
namespace Go.Proofs.Yteidipdjhkmgpaa.Lists
open Go.ChangeShapes Go.WideShapes Go.ChangeAt Go.RowKit

def rp (d : Int) : Bool := decide (101000 ≤ d) && decide (d < 200000)
def xo (d : Int) : Nat := (d / 1000 - 100).toNat
def dOk (T : El) (d : Int) : Bool := if d ≤ 99999 then has T d else decide (d % 1000 ≤ 255) && (rp d || (d / 1000 == 201 || d / 1000 == 202))
def rep : List Int → Bool
  | [] => true
  | d :: Q => if rp d then (decide (xo d ≤ Q.length) && rep (Q.take (xo d))) && rep (Q.drop (xo d)) else rep Q
termination_by P => P.length
decreasing_by all_goals (simp; try omega)
def fits (T : El) : List Int → Bool
  | [] => true
  | d :: Q => if 1 ≤ d ∧ d < 100000 then has T d && fits T Q else if 101000 ≤ d ∧ d < 200000 then (decide (d % 1000 ≤ 255) && (decide (xo d ≤ Q.length) && fits T (Q.take (xo d)))) && fits T (Q.drop (xo d)) else if 201000 ≤ d ∧ d < 203000 then decide (d % 1000 ≤ 255) && fits T Q else false
termination_by P => P.length
decreasing_by all_goals (simp; try omega)
theorem rep_nil : rep [] = true := by rw [rep]
theorem rep_no {d : Int} {Q : List Int} (h : rp d = false) : rep (d :: Q) = rep Q := by rw [rep, h]; rfl
theorem rep_yes {d : Int} {Q : List Int} (h : rp d = true) : rep (d :: Q) = ((decide (xo d ≤ Q.length) && rep (Q.take (xo d))) && rep (Q.drop (xo d))) := by rw [rep, h]; rfl
theorem fits_nil (T : El) : fits T [] = true := by rw [fits]
theorem rp_iff (d : Int) : rp d = true ↔ 101000 ≤ d ∧ d < 200000 := by
  unfold rp
  simp
theorem rp_false {d : Int} (h : ¬ (101000 ≤ d ∧ d < 200000)) : rp d = false := by
  cases hb : rp d
  · rfl
  · exact absurd ((rp_iff d).1 hb) h
theorem has_low {T : El} (hok : ∀ i, i < T.length → eOk T i = true) {d : Int} (h : d ≤ 0) : has T d = false :=
  has_no fun i hi e => by have := eOk_code (hok i hi); omega
theorem fits_eq {T : El} (hok : ∀ i, i < T.length → eOk T i = true) : ∀ n (P : List Int), P.length ≤ n → fits T P = (P.all (dOk T) && rep P) := by
  intro n
  induction n with
  | zero => intro P h; have := List.eq_nil_of_length_eq_zero (by omega : P.length = 0); subst this; rw [fits_nil, rep_nil]; rfl
  | succ n ih =>
    intro P h
    cases P with
    | nil => rw [fits_nil, rep_nil]; rfl
    | cons d Q =>
      have hQ : Q.length ≤ n := by simp at h; omega
      rw [List.all_cons, fits]
      by_cases h1 : 1 ≤ d ∧ d < 100000
      · rw [if_pos h1, rep_no (rp_false (by omega)), ih Q hQ, show dOk T d = has T d by unfold dOk; rw [if_pos (by omega)], Bool.and_assoc]
      · rw [if_neg h1]
        by_cases h2 : 101000 ≤ d ∧ d < 200000
        · have hr := (rp_iff d).2 h2
          rw [if_pos h2, rep_yes hr, ih (Q.take (xo d)) (by simp; omega), ih (Q.drop (xo d)) (by simp; omega), show dOk T d = decide (d % 1000 ≤ 255) by unfold dOk; rw [if_neg (by omega), hr]; simp]
          have ha : Q.all (dOk T) = ((Q.take (xo d)).all (dOk T) && (Q.drop (xo d)).all (dOk T)) := by
            rw [← List.all_append, List.take_append_drop]
          rw [ha]
          cases decide (d % 1000 ≤ 255) <;> cases decide (xo d ≤ Q.length) <;> cases (Q.take (xo d)).all (dOk T) <;> cases rep (Q.take (xo d)) <;> cases (Q.drop (xo d)).all (dOk T) <;> rfl
        · rw [if_neg h2, rep_no (rp_false h2)]
          by_cases h3 : 201000 ≤ d ∧ d < 203000
          · have e : dOk T d = decide (d % 1000 ≤ 255) := by
              unfold dOk
              rw [if_neg (by omega), rp_false h2]
              have : d / 1000 = 201 ∨ d / 1000 = 202 := by omega
              rcases this with h | h <;> simp [h]
            rw [if_pos h3, ih Q hQ, e, Bool.and_assoc]
          · have e : dOk T d = false := by
              unfold dOk
              by_cases h4 : d ≤ 99999
              · rw [if_pos h4, has_low hok (by omega)]
              · rw [if_neg h4, rp_false h2, show (d / 1000 == 201) = false by simp; omega, show (d / 1000 == 202) = false by simp; omega]
                simp
            rw [if_neg h3, e]
            simp
theorem drop_cons (P : List Int) (j : Nat) (h : j < P.length) : P.drop j = P.getD j 0 :: P.drop (j + 1) := by
  rw [List.drop_eq_getElem_cons h]
  simp [List.getElem?_eq_getElem h]

set_option maxHeartbeats 400000 in
theorem rp_any (d : Int) (w : World) (h0 : 0 ≤ d) (h1 : d < 9223372036854775808) : Calls Try.prog 23 #[.int .i64 d] w fun e w' => e = .returned (.bool (rp d)) ∧ w' = w := by
  have HB : Hid (bt (d / 1000) 101 199 = rp d) := (by
    show _ = _
    cases hr : rp d
    · refine bt_no fun q => ?_
      have : ¬ (rp d = true) := by rw [hr]; simp
      rw [rp_iff] at this
      omega
    · have := (rp_iff d).1 hr
      exact bt_mk (by omega) (by omega))
  have e1 : d.tdiv 1000 = d / 1000 := Int.tdiv_eq_ediv_of_nonneg h0
  generalize rp d = r at *
  go_enter Try.func23, Try.ntmps23
  go_wp2_with (go_at_call 20; refine (win_bt _ _ _ _ _ HB.out).mono ?_; rintro e w' ⟨rfl, hw⟩; have hw' := hw.symm; subst hw')
  go_ret
  exact ⟨rfl, rfl⟩
set_option maxHeartbeats 400000 in
theorem xo_any (d : Int) (w : World) (h1 : 101000 ≤ d) (h2 : d < 200000) : Calls Try.prog 24 #[.int .i64 d] w fun e w' => e = .returned (.int .i64 (xo d : Nat)) ∧ w' = w := by
  have e : d / 1000 - 100 = ((xo d : Nat) : Int) := by unfold xo; omega
  go_enter Try.func24, Try.ntmps24
  go_wp2_with fail
  go_ret
  exact ⟨by simp, rfl⟩

set_option maxHeartbeats 1000000 in
theorem dok_any (w : World) (v : Value) (T : El) (d : Int) (hdb : d < 9223372036854775808) (h : ReadsE w v T) (hok : ∀ i, i < T.length → eOk T i = true) (hmax : T.length ≤ 200) :
    Calls Try.prog 15 #[v, .int .i64 d] w fun e w' => e = .returned (.bool (dOk T d)) ∧ Below w.heap.size w w' := by
  by_cases hd : d ≤ 99999
  · have e : dOk T d = has T d := by unfold dOk; rw [if_pos hd]
    rw [e]
    have HL : Hid (Calls Try.prog 22 #[v, .int .i64 d] w fun e w' => (∃ c x s r, e = .returned (.tuple #[el c x s r, .bool (has T d)])) ∧ Below w.heap.size w w') := ilook_any w v T d h hok hmax
    obtain ⟨a, cap, rfl⟩ := h.form
    clear h hok e
    go_enter Try.func15, Try.ntmps15
    go_wp2_with fail
    refine HL.out.mono ?_
    rintro e w1 ⟨⟨c, x, s, r, rfl⟩, b1⟩
    have B1 : Hid (Below w.heap.size w (w1.alloc (.cells #[.int .i64 c, .int .i64 x, .int .i64 s, .int .i64 r] 34))) := b1.alloc b1.size _
    clear b1
    go_wp2_with fail
    go_ret
    exact ⟨rfl, B1.out⟩
  · obtain ⟨a, cap, rfl⟩ := h.form
    have HD : Hid (dOk T d = (decide (d % 1000 ≤ 255) && (rp d || (d / 1000 == 201 || d / 1000 == 202)))) := (by show _ = _; unfold dOk; rw [if_neg hd])
    have HB0 : Hid (0 ≤ d ∧ d < 9223372036854775808) := ⟨by omega, hdb⟩
    have hd0 : 0 ≤ d := by omega
    have t1 : d.tdiv 1000 = d / 1000 := Int.tdiv_eq_ediv_of_nonneg hd0
    clear h hok
    cases h1 : decide (d % 1000 ≤ 255)
    · have hr : dOk T d = false := by rw [HD.out, h1]; rfl
      rw [hr]
      have h1' : ¬ (d % 1000 ≤ 255) := by simpa using h1
      clear HD hr
      go_enter Try.func15, Try.ntmps15
      go_wp2_with fail
      go_ret
      exact ⟨rfl, Below.refl _ _⟩
    · have h1' : d % 1000 ≤ 255 := by simpa using h1
      cases h2 : rp d
      · have H2 : Hid (rp d = false) := h2
        cases h3 : (d / 1000 == 201)
        · have hr : dOk T d = (d / 1000 == 202) := by rw [HD.out, h1, h2, h3]; rfl
          rw [hr]
          clear HD hr h2 h1
          go_enter Try.func15, Try.ntmps15
          go_wp2_with (go_at_call 23; refine (rp_any _ _ HB0.out.1 HB0.out.2).mono ?_; rintro e w' ⟨rfl, hw⟩; have hw' := hw.symm; subst hw'; rw [H2.out])
          go_ret
          exact ⟨rfl, Below.refl _ _⟩
        · have hr : dOk T d = true := by rw [HD.out, h1, h2, h3]; rfl
          rw [hr]
          clear HD hr h2 h1
          go_enter Try.func15, Try.ntmps15
          go_wp2_with (go_at_call 23; refine (rp_any _ _ HB0.out.1 HB0.out.2).mono ?_; rintro e w' ⟨rfl, hw⟩; have hw' := hw.symm; subst hw'; rw [H2.out])
          go_ret
          exact ⟨rfl, Below.refl _ _⟩
      · have H2 : Hid (rp d = true) := h2
        have hr : dOk T d = true := by rw [HD.out, h1, h2]; rfl
        rw [hr]
        clear HD hr h2 h1
        go_enter Try.func15, Try.ntmps15
        go_wp2_with (go_at_call 23; refine (rp_any _ _ HB0.out.1 HB0.out.2).mono ?_; rintro e w' ⟨rfl, hw⟩; have hw' := hw.symm; subst hw'; rw [H2.out])
        go_ret
        exact ⟨rfl, Below.refl _ _⟩
end Go.Proofs.Yteidipdjhkmgpaa.Lists
