/- A heap of brinks: up, down, in, out. -/
import Derived.Test.YtagkbglgdmajhaaHg
namespace Go.Proofs.Ytagkbglgdmajhaa.Hm
open Go.ChangeShapes Go.WideShapes Go.ChangeAt Go.RowKit
open Go.Proofs.Ytagkbglgdmajhaa.Lists Go.Proofs.Ytagkbglgdmajhaa.Hp

abbrev iv (f : Nat) : Value := .iface 45 (.pointer (some ⟨f, 0, none⟩))
/-- the heap's numbers lie there in some order -/
structure HS (B f : Nat) (v : Value) (n : Nat) (P0 : List Int) (w w' : World) (P : List Int) : Prop where
  perm : P.Perm P0
  len : P.length = n
  hr : HR B f w' v P
  kb : KB (fun b => v.ownBlock = some b) w w'
theorem HS.on {B f n : Nat} {v : Value} {P0 P : List Int} {w w1 w2 : World} (h : HS B f v n P0 w w1 P) (b : Below w1.heap.size w1 w2) : HS B f v n P0 w w2 P := ⟨h.perm, h.len, h.hr.on b, h.kb.trans (KB.of_below b)⟩
theorem HS.swap {B f n : Nat} {v : Value} {P0 P : List Int} {w w1 w2 : World} {i j : Nat} (h : HS B f v n P0 w w1 P) (hi : i < n) (hj : j < n) (r : HR B f w2 v (swp P i j)) (k : KB (fun b => v.ownBlock = some b) w1 w2) : HS B f v n P0 w w2 (swp P i j) :=
  ⟨(swp_perm (by rw [h.len]; exact hi) (by rw [h.len]; exact hj)).trans h.perm, by rw [swp_len]; exact h.len, r, h.kb.trans k⟩

set_option maxRecDepth 20000 in
set_option maxHeartbeats 2000000 in
theorem up_any (B f : Nat) (w : World) (v : Value) (P0 : List Int) (n j0 : Nat) (hn : n ≤ 4001) (hj : j0 < n) (hs : HS B f v n P0 w w P0) (hu : UpI P0 n j0) :
    Calls Try.prog 34 #[iv f, .int .i64 j0] w fun e w' => e = .returned (.tuple #[]) ∧ ∃ P, HS B f v n P0 w w' P ∧ Heap P n := by
  have H0 : Hid (HS B f v n P0 w w P0) := hs
  have U0 : Hid (UpI P0 n j0) := hu
  clear hs hu
  go_enter Try.func34, Try.ntmps34
  go_wp2_with fail
  go_loopw [1] (fun sj wr => ∃ (j : Nat) (P : List Int), j < n ∧ sj = .int .i64 j ∧ Hid (HS B f v n P0 w wr P) ∧ Hid (UpI P n j)) (fun sj _ => (intOf sj).toNat)
  case atStart => exact ⟨j0, P0, hj, rfl, H0, U0⟩
  case round =>
    clear H0 U0
    obtain ⟨j, P, hj, rfl, H, U⟩ := hrel
    by_cases h0 : j = 0
    · subst h0
      have HH : Hid (Heap P n) := U.out.done (.inl rfl)
      clear U
      go_wp2_with fail
      go_end0
      exact ⟨rfl, P, H.out, HH.out⟩
    · obtain ⟨q, hq⟩ : ∃ q, q = j - 1 := ⟨_, rfl⟩
      obtain ⟨p, hp⟩ : ∃ p, p = (j - 1) / 2 := ⟨_, rfl⟩
      have e1 : (j : Int) - 1 = (q : Int) := by omega
      have e2 : (q : Int) / 2 = (p : Int) := by omega
      have e3 : (q : Int).tdiv 2 = (p : Int) := by rw [Int.tdiv_eq_ediv_of_nonneg (by omega)]; exact e2
      have pj : p < j := by omega
      have ne : ((p : Int) == (j : Int)) = false := by simp; omega
      have pn : p < n := by omega
      have ML := mLess wr f v H.out.hr.cel
      have lj : j < P.length := by rw [H.out.len]; exact hj
      have lp : p < P.length := by rw [H.out.len]; exact pn
      have LE := less_any B f wr v P j p lj lp H.out.hr
      by_cases lt : P.getD j 0 < P.getD p 0
      · rw [decide_eq_true lt] at LE
        have LH : Hid (Calls Try.prog 60 #[v, .int .i64 j, .int .i64 p] wr fun e w' => e = .returned (.bool true) ∧ Below wr.heap.size wr w') := LE
        have U2 : Hid (UpI (swp P p j) n p) := (by
          have := U.out.step (by rw [H.out.len]; exact Nat.le_refl _) (by omega) hj (by rw [← hp]; exact lt)
          rw [← hp] at this
          exact this)
        have SW : Hid (∀ w1, Below wr.heap.size wr w1 → (method 203 45 (.pointer (some ⟨f, 0, none⟩)) "Swap").run Try.prog w1 = .ok (63, v) w1 ∧ Calls Try.prog 63 #[v, .int .i64 p, .int .i64 j] w1 fun e w' => e = .returned (.tuple #[]) ∧ HS B f v n P0 w w' (swp P p j)) := fun w1 hb => ⟨mSwap w1 f v (H.out.on hb).hr.cel, (swap_any B f w1 v P p j lp lj (H.out.on hb).hr).mono (by
          rintro e w' ⟨rfl, a, b⟩
          exact ⟨rfl, (H.out.on hb).swap pn hj a b⟩)⟩
        clear LE U H lt hq hp lj lp
        go_wp2_with fail
        refine LH.out.mono ?_
        rintro e w1 ⟨rfl, hb⟩
        obtain ⟨MS, CS⟩ := SW.out w1 hb
        have CH : Hid (Calls Try.prog 63 #[v, .int .i64 p, .int .i64 j] w1 fun e w' => e = .returned (.tuple #[]) ∧ HS B f v n P0 w w' (swp P p j)) := CS
        clear CS hb LH SW ML
        go_wp2_with fail
        refine CH.out.mono ?_
        rintro e w2 ⟨rfl, h2⟩
        have H2 : Hid (HS B f v n P0 w w2 (swp P p j)) := h2
        clear h2 CH MS
        go_wp2_with fail
        go_roundw
        case rel => exact ⟨p, _, pn, rfl, H2, U2⟩
        case measure => simp [intOf]; omega
      · rw [decide_eq_false lt] at LE
        have LH : Hid (Calls Try.prog 60 #[v, .int .i64 j, .int .i64 p] wr fun e w' => e = .returned (.bool false) ∧ Below wr.heap.size wr w') := LE
        have HH : Hid (Heap P n) := U.out.done (.inr (by rw [← hp]; omega))
        clear LE U lt hq hp lj lp
        go_wp2_with fail
        refine LH.out.mono ?_
        rintro e w1 ⟨rfl, hb⟩
        have H2 : Hid (HS B f v n P0 w w1 P) := H.out.on hb
        clear hb LH H ML
        go_wp2_with fail
        go_end0
        exact ⟨rfl, P, H2.out, HH.out⟩
end Go.Proofs.Ytagkbglgdmajhaa.Hm
