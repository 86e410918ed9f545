/- Pack of the program: what it refuses for its arguments. -/
import Derived.Test.YtgajajpcjbpalaaYi
namespace Go.Proofs.Ytgajajpcjbpalaa.Pkd
open Go.ChangeShapes Go.WideShapes Go.ChangeAt Go.RowKit
open Go.Proofs.Ytgajajpcjbpalaa.Lists Go.Proofs.Ytgajajpcjbpalaa.Flt Go.Proofs.Ytgajajpcjbpalaa.Fls


def zpk : Pk := ⟨0, 0, 0, 0, 0, [], []⟩
def okA (n : Nat) (b dec : Int) : Bool := decide (n ≤ 4096) && ((decide (1 ≤ b) && decide (b ≤ 24)) && (decide (-3 ≤ dec) && decide (dec ≤ 6)))
def allf (dec : Int) (L : List Nat) : Bool := allk dec L && (ws dec L).all fit
/-- What Pack answers. -/
def Res (L : List Nat) (b dec : Int) (p : Pk) (c : Int) : Prop :=
  (okA L.length b dec = false ∧ p = zpk ∧ c = 1) ∨
  (okA L.length b dec = true ∧ allf dec L = false ∧ p = zpk ∧ c = 2) ∨
  (okA L.length b dec = true ∧ allf dec L = true ∧ c = 0 ∧ ∃ r e cd, IsPk (ws dec L) b r e cd ∧ p = ⟨L.length, dec, r, (e : Nat), b, if (rl L).length < L.length then ths L else [], cd⟩)
theorem Res.same {L : List Nat} {b dec c c' : Int} {p p' : Pk} (x : Res L b dec p c) (y : Res L b dec p' c') : p = p' ∧ c = c' := by
  rcases x with ⟨x0, x1, x2⟩ | ⟨x0, x1, x2, x3⟩ | ⟨x0, x1, x2, r, e, cd, x3, x4⟩
  · rcases y with ⟨y0, y1, y2⟩ | ⟨y0, y1, y2, y3⟩ | ⟨y0, y1, y2, r', e', cd', y3, y4⟩
    · exact ⟨by rw [x1, y1], by rw [x2, y2]⟩
    · rw [x0] at y0; cases y0
    · rw [x0] at y0; cases y0
  · rcases y with ⟨y0, y1, y2⟩ | ⟨y0, y1, y2, y3⟩ | ⟨y0, y1, y2, r', e', cd', y3, y4⟩
    · rw [x0] at y0; cases y0
    · exact ⟨by rw [x2, y2], by rw [x3, y3]⟩
    · rw [x1] at y1; cases y1
  · rcases y with ⟨y0, y1, y2⟩ | ⟨y0, y1, y2, y3⟩ | ⟨y0, y1, y2, r', e', cd', y3, y4⟩
    · rw [x0] at y0; cases y0
    · rw [x1] at y1; cases y1
    · obtain ⟨q1, q2, q3⟩ := x3.same y3
      subst q1 q2 q3
      exact ⟨by rw [x4, y4], by rw [x2, y2]⟩
abbrev Post (L : List Nat) (b dec : Int) (w : World) : Ending → World → Prop := fun x w' => ∃ p tv cv c, Res L b dec p c ∧ x = .returned (.tuple #[pkv p tv cv, .int .i64 c]) ∧ w'.ownsRow w.heap.size 5 1 tv p.th.length (Bytes.bys p.th) ∧ w'.ownsRow w.heap.size 2 1 cv p.cd.length (ints p.cd) ∧ Below w.heap.size w w'
theorem nil_row (w : World) (B : Nat) (e : TypeId) : w.ownsRow B e 1 (.slice none 0 0) 0 [] := ⟨rfl, .inl ⟨rfl, rfl⟩⟩
theorem post_no {L : List Nat} {b dec c : Int} {w w' : World} (h : Res L b dec zpk c) (hb : Below w.heap.size w w') : Post L b dec w (.returned (.tuple #[pkv zpk (.slice none 0 0) (.slice none 0 0), .int .i64 c])) w' :=
  ⟨zpk, _, _, c, h, rfl, nil_row _ _ _, nil_row _ _ _, hb⟩

set_option maxHeartbeats 1000000 in
theorem ipack_args (v : Value) (L : List Nat) (b dec : Int) (w : World) (hR : Fls.Reads w v L) (ho : okA L.length b dec = false) :
    Calls Try.prog 7 #[v, .int .i64 b, .int .i64 dec] w (Post L b dec w) := by
  obtain ⟨xa, xc, rfl⟩ := hR.form
  obtain ⟨w1, hw1⟩ : ∃ w1, w1 = w.alloc (.cells #[.int .i64 0, .int .i64 0, .int .i64 0, .int .i64 0, .int .i64 0, .slice none 0 0, .slice none 0 0] 26) := ⟨_, rfl⟩
  have HW : Hid (w1 = w.alloc (.cells #[.int .i64 0, .int .i64 0, .int .i64 0, .int .i64 0, .int .i64 0, .slice none 0 0, .slice none 0 0] 26)) := hw1
  have B1 : Below w.heap.size w w1 := (by rw [hw1]; exact (Below.refl _ _).alloc (Nat.le_refl _) _)
  have Z1 : Box7 w1 w.heap.size (.int .i64 0) (.int .i64 0) (.int .i64 0) (.int .i64 0) (.int .i64 0) (.slice none 0 0) (.slice none 0 0) := (by rw [hw1]; exact zbox w)
  have F1 : ∀ j, w1.frozen? ⟨w.heap.size, j, none⟩ = false := fun j => (by rw [hw1]; simp [go_sem])
  have FX : Hid (Box7 (((((((w1.setCell ⟨w.heap.size, 0, none⟩ (.int .i64 0)).setCell ⟨w.heap.size, 1, none⟩ (.int .i64 0)).setCell ⟨w.heap.size, 2, none⟩ (.int .i64 0)).setCell ⟨w.heap.size, 3, none⟩ (.int .i64 0)).setCell ⟨w.heap.size, 4, none⟩ (.int .i64 0)).setCell ⟨w.heap.size, 5, none⟩ (.slice none 0 0)).setCell ⟨w.heap.size, 6, none⟩ (.slice none 0 0)) w.heap.size (.int .i64 0) (.int .i64 0) (.int .i64 0) (.int .i64 0) (.int .i64 0) (.slice none 0 0) (.slice none 0 0)) := put7_box _ _ _ _ _ _ _ Z1
  have FL : Hid (Below w.heap.size w (((((((w1.setCell ⟨w.heap.size, 0, none⟩ (.int .i64 0)).setCell ⟨w.heap.size, 1, none⟩ (.int .i64 0)).setCell ⟨w.heap.size, 2, none⟩ (.int .i64 0)).setCell ⟨w.heap.size, 3, none⟩ (.int .i64 0)).setCell ⟨w.heap.size, 4, none⟩ (.int .i64 0)).setCell ⟨w.heap.size, 5, none⟩ (.slice none 0 0)).setCell ⟨w.heap.size, 6, none⟩ (.slice none 0 0))) := put7_below _ _ _ _ _ _ _ B1 (Nat.le_refl _)
  have HP : Hid (∀ wz, Below w.heap.size w wz → Post L b dec w (.returned (.tuple #[pkv zpk (.slice none 0 0) (.slice none 0 0), .int .i64 1])) wz) := fun wz h => post_no (.inl ⟨ho, rfl, rfl⟩) h
  obtain ⟨y0, y1, y2, y3, y4, y5, y6⟩ := Z1
  have C1 : Hid (∀ w, Calls Try.prog 20 #[.int .i64 b, .int .i64 1, .int .i64 24] w fun e w' => e = .returned (.bool (decide (1 ≤ b) && decide (b ≤ 24))) ∧ w' = w) := fun w => win_any _ _ _ w
  have C2 : Hid (∀ w, Calls Try.prog 20 #[.int .i64 dec, .int .i64 (-3), .int .i64 6] w fun e w' => e = .returned (.bool (decide (-3 ≤ dec) && decide (dec ≤ 6))) ∧ w' = w) := fun w => win_any _ _ _ w
  unfold okA at ho
  obtain ⟨n, hn⟩ : ∃ n, n = L.length := ⟨_, rfl⟩
  rw [← hn] at ho ⊢
  clear hw1 hR hn B1
  generalize (decide (1 ≤ b) && decide (b ≤ 24)) = q1 at *
  generalize (decide (-3 ≤ dec) && decide (dec ≤ 6)) = q2 at *
  by_cases hl : n ≤ 4096
  · have l1 : ((n : Int) ≤ 4096) := by omega
    have l2 : decide (4096 < (n : Int)) = false := decide_eq_false (by omega)
    cases q1
    · clear ho
      go_enter Try.func7, Try.ntmps7
      go_upto_region 1 with fail
      rw [← HW.out]
      go_wp2_with fail
      refine (C1.out _).mono ?_
      rintro e w' ⟨rfl, hw⟩; subst w'
      go_wp2_with fail
      generalize World.setCell _ _ _ = wz at FX FL ⊢
      obtain ⟨z0, z1, z2, z3, z4, z5, z6⟩ := FX.out
      exact bodyPost_ret (v := .tuple #[pkv zpk (.slice none 0 0) (.slice none 0 0), .int .i64 1]) (by simp [results, Try.results7, go_sem, pkv, zpk, z0, z1, z2, z3, z4, z5, z6]) rfl (HP.out _ FL.out)
    · cases q2
      · clear ho
        go_enter Try.func7, Try.ntmps7
        go_upto_region 1 with fail
        rw [← HW.out]
        go_wp2_with fail
        refine (C1.out _).mono ?_
        rintro e w' ⟨rfl, hw⟩; subst w'
        go_wp2_with fail
        refine (C2.out _).mono ?_
        rintro e w' ⟨rfl, hw⟩; subst w'
        go_wp2_with fail
        generalize World.setCell _ _ _ = wz at FX FL ⊢
        obtain ⟨z0, z1, z2, z3, z4, z5, z6⟩ := FX.out
        exact bodyPost_ret (v := .tuple #[pkv zpk (.slice none 0 0) (.slice none 0 0), .int .i64 1]) (by simp [results, Try.results7, go_sem, pkv, zpk, z0, z1, z2, z3, z4, z5, z6]) rfl (HP.out _ FL.out)
      · simp [hl] at ho
  · have l1 : (4096 : Int) < (n : Int) := by omega
    clear ho
    go_enter Try.func7, Try.ntmps7
    go_upto_region 1 with fail
    rw [← HW.out]
    go_wp2_with fail
    generalize World.setCell _ _ _ = wz at FX FL ⊢
    obtain ⟨z0, z1, z2, z3, z4, z5, z6⟩ := FX.out
    exact bodyPost_ret (v := .tuple #[pkv zpk (.slice none 0 0) (.slice none 0 0), .int .i64 1]) (by simp [results, Try.results7, go_sem, pkv, zpk, z0, z1, z2, z3, z4, z5, z6]) rfl (HP.out _ FL.out)

end Go.Proofs.Ytgajajpcjbpalaa.Pkd
