/- Analyse: plainly; pairs held against each other; the program. -/
import Derived.Test.YtchglmmeejonjaaWa
import Derived.Test.YtchglmmeejonjaaAtF
import Derived.Deep.RegionHeld3
namespace Go.Proofs.Ytchglmmeejonjaa.An
open Go.ChangeShapes Go.WideShapes Go.ChangeAt Go.RowKit
open Go.Proofs.Ytchglmmeejonjaa.Flt Go.Proofs.Ytchglmmeejonjaa.Wa

attribute [local go_sem] Flt.run_store_float
def inn (a lo hi : Int) : Bool := decide (lo ≤ a) && decide (a ≤ hi)
theorem inn_iff (a lo hi : Int) : inn a lo hi = true ↔ lo ≤ a ∧ a ≤ hi := by simp [inn]
def an (L : List Nat) (sp : Int) : Nat → Nat × Nat
  | 0 => (0, 0)
  | i + 1 => (opF .add (an L sp i).1 (mre (cn (L.getD i 0)) 0 (sine ((-(sp * (i : Int)) + 9) % 36)) (sine ((-(sp * (i : Int))) % 36))), opF .add (an L sp i).2 (mim (cn (L.getD i 0)) 0 (sine ((-(sp * (i : Int)) + 9) % 36)) (sine ((-(sp * (i : Int))) % 36))))
def fit (L : List Nat) (sp : Int) : Bool := decide (L.length = 36) && inn sp 1 17
def A0 (L : List Nat) (sp : Int) : Nat := if fit L sp then opF .quo (an L sp 36).1 4625759767262920704 else qn
def A1 (L : List Nat) (sp : Int) : Nat := if fit L sp then opF .quo (an L sp 36).2 4625759767262920704 else qn
theorem cn_zero : cn 0 = 0 := cn_num (by decide +kernel)
theorem cn_18 : cn 4625759767262920704 = 4625759767262920704 := cn_num (by decide +kernel)
theorem hQ (x y : Nat) (w : World) : (binOp .quo 24 (.float .f64 x) (.float .f64 y)).run Try.prog w = .ok (.float .f64 (opB .quo x y w)) (w.drewN (opD .quo x y)) := run_op Try.prog .quo arQuo 24 x y w

set_option maxHeartbeats 1000000 in
theorem eqPair_any (a b c d : Nat) (w : World) (h1 : cn a = cn c) (h2 : cn b = cn d) : Calls Try.prog 19 #[pr a b, pr c d] w fun e w' => e = .returned (.bool true) ∧ Below w.heap.size w w' := by
  have H1 : Hid (cn a = cn c) := h1
  have H2 : Hid (cn b = cn d) := h2
  clear h1 h2
  go_enter Try.func19, Try.ntmps19
  go_wp2_with fail
  refine (sf_cn _ _ _ H1.out).mono ?_
  rintro e w1 ⟨rfl, rfl⟩
  go_wp2_with fail
  refine (sf_cn _ _ _ H2.out).mono ?_
  rintro e w1 ⟨rfl, rfl⟩
  go_wp2_with fail
  go_ret
  exact ⟨rfl, ((Below.refl _ _).alloc (Nat.le_refl _) _).alloc (by simp) _⟩

set_option maxHeartbeats 1000000 in
theorem sin_any (n a b : Int) (w : World) : Calls Try.prog 34 #[.int .i64 n, .int .i64 a, .int .i64 b] w fun e w' => e = .returned (.bool (inn n a b)) ∧ w' = w := by
  unfold inn
  by_cases h1 : a ≤ n
  · by_cases h2 : n ≤ b
    · rw [decide_eq_true h1, decide_eq_true h2]
      go_enter Try.func34, Try.ntmps34
      go_wp2
      go_ret
      exact ⟨rfl, rfl⟩
    · rw [decide_eq_true h1, decide_eq_false h2]
      go_enter Try.func34, Try.ntmps34
      go_wp2
      go_ret
      exact ⟨rfl, rfl⟩
  · rw [decide_eq_false h1, Bool.false_and]
    go_enter Try.func34, Try.ntmps34
    go_wp2
    go_ret
    exact ⟨rfl, rfl⟩
set_option maxHeartbeats 1000000 in
theorem win_any (n a b : Int) (w : World) : Calls Try.prog 36 #[.int .i64 n, .int .i64 a, .int .i64 b] w fun e w' => e = .returned (.bool (inn n a b)) ∧ w' = w := by
  unfold inn
  by_cases h1 : a ≤ n
  · by_cases h2 : n ≤ b
    · rw [decide_eq_true h1, decide_eq_true h2]
      go_enter Try.func36, Try.ntmps36
      go_wp2
      go_ret
      exact ⟨rfl, rfl⟩
    · rw [decide_eq_true h1, decide_eq_false h2]
      go_enter Try.func36, Try.ntmps36
      go_wp2
      go_ret
      exact ⟨rfl, rfl⟩
  · rw [decide_eq_false h1, Bool.false_and]
    go_enter Try.func36, Try.ntmps36
    go_wp2
    go_ret
    exact ⟨rfl, rfl⟩

set_option maxHeartbeats 1000000 in
theorem imiss (w : World) : Calls Try.prog 37 #[] w fun e w' => e = .returned (pr qn qn) ∧ Below w.heap.size w w' := by
  have C : Hid (∀ w, Calls Try.prog 29 #[] w fun e w' => e = .returned (.float .f64 qn) ∧ w' = w) := fun w => nan_any w
  go_enter Try.func37, Try.ntmps37
  go_wp2_with fail
  refine (C.out _).mono ?_
  rintro e w1 ⟨rfl, hw⟩
  subst hw
  go_wp2_with fail
  refine (C.out _).mono ?_
  rintro e w1 ⟨rfl, hw⟩
  subst hw
  go_wp2_with fail
  refine bodyPost_ret (v := pr qn qn) (by simp [results, Try.results37, go_sem]) rfl ⟨rfl, ?_⟩
  exact (Below.refl _ _).alloc (Nat.le_refl _) _

theorem reads_at {w : World} {v : Value} {L : List Nat} (hL : Fls.Reads w v L) (h : 0 < L.length) : ∃ b o cap, v = .slice (some ⟨b, o, none⟩) L.length cap ∧ b < w.heap.size ∧ ∀ i, i < L.length → w.cell? ⟨b, o + i, none⟩ = some (.float .f64 (L.getD i 0)) := by
  rcases hL with ⟨rfl, _⟩ | ⟨b, o, cap, h1, h2, h3, h4, h5⟩
  · simp at h
  · exact ⟨b, o, cap, h1, h4, h5⟩

set_option maxHeartbeats 2000000 in
theorem ian_yes (L : List Nat) (sp : Int) (v : Value) (w : World) (hL : Fls.Reads w v L) (h36 : L.length = 36) (hsp : inn sp 1 17 = true) :
    Calls Try.prog 18 #[v, .int .i64 sp] w fun e w' => ∃ x y, e = .returned (pr x y) ∧ cn x = opF .quo (an L sp 36).1 4625759767262920704 ∧ cn y = opF .quo (an L sp 36).2 4625759767262920704 ∧ Below w.heap.size w w' := by
  obtain ⟨b, o, cap, rfl, hb, hcell⟩ := reads_at hL (by omega)
  have HC : Hid (∀ w' i, Below w.heap.size w w' → i < 36 → w'.cell? ⟨b, o + i, none⟩ = some (.float .f64 (L.getD i 0))) := fun w' i h hi => (h.cell (p := ⟨b, o + i, none⟩) hb).trans (hcell i (by omega))
  have hs := (inn_iff _ _ _).1 hsp
  have D0 : Hid (∀ w, Calls Try.prog 36 #[.int .i64 sp, .int .i64 1, .int .i64 17] w fun e w' => e = .returned (.bool true) ∧ w' = w) := fun w => by have := win_any sp 1 17 w; rw [hsp] at this; exact this
  have HT : Hid (∀ k w, Calls Try.prog 40 #[.int .i64 k] w fun e w' => ∃ a b, e = .returned (.complex .f64 a b) ∧ cn a = sine ((k + 9) % 36) ∧ cn b = sine (k % 36) ∧ Below w.heap.size w w') := fun k w => iturn k w
  have HM : Hid (∀ a b c d w, Calls Try.prog 39 #[.complex .f64 a b, .complex .f64 c d] w fun e w' => ∃ x y, e = .returned (.complex .f64 x y) ∧ cn x = mre (cn a) (cn b) (cn c) (cn d) ∧ cn y = mim (cn a) (cn b) (cn c) (cn d) ∧ Below w.heap.size w w') := fun a b c d w => imul a b c d w
  have HA : Hid (∀ a b c d w, Calls Try.prog 38 #[.complex .f64 a b, .complex .f64 c d] w fun e w' => ∃ x y, e = .returned (.complex .f64 x y) ∧ cn x = opF .add (cn a) (cn c) ∧ cn y = opF .add (cn b) (cn d) ∧ Below w.heap.size w w') := fun a b c d w => iadd a b c d w
  have kQ := hQ
  obtain ⟨W, hW⟩ : ∃ W, W = w.alloc (Obj.cells #[.float .f64 0, .float .f64 0] 35) := ⟨_, rfl⟩
  have HW : Hid (W = w.alloc (Obj.cells #[.float .f64 0, .float .f64 0] 35)) := hW
  have BW : Hid (Below w.heap.size w W) := (by rw [hW]; exact (Below.refl _ _).alloc (Nat.le_refl _) _)
  have XW : Hid (Bx W w.heap.size (.float .f64 0) (.float .f64 0)) := (by rw [hW]; exact Bx.new w _ _ _)
  rw [h36]
  clear hL hcell h36 hsp hW
  go_enter Try.func18, Try.ntmps18
  go_wp2_with fail
  rw [← HW.out]
  refine (D0.out _).mono ?_
  rintro e w1 ⟨rfl, hw⟩
  have hw' := hw.symm
  subst hw'
  go_wp2_with fail
  go_loopw [5, 19] (fun s i wr => ∃ (k a c : Nat), k ≤ 36 ∧ i = .int .i64 k ∧ s = .complex .f64 a c ∧ Hid (cn a = (an L sp k).1 ∧ cn c = (an L sp k).2) ∧ Hid (Below w.heap.size w wr) ∧ Hid (Bx wr w.heap.size (.float .f64 0) (.float .f64 0))) (fun _ i _ => 36 - (intOf i).toNat)
  case atStart => exact ⟨0, 0, 0, by omega, rfl, rfl, ⟨cn_zero, cn_zero⟩, BW, XW⟩
  case round =>
    obtain ⟨k, a, c, hk, rfl, rfl, HS, BR, XR⟩ := hrel
    by_cases hlt : k < 36
    · have q : wr.cell? ⟨b, o + k, none⟩ = some (.float .f64 (L.getD k 0)) := HC.out wr k BR.out hlt
      have i1 : (0 : Int) ≤ (k : Int) := by omega
      have i2 : (k : Int) < 36 := by omega
      have m1 := Int.mul_le_mul (show sp ≤ 17 by omega) (show (k : Int) ≤ 36 by omega) (by omega) (by omega)
      have m2 := Int.mul_nonneg (show 0 ≤ sp by omega) (show (0 : Int) ≤ (k : Int) by omega)
      have J1 : IntKind.i64.wrap (-sp * (k : Int)) = -(sp * (k : Int)) := by rw [Int.neg_mul]; exact IntWalk.i64_in _ (by omega)
      have J0 : -sp * (k : Int) = -(sp * (k : Int)) := Int.neg_mul _ _
      have HE : Hid (an L sp (k + 1) = (opF .add (an L sp k).1 (mre (cn (L.getD k 0)) 0 (sine ((-(sp * (k : Int)) + 9) % 36)) (sine ((-(sp * (k : Int))) % 36))), opF .add (an L sp k).2 (mim (cn (L.getD k 0)) 0 (sine ((-(sp * (k : Int)) + 9) % 36)) (sine ((-(sp * (k : Int))) % 36))))) := rfl
      clear m1 m2
      have HJ : Hid (-sp * (k : Int) = -(sp * (k : Int))) := J0
      generalize hz : L.getD k 0 = z at *
      clear hz J0
      go_wp2_with fail
      refine (HT.out (-(sp * (k : Int))) wr).mono ?_
      rintro e w1 ⟨t0, t1, rfl, ht0, ht1, hb1⟩
      have T : Hid (cn t0 = sine ((-(sp * (k : Int)) + 9) % 36) ∧ cn t1 = sine ((-(sp * (k : Int))) % 36)) := ⟨ht0, ht1⟩
      have B1 : Hid (Below w.heap.size w w1) := BR.out.trans (hb1.mono BR.out.size)
      have X1 : Hid (Bx w1 w.heap.size (.float .f64 0) (.float .f64 0)) := XR.out.on hb1
      clear ht0 ht1 hb1 q J1
      go_wp2_with fail
      refine (HM.out z 0 t0 t1 w1).mono ?_
      rintro e w2 ⟨p0, p1, rfl, hp0, hp1, hb2⟩
      have P : Hid (cn p0 = mre (cn z) (cn 0) (cn t0) (cn t1) ∧ cn p1 = mim (cn z) (cn 0) (cn t0) (cn t1)) := ⟨hp0, hp1⟩
      have B2 : Hid (Below w.heap.size w w2) := B1.out.trans (hb2.mono B1.out.size)
      have X2 : Hid (Bx w2 w.heap.size (.float .f64 0) (.float .f64 0)) := X1.out.on hb2
      clear hp0 hp1 hb2
      go_wp2_with fail
      refine (HA.out a c p0 p1 w2).mono ?_
      rintro e w3 ⟨s0, s1, rfl, hs0, hs1, hb3⟩
      have S : Hid (cn s0 = (an L sp (k + 1)).1 ∧ cn s1 = (an L sp (k + 1)).2) := (by
        rw [HE.out]
        refine ⟨?_, ?_⟩
        · show cn s0 = _
          rw [hs0, HS.out.1, P.out.1, T.out.1, T.out.2, cn_zero]
        · show cn s1 = _
          rw [hs1, HS.out.2, P.out.2, T.out.1, T.out.2, cn_zero])
      have B3 : Hid (Below w.heap.size w w3) := B2.out.trans (hb3.mono B2.out.size)
      have X3 : Hid (Bx w3 w.heap.size (.float .f64 0) (.float .f64 0)) := X2.out.on hb3
      clear hs0 hs1 hb3
      go_wp2_with fail
      go_roundw
      case rel => exact ⟨k + 1, s0, s1, by omega, by go_num, rfl, S, B3, X3⟩
      case measure => simp [intOf]; omega
    · have hke : k = 36 := by omega
      subst hke
      obtain ⟨x0, x1, x2, x3, x4⟩ := XR.out
      have hne : w.heap.size < wr.heap.size := x4
      go_wp2_with fail
      refine bodyPost_ret (v := pr (opB .quo a 4625759767262920704 wr) (opB .quo c 4625759767262920704 (wr.drewN (opD .quo a 4625759767262920704)))) (by simp [results, Try.results18, go_sem, x0, x1]) rfl ⟨_, _, rfl, by rw [cn_op, HS.out.1, cn_18], by rw [cn_op, HS.out.2, cn_18], ?_⟩
      exact ((below_drewN BR.out _).setCell (p := ⟨w.heap.size, 0, none⟩) (Nat.le_refl _) _).setCell (p := ⟨w.heap.size, 1, none⟩) (Nat.le_refl _) _
end Go.Proofs.Ytchglmmeejonjaa.An
