/- Gr, Rdy, JobOk -/
import Derived.Test.YtfhpomfdkpfooaaFr
import Derived.Test.YtfhpomfdkpfooaaBm
import Derived.Test.YtfhpomfdkpfooaaLocks
import Derived.Conc.MuLone
import Derived.Deep.DrawnRows
import Derived.Deep.QuietTactic
import Derived.BigQuiet
/- A group is entered, behind its lock. -/
namespace Go.Proofs.Ytfhpomfdkpfooaa.Gr
open Go.ChangeShapes Go.WideShapes Go.ChangeAt Go.RowKit
open Go.MuLone
open Go.Proofs.Ytfhpomfdkpfooaa.Tm Go.Proofs.Ytfhpomfdkpfooaa.Rk

/-- A group of tasks in memory, its lock free. -/
def Gp (w : World) (g : Nat) (lim run : Int) : Prop := w.cell? ⟨g, 0, none⟩ = some (.int .i32 0) ∧ w.cell? ⟨g, 2, none⟩ = some (.int .i64 lim) ∧ w.cell? ⟨g, 3, none⟩ = some (.int .i64 run) ∧ (∀ j, w.frozen? ⟨g, j, none⟩ = false) ∧ g < w.heap.size
theorem Gp.heap {w w' : World} {g : Nat} {l r : Int} (h : Gp w g l r) (e : w'.heap[g]? = w.heap[g]?) (hs : w.heap.size ≤ w'.heap.size) : Gp w' g l r := by
  obtain ⟨h0, h1, h2, h3, h4⟩ := h
  exact ⟨(World.cell?_of_block (a := ⟨g, 0, none⟩) e).trans h0, (World.cell?_of_block (a := ⟨g, 2, none⟩) e).trans h1, (World.cell?_of_block (a := ⟨g, 3, none⟩) e).trans h2, fun j => (World.frozen?_of_block (a := ⟨g, j, none⟩) e).trans (h3 j), by omega⟩
set_option maxHeartbeats 1000000 in
theorem enter_any (w : World) (g : Nat) (lim run : Int) (h : Gp w g lim run) (h0 : 0 ≤ run) (h1 : run ≤ 1000) :
    Calls Try.prog 38 #[.pointer (some ⟨g, 0, none⟩)] w fun e w' => e = .returned (.bool (decide (run < lim))) ∧ Gp w' g lim (if run < lim then run + 1 else run) ∧ KB (fun b => b = g) w w' := by
  obtain ⟨c0, c2, c3, fz, hg⟩ := h
  obtain ⟨W1, hW1⟩ : ∃ y, y = w.setCell ⟨g, 0, none⟩ (.int .i32 1) := ⟨_, rfl⟩
  have HW1 : Hid (W1 = w.setCell ⟨g, 0, none⟩ (.int .i32 1)) := hW1
  have K1 : Hid (KB (fun b => b = g) w W1) := (by show KB _ _ _; rw [hW1]; exact KB.of_set w g 0 _ rfl)
  have S1 : Hid (W1.cell? ⟨g, 0, none⟩ = some (.int .i32 1) ∧ W1.cell? ⟨g, 2, none⟩ = some (.int .i64 lim) ∧ W1.cell? ⟨g, 3, none⟩ = some (.int .i64 run) ∧ (∀ j, W1.frozen? ⟨g, j, none⟩ = false) ∧ g < W1.heap.size) := (by
    show _ ∧ _
    rw [hW1]
    refine ⟨by simp [go_sem, c0], by simp [go_sem, c2], by simp [go_sem, c3], fun j => by simp [go_sem, fz], by simpa using hg⟩)
  have f0 := fz 0
  clear hW1
  by_cases hc : lim ≤ run
  · have e1 : decide (run < lim) = false := decide_eq_false (by omega)
    rw [e1, if_neg (by omega)]
    obtain ⟨d0, d2, d3, df, dg⟩ := S1.out
    have SE : Hid (∀ m, Gp ((W1.drewN m).setCell ⟨g, 0, none⟩ (.int .i32 0)) g lim run ∧ KB (fun b => b = g) w ((W1.drewN m).setCell ⟨g, 0, none⟩ (.int .i32 0))) := fun m => ⟨⟨by simp [go_sem, d0], by simp [go_sem, d2], by simp [go_sem, d3], fun j => by simp [go_sem, df], by simpa using dg⟩, K1.out.trans ((KB.of_below (S := fun b => b = g) (below_drewN (Below.refl _ _) m)).trans (KB.of_set (S := fun b => b = g) _ g 0 _ rfl))⟩
    have DE : Hid (∀ m, (W1.drewN m).cell? ⟨g, 0, none⟩ = some (.int .i32 1) ∧ (W1.drewN m).frozen? ⟨g, 0, none⟩ = false) := fun m => ⟨d0, df 0⟩
    have df0 := df 0
    clear df e1
    go_enter_defers Try.func38, Try.ntmps38
    go_wp2_with (go_at_call 54; refine (lock_free Try.muLib ⟨g, 0, none⟩ _ c0 f0).mono ?_; rintro e w' ⟨rfl, rfl⟩; rw [← HW1.out])
    go_quiet (fail)
    go_wp2_with fail
    refine leaves_cons (f := 55) (args := #[.pointer (some ⟨g, 0, none⟩)]) (by simp) (by simp [go_sem]) ?_
    refine (unlock_deferred Try.muLib ⟨g, 0, none⟩ .returning _ (DE.out _).1 (DE.out _).2).mono ?_
    rintro e u' w'' ⟨rfl, rfl, rfl⟩
    exact ⟨_, results_tmp rfl _ _ _, rfl, SE.out _⟩
  · have e1 : decide (run < lim) = true := decide_eq_true (by omega)
    rw [e1, if_pos (by omega)]
    obtain ⟨d0, d2, d3, df, dg⟩ := S1.out
    have SE : Hid (∀ m, Gp (((W1.drewN m).setCell ⟨g, 3, none⟩ (.int .i64 (run + 1))).setCell ⟨g, 0, none⟩ (.int .i32 0)) g lim (run + 1) ∧ KB (fun b => b = g) w (((W1.drewN m).setCell ⟨g, 3, none⟩ (.int .i64 (run + 1))).setCell ⟨g, 0, none⟩ (.int .i32 0)) ∧ ((W1.drewN m).setCell ⟨g, 3, none⟩ (.int .i64 (run + 1))).cell? ⟨g, 0, none⟩ = some (.int .i32 1) ∧ ((W1.drewN m).setCell ⟨g, 3, none⟩ (.int .i64 (run + 1))).frozen? ⟨g, 0, none⟩ = false) := fun m => ⟨⟨by simp [go_sem, d0], by simp [go_sem, d2], by simp [go_sem, d3], fun j => by simp [go_sem, df], by simpa using dg⟩, (K1.out.trans ((KB.of_below (S := fun b => b = g) (below_drewN (Below.refl _ _) m)).trans (KB.of_set (S := fun b => b = g) _ g 3 _ rfl))).trans (KB.of_set (S := fun b => b = g) _ g 0 _ rfl), by simp [go_sem, d0], by simp [go_sem, df]⟩
    have df0 := df 0
    have df3 := df 3
    clear df e1
    go_enter_defers Try.func38, Try.ntmps38
    go_wp2_with (go_at_call 54; refine (lock_free Try.muLib ⟨g, 0, none⟩ _ c0 f0).mono ?_; rintro e w' ⟨rfl, rfl⟩; rw [← HW1.out])
    go_quiet (fail)
    go_wp2_with fail
    refine leaves_cons (f := 55) (args := #[.pointer (some ⟨g, 0, none⟩)]) (by simp) (by simp [go_sem]) ?_
    refine (unlock_deferred Try.muLib ⟨g, 0, none⟩ .returning _ (SE.out _).2.2.1 (SE.out _).2.2.2).mono ?_
    rintro e u' w'' ⟨rfl, rfl, rfl⟩
    exact ⟨_, results_tmp rfl _ _ _, rfl, (SE.out _).1, (SE.out _).2.1⟩
end Go.Proofs.Ytfhpomfdkpfooaa.Gr

/- A tied task's ready: whether all that it waits for have ended. -/
namespace Go.Proofs.Ytfhpomfdkpfooaa.Gr
open Go.ChangeShapes Go.WideShapes Go.ChangeAt Go.RowKit
open Go.Proofs.Ytfhpomfdkpfooaa.Rk

/-- what a tied task at t waits for: k tied tasks, the i-th with its job at P i, which has the state st i -/
def Aw (w : World) (t : Addr) (k : Nat) (st : Nat → Int) : Prop := ∃ (ba oa c : Nat), k ≤ 1000 ∧ w.cell? ⟨t.block, t.off + 6, none⟩ = some (.slice (some ⟨ba, oa, none⟩) k c) ∧ ∀ i, i < k → ∃ pb po jb jo : Nat, w.cell? ⟨ba, oa + i, none⟩ = some (.pointer (some ⟨pb, po, none⟩)) ∧ w.cell? ⟨pb, po + 5, none⟩ = some (.pointer (some ⟨jb, jo, none⟩)) ∧ w.cell? ⟨jb, jo, none⟩ = some (.int .i64 (st i))
set_option maxHeartbeats 1000000 in
theorem ready_any (w : World) (bt ot k : Nat) (st : Nat → Int) (h : Aw w ⟨bt, ot, none⟩ k st) (bo : Bool) (hb : bo = true ↔ ∀ i, i < k → st i = 2) :
    Calls Try.prog 37 #[.pointer (some ⟨bt, ot, none⟩)] w fun e w' => e = .returned (.bool bo) ∧ w' = w := by
  obtain ⟨ba, oa, c, hk, h1, h2⟩ := h
  have H2 : Hid (∀ i, i < k → ∃ pb po jb jo : Nat, w.cell? ⟨ba, oa + i, none⟩ = some (.pointer (some ⟨pb, po, none⟩)) ∧ w.cell? ⟨pb, po + 5, none⟩ = some (.pointer (some ⟨jb, jo, none⟩)) ∧ w.cell? ⟨jb, jo, none⟩ = some (.int .i64 (st i))) := h2
  have HB : Hid (bo = true ↔ ∀ i, i < k → st i = 2) := hb
  clear h2 hb
  dsimp only at h1
  go_enter Try.func37, Try.ntmps37
  go_wp2_with fail
  go_loopw [10, 4] (fun i _ wr => ∃ j : Nat, j ≤ k ∧ i = .int .i64 j ∧ wr = w ∧ Hid (∀ m, m < j → st m = 2)) (fun i _ _ => k - (intOf i).toNat)
  case atStart => exact ⟨0, Nat.zero_le _, rfl, rfl, fun m hm => absurd hm (by omega)⟩
  case round =>
    obtain ⟨j, hj, rfl, rfl, OK⟩ := hrel
    by_cases hlt : j < k
    · have i1 : (0 : Int) ≤ (j : Int) := by omega
      have i2 : (j : Int) < (k : Int) := by omega
      obtain ⟨pb, po, jb, jo, q1, q2, q3⟩ := H2.out j hlt
      by_cases hs : st j = 2
      · have OK2 : Hid (∀ m, m < j + 1 → st m = 2) := fun m hm => (by
          by_cases e : m = j
          · rw [e]; exact hs
          · exact OK.out m (by omega))
        have hsb : (st j != 2) = false := by simpa using hs
        clear OK
        go_wp2_with fail
        go_roundw
        case rel => exact ⟨j + 1, by omega, by go_num, trivial, OK2⟩
        case measure => simp [intOf]; omega
      · have HF : Hid (bo = false) := (by
          show bo = false
          cases hbo : bo
          · rfl
          · exact absurd (HB.out.1 hbo j hlt) hs)
        have hsb : (st j != 2) = true := by simpa using hs
        go_wp2_with fail
        go_ret
        exact ⟨by rw [HF.out]; rfl, rfl⟩
    · have HT : Hid (bo = true) := HB.out.2 (fun m hm => OK.out m (by omega))
      have i2 : ¬ (j : Int) < (k : Int) := by omega
      go_wp2_with fail
      go_ret
      exact ⟨by rw [HT.out]; rfl, rfl⟩
end Go.Proofs.Ytfhpomfdkpfooaa.Gr

/- A tied task's jobOk. -/
namespace Go.Proofs.Ytfhpomfdkpfooaa.Gr
open Go.ChangeShapes Go.WideShapes Go.ChangeAt Go.RowKit
open Go.Proofs.Ytfhpomfdkpfooaa.Rk Go.Proofs.Ytfhpomfdkpfooaa.Al

def jj (s t m : Int) (f : Bool) : Bool := if s = 0 then inn t 0 (m - 1) else if s = 1 ∨ s = 2 then inn t 1 m && f else if s = 3 then (t == m) && f else false
set_option maxHeartbeats 2000000 in
theorem jobok_any (w : World) (bt ot jb jo : Nat) (s t m : Int) (f : Bool) (h1 : w.cell? ⟨bt, ot + 4, none⟩ = some (.int .i64 m)) (h2 : w.cell? ⟨bt, ot + 5, none⟩ = some (.pointer (some ⟨jb, jo, none⟩))) (h3 : w.cell? ⟨jb, jo, none⟩ = some (.int .i64 s)) (h4 : w.cell? ⟨jb, jo + 1, none⟩ = some (.int .i64 t)) (hm : 0 ≤ m ∧ m ≤ 1000)
    (hr : ∀ n, Calls Try.prog 37 #[.pointer (some ⟨bt, ot, none⟩)] (w.drewN n) fun e w' => e = .returned (.bool f) ∧ w' = w.drewN n) :
    Calls Try.prog 46 #[.pointer (some ⟨bt, ot, none⟩)] w fun e w' => e = .returned (.bool (jj s t m f)) ∧ ∃ n, w' = w.drewN n := by
  have RD : Hid (∀ n, Calls Try.prog 37 #[.pointer (some ⟨bt, ot, none⟩)] (w.drewN n) fun e w' => e = .returned (.bool f) ∧ w' = w.drewN n) := hr
  clear hr
  have j1 : IntKind.i64.wrap (m - 1) = m - 1 := IntWalk.i64_in _ (by omega)
  have C0 : Hid (∀ w, Calls Try.prog 29 #[.int .i64 t, .int .i64 0, .int .i64 (m - 1)] w fun e w' => e = .returned (.bool (inn t 0 (m - 1))) ∧ w' = w) := fun w => i_in _ _ _ w
  have C1 : Hid (∀ w, Calls Try.prog 29 #[.int .i64 t, .int .i64 1, .int .i64 m] w fun e w' => e = .returned (.bool (inn t 1 m)) ∧ w' = w) := fun w => i_in _ _ _ w
  by_cases s0 : s = 0
  · have e : jj s t m f = inn t 0 (m - 1) := by unfold jj; rw [if_pos s0]
    rw [e]
    subst s0
    clear e
    go_enter Try.func46, Try.ntmps46
    go_wp2_with fail
    go_quiet ((go_at_call 29; exact Calls.quiet_of_same (C0.out _)))
    go_wp2_with fail
    go_ret
    exact ⟨rfl, _, rfl⟩
  by_cases s12 : s = 1 ∨ s = 2
  · have e : jj s t m f = (inn t 1 m && f) := by unfold jj; rw [if_neg s0, if_pos s12]
    rw [e]
    have n0 : (s == 0) = false := by simpa using s0
    clear e
    cases hi : inn t 1 m
    · rw [hi] at C1
      rcases s12 with rfl | rfl
      all_goals
        go_enter Try.func46, Try.ntmps46
        go_wp2_with fail
        go_quiet ((go_at_call 29; exact Calls.quiet_of_same (C1.out _)))
        go_wp2_with fail
        go_ret
        exact ⟨rfl, _, rfl⟩
    · rw [hi] at C1
      rcases s12 with rfl | rfl
      all_goals
        go_enter Try.func46, Try.ntmps46
        go_wp2_with fail
        go_quiet (first | (go_at_call 29; exact Calls.quiet_of_same (C1.out _)) | (go_at_call 37; exact Calls.quiet_of_same (RD.out _)))
        go_wp2_with fail
        go_ret
        exact ⟨rfl, _, rfl⟩
  by_cases s3 : s = 3
  · have e : jj s t m f = ((t == m) && f) := by unfold jj; rw [if_neg s0, if_neg s12, if_pos s3]
    rw [e]
    subst s3
    clear e
    cases hi : (t == m)
    · have hn : ¬ t = m := by simpa using hi
      go_enter Try.func46, Try.ntmps46
      go_wp2_with fail
      go_quiet (fail)
      go_wp2_with fail
      go_ret
      exact ⟨rfl, _, rfl⟩
    · have hn : t = m := by simpa using hi
      subst hn
      go_enter Try.func46, Try.ntmps46
      go_wp2_with fail
      go_quiet ((go_at_call 37; exact Calls.quiet_of_same (RD.out _)))
      go_wp2_with fail
      go_ret
      exact ⟨rfl, _, rfl⟩
  · have e : jj s t m f = false := by unfold jj; rw [if_neg s0, if_neg s12, if_neg s3]
    rw [e]
    have n0 : (s == 0) = false := by simpa using s0
    have n1 : (s == 1) = false := by simpa using fun h => s12 (Or.inl h)
    have n2 : (s == 2) = false := by simpa using fun h => s12 (Or.inr h)
    have n3 : (s == 3) = false := by simpa using s3
    have m1 : ¬ s = 1 := fun h => s12 (Or.inl h)
    have m2 : ¬ s = 2 := fun h => s12 (Or.inr h)
    clear e
    go_enter Try.func46, Try.ntmps46
    go_wp2_with fail
    go_ret
    exact ⟨rfl, 0, rfl⟩
end Go.Proofs.Ytfhpomfdkpfooaa.Gr
