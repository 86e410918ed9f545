/- All ways to choose so many of a list: the program's counting. -/
import Derived.Test.YtefheoafpkghjaaPe
import Derived.BigQuiet
namespace Go.Proofs.Ytefheoafpkghjaa.Pe
open Go.ChangeShapes Go.WideShapes Go.ChangeAt Go.RowKit
open Go.Proofs.Ytefheoafpkghjaa.Lists Go.Proofs.Ytefheoafpkghjaa.Al

theorem reads_tail {w : World} {b o cap : Nat} {z : Int} {t : List Int} (h : Lists.Reads w (.slice (some ⟨b, o, none⟩) (t.length + 1) cap) (z :: t)) : Lists.Reads w (.slice (some ⟨b, o + 1, none⟩) t.length (cap - 1)) t := by
  rcases h with ⟨e, _⟩ | ⟨b', o', cap', e, h2, h3, h4, h5⟩
  · cases e
  · simp at e
    obtain ⟨⟨rfl, rfl⟩, rfl⟩ := e
    simp at h2
    refine Or.inr ⟨b, o + 1, cap - 1, rfl, by omega, by unfold maxLen at *; omega, h4, fun i hi => ?_⟩
    have := h5 (i + 1) (by simpa using hi)
    rw [show o + (i + 1) = o + 1 + i by omega] at this
    rw [this]
    simp

set_option maxHeartbeats 1000000 in
theorem choices_any (L : List Int) : ∀ (c : Nat) (m : Int) (v : Value) (w : World), Lists.Reads w v L → L.length ≤ 16 → inB L → c ≤ 8 → (-40000000 + 1000000 * (L.length : Int) ≤ m ∧ m ≤ 40000000 - 1000000 * (L.length : Int)) →
    Calls Try.prog 14 #[v, .int .i64 (c : Int), .int .i64 m] w fun e w' => e = .returned (.tuple #[.int .i64 (wy L c m).1, .int .i64 (wy L c m).2]) ∧ ∃ k, w' = w.drewN k := by
  have Z : ∀ (L : List Int) (m : Int) (v : Value) (w : World), Calls Try.prog 14 #[v, .int .i64 0, .int .i64 m] w fun e w' => e = .returned (.tuple #[.int .i64 (wy L 0 m).1, .int .i64 (wy L 0 m).2]) ∧ ∃ k, w' = w.drewN k := by
    intro L m v w
    rw [wy_zero]
    by_cases g : m ≤ 0
    · rw [if_pos g]
      have g' : ¬ 0 < m := by omega
      go_enter Try.func14, Try.ntmps14
      go_wp2_with fail
      exact bodyPost_ret (v := .tuple #[.int .i64 1, .int .i64 1]) (by simp [results, Try.results14, go_sem]) rfl ⟨rfl, 0, rfl⟩
    · rw [if_neg g]
      have g' : 0 < m := by omega
      go_enter Try.func14, Try.ntmps14
      go_wp2_with fail
      exact bodyPost_ret (v := .tuple #[.int .i64 0, .int .i64 1]) (by simp [results, Try.results14, go_sem]) rfl ⟨rfl, 0, rfl⟩
  have F : ∀ (L : List Int) (c : Nat) (m : Int) (v : Value) (w : World), Lists.Reads w v L → L.length ≤ 16 → c ≤ 7 → L.length < c + 1 → Calls Try.prog 14 #[v, .int .i64 ((c + 1 : Nat) : Int), .int .i64 m] w fun e w' => e = .returned (.tuple #[.int .i64 (wy L (c + 1) m).1, .int .i64 (wy L (c + 1) m).2]) ∧ ∃ k, w' = w.drewN k := by
    intro L c m v w hL hl hc hlt
    rw [wy_few m hlt]
    obtain ⟨a, cap, rfl⟩ := hL.form
    have g1 : ¬ ((c + 1 : Nat) : Int) = 0 := by omega
    have g2 : (((c + 1 : Nat) : Int) == 0) = false := by simp; omega
    have g3 : (L.length : Int) < ((c + 1 : Nat) : Int) := by omega
    clear hL
    generalize ((c + 1 : Nat) : Int) = C at *
    generalize L.length = n at *
    go_enter Try.func14, Try.ntmps14
    go_wp2_with fail
    exact bodyPost_ret (v := .tuple #[.int .i64 0, .int .i64 0]) (by simp [results, Try.results14, go_sem]) rfl ⟨rfl, 0, rfl⟩
  induction L with
  | nil =>
    intro c m v w hL hl hB hc hm
    cases c with
    | zero => exact Z [] m v w
    | succ c => exact F [] c m v w hL hl (by omega) (by simp)
  | cons z t ih =>
    intro c m v w hL hl hB hc hm
    cases c with
    | zero => exact Z (z :: t) m v w
    | succ c =>
      by_cases h : t.length < c
      · exact F (z :: t) c m v w hL hl (by omega) (by simpa using h)
      · obtain ⟨b, o, hcell, hvv⟩ := reads_at hL
        obtain ⟨hb, cap, rfl⟩ := hvv (by simp)
        have q : w.cell? ⟨b, o, none⟩ = some (.int .i64 z) := (by have := hcell 0 (by simp); simpa using this)
        rw [List.length_cons] at hL hl hm
        have hcap : t.length + 1 ≤ cap ∧ cap ≤ maxLen := by
          rcases hL with ⟨e, _⟩ | ⟨b', o', cap', e, h2, h3, _, _⟩
          · cases e
          · simp at e h2
            omega
        have RT : Lists.Reads w (.slice (if cap = 1 then some ⟨b, o, none⟩ else some ⟨b, o + 1, none⟩) t.length (cap - 1)) t := by
          by_cases e : cap = 1
          · rw [if_pos e]
            have : t = [] := List.eq_nil_of_length_eq_zero (by omega)
            subst this
            exact Or.inl ⟨rfl, _, _, rfl⟩
          · rw [if_neg e]
            exact reads_tail hL
        have zb := hB z (by simp)
        have hBt : inB t := fun y hy => hB y (by simp [hy])
        rw [wy_step m h]
        have C1 : Hid (∀ k, Calls Try.prog 14 #[.slice (if cap = 1 then some ⟨b, o, none⟩ else some ⟨b, o + 1, none⟩) t.length (cap - 1), .int .i64 (c : Int), .int .i64 (m - z)] (w.drewN k) fun e w' => e = .returned (.tuple #[.int .i64 (wy t c (m - z)).1, .int .i64 (wy t c (m - z)).2]) ∧ ∃ k', w' = (w.drewN k).drewN k') := fun k => ih c (m - z) _ (w.drewN k) RT (by omega) hBt (by omega) (by omega)
        have C2 : Hid (∀ k, Calls Try.prog 14 #[.slice (if cap = 1 then some ⟨b, o, none⟩ else some ⟨b, o + 1, none⟩) t.length (cap - 1), .int .i64 ((c : Int) + 1), .int .i64 m] (w.drewN k) fun e w' => e = .returned (.tuple #[.int .i64 (wy t (c + 1) m).1, .int .i64 (wy t (c + 1) m).2]) ∧ ∃ k', w' = (w.drewN k).drewN k') := fun k => (by
          have := ih (c + 1) m _ (w.drewN k) RT (by omega) hBt (by omega) (by omega)
          rw [Int.natCast_add] at this
          exact this)
        have d1 := wy_bd16 t (by omega) c (m - z)
        have d2 := wy_bd16 t (by omega) (c + 1) m
        have ec : ((c + 1 : Nat) : Int) = (c : Int) + 1 := by omega
        have g1 : ¬ (c : Int) + 1 = 0 := by omega
        have g2 : ((c : Int) + 1 == 0) = false := by simp; omega
        have g3 : ¬ ((t.length + 1 : Nat) : Int) < (c : Int) + 1 := by omega
        have g4 : (0 : Int) < ((t.length + 1 : Nat) : Int) := by omega
        have g5 : (1 : Int) ≤ ((t.length + 1 : Nat) : Int) := by omega
        have g6 : ((t.length + 1 : Nat) : Int) ≤ (cap : Int) := by omega
        rw [ec, List.length_cons]
        clear hL hcell hvv RT ih ec Z F
        unfold maxLen at hcap
        generalize (wy t c (m - z)).1 = x0 at *
        generalize (wy t c (m - z)).2 = x1 at *
        generalize (wy t (c + 1) m).1 = y0 at *
        generalize (wy t (c + 1) m).2 = y1 at *
        generalize t.length = n at *
        by_cases hc1 : cap = 1
        · subst hc1
          have n0 : n = 0 := by omega
          subst n0
          rw [if_pos rfl] at C1 C2
          go_enter Try.func14, Try.ntmps14
          go_upto_region 7 with fail
          go_quiet ((go_at_call 14; exact Calls.quiet_of (C1.out _)))
          go_wp2_with fail
          refine (C2.out _).mono ?_
          rintro e w1 ⟨rfl, k', hw⟩
          subst hw
          go_wp2_with fail
          exact bodyPost_ret (v := .tuple #[.int .i64 (x0 + y0), .int .i64 (x1 + y1)]) (by simp [results, Try.results14, go_sem]) rfl ⟨rfl, _, rfl⟩
        · rw [if_neg hc1] at C1 C2
          go_enter Try.func14, Try.ntmps14
          go_upto_region 7 with fail
          go_quiet ((go_at_call 14; exact Calls.quiet_of (C1.out _)))
          go_wp2_with fail
          refine (C2.out _).mono ?_
          rintro e w1 ⟨rfl, k', hw⟩
          subst hw
          go_wp2_with fail
          exact bodyPost_ret (v := .tuple #[.int .i64 (x0 + y0), .int .i64 (x1 + y1)]) (by simp [results, Try.results14, go_sem]) rfl ⟨rfl, _, rfl⟩
end Go.Proofs.Ytefheoafpkghjaa.Pe
