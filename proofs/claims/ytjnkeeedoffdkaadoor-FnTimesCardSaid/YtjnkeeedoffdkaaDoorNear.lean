/- Plain facts on the nearest day: months by their number, the time in each, and that the nearest one lies no further off than two months. -/
import Derived.Test.YtjnkeeedoffdkaaDoorTimeLaw
namespace Go.Proofs.YtjnkeeedoffdkaaDoor.Dates

def yr (j : Int) : Int := 2000 + j / 12
def mo (j : Int) : Int := 1 + j % 12
def start (j : Int) : Int := ys (yr j) + cum (yr j) (mo j)
def dist (a r : Int) : Int := if r ≤ a then a - r else r - a
section
variable (day hour minute ref : Int)
/-- The time on that day of the month with this number. -/
def T (j : Int) : Int := (start j + day - 1) * 1440 + hour * 60 + minute
def V (j : Int) : Prop := good (yr j) (mo j) day 0 0 ∧ 0 ≤ T day hour minute j ∧ T day hour minute j ≤ 52596000
def Inv (lo hi best : Int) : Prop :=
  (best = -1 ∧ ∀ i, lo ≤ i → i < hi → ¬ V day hour minute i) ∨
  (0 ≤ best ∧ ∃ j, lo ≤ j ∧ j < hi ∧ V day hour minute j ∧ best = T day hour minute j ∧ ∀ i, lo ≤ i → i < hi → V day hour minute i → dist (T day hour minute j) ref < dist (T day hour minute i) ref ∨ dist (T day hour minute j) ref = dist (T day hour minute i) ref ∧ j ≤ i)
end
section
variable {day hour minute ref : Int}

theorem inv_empty (lo : Int) : Inv day hour minute ref lo lo (-1) := Or.inl ⟨rfl, fun i h1 h2 => by omega⟩
theorem inv_skip {lo hi best : Int} (h : Inv day hour minute ref lo hi best) (hv : ¬ V day hour minute hi) : Inv day hour minute ref lo (hi + 1) best := by
  rcases h with ⟨e, h⟩ | ⟨e, j, h1, h2, h3, h4, h5⟩
  · refine Or.inl ⟨e, fun i a b => ?_⟩
    by_cases x : i = hi
    · rw [x]; exact hv
    · exact h i a (by omega)
  · refine Or.inr ⟨e, j, h1, by omega, h3, h4, fun i a b c => ?_⟩
    by_cases x : i = hi
    · rw [x] at c; exact absurd c hv
    · exact h5 i a (by omega) c
theorem inv_take {lo hi best : Int} (h : Inv day hour minute ref lo hi best) (hl : lo ≤ hi) (hv : V day hour minute hi) (hc : best < 0 ∨ dist (T day hour minute hi) ref < dist best ref) : Inv day hour minute ref lo (hi + 1) (T day hour minute hi) := by
  refine Or.inr ⟨hv.2.1, hi, hl, by omega, hv, rfl, fun i a b c => ?_⟩
  by_cases x : i = hi
  · rw [x]; exact Or.inr ⟨rfl, by omega⟩
  · rcases h with ⟨e, h⟩ | ⟨e, j, h1, h2, h3, h4, h5⟩
    · exact absurd c (h i a (by omega))
    · have k := h5 i a (by omega) c
      rw [h4] at hc
      have := h3.2.1
      left
      omega
theorem inv_keep {lo hi best : Int} (h : Inv day hour minute ref lo hi best) (hb : 0 ≤ best) (hc : ¬ dist (T day hour minute hi) ref < dist best ref) : Inv day hour minute ref lo (hi + 1) best := by
  rcases h with ⟨e, h⟩ | ⟨e, j, h1, h2, h3, h4, h5⟩
  · omega
  · refine Or.inr ⟨e, j, h1, by omega, h3, h4, fun i a b c => ?_⟩
    by_cases x : i = hi
    · rw [x]; rw [h4] at hc; omega
    · exact h5 i a (by omega) c
theorem inv_lo {lo hi best : Int} (h : Inv day hour minute ref lo hi best) : best = -1 ∨ 0 ≤ best := by
  rcases h with ⟨e, _⟩ | ⟨e, _⟩
  · exact Or.inl e
  · exact Or.inr e

theorem start_succ (j : Int) (h0 : 0 ≤ j) (h1 : j ≤ 1199) : start (j + 1) = start j + dim (yr j) (mo j) := by
  unfold start
  by_cases h : j % 12 = 11
  · have e1 : yr (j + 1) = yr j + 1 := by unfold yr; omega
    have e2 : mo (j + 1) = 1 := by unfold mo; omega
    have e3 : mo j = 12 := by unfold mo; omega
    have a := ys_succ (yr j) (by unfold yr; omega) (by unfold yr; omega)
    have b := cum_succ (yr j) 12 (by omega) (by omega)
    have c : cum (yr j) (12 + 1) = 365 + lp (yr j) := rfl
    rw [e1, e2, e3, cum_one]
    omega
  · have e1 : yr (j + 1) = yr j := by unfold yr; omega
    have e2 : mo (j + 1) = mo j + 1 := by unfold mo; omega
    have b := cum_succ (yr j) (mo j) (by unfold mo; omega) (by unfold mo; omega)
    rw [e1, e2]
    omega
theorem start_mono_n (i : Int) (n : Nat) (h0 : 0 ≤ i) (h1 : i + n ≤ 1200) : start i + 28 * n ≤ start (i + n) := by
  induction n with
  | zero => simp
  | succ n ih =>
    have e := start_succ (i + n) (by omega) (by omega)
    have d := dim_bd (yr (i + n)) (mo (i + n))
    have k := ih (by omega)
    rw [show i + ((n + 1 : Nat) : Int) = i + n + 1 by omega, e]
    omega
theorem start_mono (i j : Int) (h0 : 0 ≤ i) (h : i ≤ j) (h1 : j ≤ 1200) : start i + 28 * (j - i) ≤ start j := by
  have := start_mono_n i (j - i).toNat h0 (by omega)
  rw [show i + ((j - i).toNat : Int) = j by omega] at this
  omega
theorem two_months (j day : Int) (h : day ≤ 31) : day ≤ dim (yr j) (mo j) ∨ day ≤ dim (yr (j + 1)) (mo (j + 1)) := by
  have e : dim (yr j) (mo j) = 31 ∨ dim (yr (j + 1)) (mo (j + 1)) = 31 := by
    have hm : j % 12 = 0 ∨ j % 12 = 1 ∨ j % 12 = 2 ∨ j % 12 = 3 ∨ j % 12 = 4 ∨ j % 12 = 5 ∨ j % 12 = 6 ∨ j % 12 = 7 ∨ j % 12 = 8 ∨ j % 12 = 9 ∨ j % 12 = 10 ∨ j % 12 = 11 := by omega
    have e1 : mo j = 1 + j % 12 := rfl
    have e2 : mo (j + 1) = 1 + (j + 1) % 12 := rfl
    rcases hm with x | x | x | x | x | x | x | x | x | x | x | x
    · left; rw [e1, x]; rfl
    · right; rw [e2, show (j + 1) % 12 = 2 by omega]; rfl
    · left; rw [e1, x]; rfl
    · right; rw [e2, show (j + 1) % 12 = 4 by omega]; rfl
    · left; rw [e1, x]; rfl
    · right; rw [e2, show (j + 1) % 12 = 6 by omega]; rfl
    · left; rw [e1, x]; rfl
    · left; rw [e1, x]; rfl
    · right; rw [e2, show (j + 1) % 12 = 9 by omega]; rfl
    · left; rw [e1, x]; rfl
    · right; rw [e2, show (j + 1) % 12 = 11 by omega]; rfl
    · left; rw [e1, x]; rfl
  omega
theorem good_range {j : Int} (g : good (yr j) (mo j) day 0 0) : 0 ≤ j ∧ j ≤ 1200 := by
  have := good_bd g
  unfold yr mo at this
  omega
theorem good_day {j : Int} (g : good (yr j) (mo j) day 0 0) : 1 ≤ day ∧ day ≤ dim (yr j) (mo j) := by
  rcases g with ⟨_, h2, h3, _⟩ | ⟨_, _, h, _⟩
  · rw [h2, h3]; exact ⟨by omega, by have := dim_bd (yr j) 1; omega⟩
  · exact h
theorem good_mk {j : Int} (h0 : 0 ≤ j) (h1 : j ≤ 1199) (hd : 1 ≤ day) (hd2 : day ≤ dim (yr j) (mo j)) : good (yr j) (mo j) day 0 0 :=
  Or.inr ⟨⟨by unfold yr; omega, by unfold yr; omega⟩, ⟨by unfold mo; omega, by unfold mo; omega⟩, ⟨hd, hd2⟩, ⟨by omega, by omega⟩, by omega, by omega⟩

/-- What holds of the clock: hour 24 only with minute 0. -/
def Clock (day hour minute : Int) : Prop := 1 ≤ day ∧ day ≤ 31 ∧ 0 ≤ hour ∧ 0 ≤ minute ∧ hour * 60 + minute ≤ 1440

/-- Where J is the month of ref: a day of a month ahead of it is not behind ref. -/
theorem T_low {J i : Int} (hc : Clock day hour minute) (hJ : J ≤ 1200) (hr : start J * 1440 ≤ ref) (hi : i < J) (g : good (yr i) (mo i) day 0 0) : T day hour minute i ≤ ref := by
  obtain ⟨c1, c2, c3, c4, c5⟩ := hc
  have a := good_range g
  have b := good_day g
  have s := start_succ i a.1 (by omega)
  have m := start_mono (i + 1) J (by omega) (by omega) hJ
  unfold T
  omega
theorem T_high {J i : Int} (hc : Clock day hour minute) (h0 : 0 ≤ J) (hr : J ≤ 1199 → ref < start (J + 1) * 1440) (hi : J < i) (g : good (yr i) (mo i) day 0 0) : ref < T day hour minute i := by
  obtain ⟨c1, c2, c3, c4, c5⟩ := hc
  have a := good_range g
  have m := start_mono (J + 1) i (by omega) (by omega) a.2
  have := hr (by omega)
  unfold T
  omega
theorem T_mono {i j : Int} (h0 : 0 ≤ i) (h : i < j) (h1 : j ≤ 1200) : T day hour minute i < T day hour minute j := by
  have m := start_mono i j h0 (by omega) h1
  unfold T
  omega
theorem start_zero (j : Int) (h0 : 0 ≤ j) (h1 : j ≤ 1200) : 0 ≤ start j := by
  have := start_mono 0 j (by omega) h0 h1
  have e : start 0 = 0 := rfl
  omega

theorem near {J lo hi b1 b2 : Int} (hc : Clock day hour minute) (h0 : 0 ≤ J) (hJ : J ≤ 1200) (hr1 : start J * 1440 ≤ ref) (hr2 : J ≤ 1199 → ref < start (J + 1) * 1440) (hr3 : ref ≤ 52596000)
    (hlo : lo ≤ J - 2) (hhi : J + 3 ≤ hi) (i1 : Inv day hour minute ref lo hi b1) (i2 : Inv day hour minute ref (J - 2) (J + 3) b2) : b1 = b2 := by
  obtain ⟨c1, c2, c3, c4, c5⟩ := id hc
  -- whatever is valid further off has one within that is nearer
  have inner : ∀ i, V day hour minute i → ∃ j, J - 2 ≤ j ∧ j < J + 3 ∧ V day hour minute j ∧ (j = i ∨ dist (T day hour minute j) ref < dist (T day hour minute i) ref) := by
    intro i hv
    have ai := good_range hv.1
    by_cases x : i < J - 2
    · have pick : ∃ j, J - 2 ≤ j ∧ j ≤ J - 1 ∧ day ≤ dim (yr j) (mo j) := by
        rcases two_months (J - 2) day c2 with h | h
        · exact ⟨J - 2, by omega, by omega, h⟩
        · exact ⟨J - 1, by omega, by omega, by rw [show J - 2 + 1 = J - 1 by omega] at h; exact h⟩
      obtain ⟨j, p1, p2, p3⟩ := pick
      have g : good (yr j) (mo j) day 0 0 := good_mk (by omega) (by omega) c1 p3
      have l1 := T_low hc hJ hr1 (show j < J by omega) g
      have l2 : T day hour minute i < T day hour minute j := T_mono ai.1 (by omega) (by omega)
      have v0 := hv.2.1
      refine ⟨j, p1, by omega, ⟨g, by omega, by omega⟩, Or.inr ?_⟩
      unfold dist
      split <;> split <;> omega
    · by_cases y : J + 2 < i
      · have pick : ∃ j, J + 1 ≤ j ∧ j ≤ J + 2 ∧ day ≤ dim (yr j) (mo j) := by
          rcases two_months (J + 1) day c2 with h | h
          · exact ⟨J + 1, by omega, by omega, h⟩
          · exact ⟨J + 2, by omega, by omega, by rw [show J + 1 + 1 = J + 2 by omega] at h; exact h⟩
        obtain ⟨j, p1, p2, p3⟩ := pick
        have g : good (yr j) (mo j) day 0 0 := good_mk (by omega) (by omega) c1 p3
        have l1 := T_high hc h0 hr2 (show J < j by omega) g
        have l2 : T day hour minute j < T day hour minute i := T_mono (by omega) (by omega) ai.2
        have z := start_zero j (by omega) (by omega)
        have v0 := hv.2.2
        have tz : 0 ≤ T day hour minute j := by unfold T; omega
        refine ⟨j, by omega, by omega, ⟨g, tz, by omega⟩, Or.inr ?_⟩
        unfold dist
        split <;> split <;> omega
      · exact ⟨i, by omega, by omega, hv, Or.inl rfl⟩
  rcases i1 with ⟨e1, n1⟩ | ⟨e1, j1, a1, a2, a3, a4, a5⟩
  · rcases i2 with ⟨e2, _⟩ | ⟨_, j2, d1, d2, d3, _, _⟩
    · omega
    · exact absurd d3 (n1 j2 (by omega) (by omega))
  · obtain ⟨j, k1, k2, k3, k4⟩ := inner j1 a3
    have q := a5 j (by omega) (by omega) k3
    have hj : j = j1 := by
      rcases k4 with k4 | k4
      · exact k4
      · omega
    rw [hj] at k1 k2 k3
    rcases i2 with ⟨_, n2⟩ | ⟨_, j2, d1, d2, d3, d4, d5⟩
    · exact absurd k3 (n2 j1 k1 k2)
    · have r1 := a5 j2 (by omega) (by omega) d3
      have r2 := d5 j1 k1 k2 k3
      have : j1 = j2 := by omega
      rw [a4, d4, this]
end
end Go.Proofs.YtjnkeeedoffdkaaDoor.Dates
