/- The model's NearDay: what it tells of wrong arguments; small contracts. -/
import Derived.Test.YtjnkeeedoffdkaaDoorNear
import Derived.Deep.LoopGhost
namespace Go.Proofs.YtjnkeeedoffdkaaDoor.Dates
open Go.ChangeShapes Go.WideShapes Go.ChangeAt Go.RowKit

def Fine (day hour minute : Int) : Prop := (1 ≤ day ∧ day ≤ 31) ∧ (0 ≤ hour ∧ hour ≤ 24) ∧ (0 ≤ minute ∧ minute ≤ 59) ∧ (hour = 24 → minute = 0)
theorem Fine.clock {day hour minute : Int} (h : Fine day hour minute) : Clock day hour minute := by
  obtain ⟨h1, h2, h3, h4⟩ := h
  refine ⟨h1.1, h1.2, h2.1, h3.1, ?_⟩
  by_cases e : hour = 24
  · have := h4 e; omega
  · omega

theorem T_tm {day hour minute : Int} (hf : Fine day hour minute) (j : Int) : T day hour minute j = tm (yr j) (mo j) day (hour % 24) minute + (if hour = 24 then 1440 else 0) := by
  obtain ⟨h1, h2, h3, h4⟩ := hf
  unfold T tm start
  by_cases e : hour = 24
  · rw [if_pos e]; subst e; omega
  · rw [if_neg e, show hour % 24 = hour by omega]; omega
theorem V_yes {day hour minute j : Int} (_hf : Fine day hour minute) (g : good (yr j) (mo j) day (hour % 24) minute) (h0 : 0 ≤ T day hour minute j) (h1 : T day hour minute j ≤ 52596000) : V day hour minute j := by
  refine ⟨?_, h0, h1⟩
  rcases g with ⟨g1, g2, g3, _, _⟩ | ⟨g1, g2, g3, _, _⟩
  · exact Or.inl ⟨g1, g2, g3, rfl, rfl⟩
  · exact Or.inr ⟨g1, g2, g3, ⟨by omega, by omega⟩, by omega, by omega⟩
theorem V_good {day hour minute j : Int} (hf : Fine day hour minute) (v : V day hour minute j) : good (yr j) (mo j) day (hour % 24) minute := by
  obtain ⟨g, v0, v1⟩ := v
  obtain ⟨h1, h2, h3, h4⟩ := hf
  rcases g with ⟨g1, g2, g3, _, _⟩ | ⟨g1, g2, g3, _, _⟩
  · have e : start j = 36525 := by unfold start; rw [g1, g2]; rfl
    unfold T at v1
    rw [e, g3] at v1
    exact Or.inl ⟨g1, g2, g3, by omega, by omega⟩
  · exact Or.inr ⟨g1, g2, g3, ⟨by omega, by omega⟩, by omega, by omega⟩

set_option maxHeartbeats 400000 in
theorem sTime_yes (t : Int) (w : World) (h0 : 0 ≤ t) (h1 : t ≤ 52596000) :
    Calls Tryd.prog 15 #[.int .i64 t] w fun e w' => e = .returned (.bool true) ∧ w' = w := by
  go_enter Tryd.func15, Tryd.ntmps15
  go_wp2
  go_ret
  exact ⟨rfl, rfl⟩
set_option maxHeartbeats 400000 in
theorem sTime_no (t : Int) (w : World) (h : t < 0 ∨ 52596000 < t) :
    Calls Tryd.prog 15 #[.int .i64 t] w fun e w' => e = .returned (.bool false) ∧ w' = w := by
  rcases h with h | h
  · go_enter Tryd.func15, Tryd.ntmps15
    go_wp2
    go_ret
    exact ⟨rfl, rfl⟩
  · have h' : 0 ≤ t := by omega
    have hd : decide (t ≤ 52596000) = false := by simp; omega
    go_enter Tryd.func15, Tryd.ntmps15
    go_wp2
    go_ret
    exact ⟨rfl, rfl⟩

abbrev args4 (day hour minute ref : Int) : Array Value := #[.int .i64 day, .int .i64 hour, .int .i64 minute, .int .i64 ref]
abbrev no2 : Ending := .returned (.tuple #[.int .i64 0, .bool false])

def res2 (b : Int) : Ending := if b < 0 then .returned (.tuple #[.int .i64 0, .bool false]) else .returned (.tuple #[.int .i64 b, .bool true])


theorem yr_of (Y M : Int) (h1 : 1 ≤ M) (h2 : M ≤ 12) : yr (12 * (Y - 2000) + M - 1) = Y ∧ mo (12 * (Y - 2000) + M - 1) = M := by unfold yr mo; omega
theorem tm_bd {Y M day h i : Int} (g : good Y M day h i) : 0 ≤ tm Y M day h i ∧ tm Y M day h i ≤ 60000000 := by
  obtain ⟨k1, k2, k3, k4, k5, k6, k7, k8, k9, k10, _⟩ := good_bd g
  have a := ys_bd Y k1 k2
  have b := cum_bd Y M
  unfold tm
  omega
theorem res_no {b : Int} (h : b < 0) : res2 b = .returned (.tuple #[.int .i64 0, .bool false]) := if_pos h
theorem res_yes {b : Int} (h : ¬ b < 0) : res2 b = .returned (.tuple #[.int .i64 b, .bool true]) := if_neg h
end Go.Proofs.YtjnkeeedoffdkaaDoor.Dates
