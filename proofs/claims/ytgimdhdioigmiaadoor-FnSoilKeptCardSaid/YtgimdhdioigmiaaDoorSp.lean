/- Soils: rain, what seeps, whether one is right: the program and the model. -/
import Derived.Test.YtgimdhdioigmiaaDoorSo
namespace Go.Proofs.YtgimdhdioigmiaaDoor.So
open Go.ChangeShapes Go.WideShapes Go.ChangeAt Go.RowKit

def inn (a lo hi : Int) : Bool := decide (lo ≤ a) && decide (a ≤ hi)
theorem inn_iff (a lo hi : Int) : inn a lo hi = true ↔ lo ≤ a ∧ a ≤ hi := by simp [inn]
def dn (b c : Int) : Int := min (max 0 (b - 100) / 4) (1500 - c)
def ov (b : Int) : Int := max 0 (b - 400)


set_option maxHeartbeats 1000000 in
theorem s_in (n l h : Int) (w : World) : Calls Tryd.prog 14 #[.int .i64 n, .int .i64 l, .int .i64 h] w fun e w' => e = .returned (.bool (inn n l h)) ∧ w' = w := by
  unfold inn
  by_cases h1 : l ≤ n
  · have e1 : decide (l ≤ n) = true := by simpa using h1
    rw [e1]
    go_enter Tryd.func14, Tryd.ntmps14
    go_wp2_with fail
    go_ret
    exact ⟨rfl, rfl⟩
  · have e1 : decide (l ≤ n) = false := by simpa using h1
    rw [e1]
    go_enter Tryd.func14, Tryd.ntmps14
    go_wp2_with fail
    go_ret
    exact ⟨rfl, rfl⟩


set_option maxHeartbeats 1000000 in
theorem i_in (n l h : Int) (w : World) : Calls Tryd.prog 16 #[.int .i64 n, .int .i64 l, .int .i64 h] w fun e w' => e = .returned (.bool (inn n l h)) ∧ w' = w := by
  unfold inn
  by_cases h1 : l ≤ n
  · have e1 : decide (l ≤ n) = true := by simpa using h1
    rw [e1]
    go_enter Tryd.func16, Tryd.ntmps16
    go_wp2_with fail
    go_ret
    exact ⟨rfl, rfl⟩
  · have e1 : decide (l ≤ n) = false := by simpa using h1
    rw [e1]
    go_enter Tryd.func16, Tryd.ntmps16
    go_wp2_with fail
    go_ret
    exact ⟨rfl, rfl⟩


set_option maxHeartbeats 1000000 in
theorem rained_any (a b c d f t r : Int) (w : World) (h1 : 0 ≤ a ∧ a ≤ 2000000000000) (h2 : 0 ≤ b ∧ b ≤ 2000000000000) (h3 : 0 ≤ f ∧ f ≤ 2000000000000) (hr : 0 ≤ r ∧ r ≤ 5000) :
    Calls Tryd.prog 17 #[sv a b c d f, .int .i64 t, .int .i64 r] w fun e w' => e = .returned (sv (if t < 0 then a + r else a) (if t < 0 then b else b + r) c d (f + r)) ∧ Below w.heap.size w w' := by
  by_cases g : t < 0
  · rw [if_pos g, if_pos g]
    go_enter Tryd.func17, Tryd.ntmps17
    go_wp2_with fail
    refine bodyPost_ret (v := sv (a + r) b c d (f + r)) (by simp [results, Tryd.results17, go_sem]) rfl ⟨rfl, ?_⟩
    repeat' first | exact Below.refl _ _ | refine Below.setCell ?_ (by simp <;> omega) _ | refine Below.alloc ?_ (by simp <;> omega) _
  · rw [if_neg g, if_neg g]
    go_enter Tryd.func17, Tryd.ntmps17
    go_wp2_with fail
    refine bodyPost_ret (v := sv a (b + r) c d (f + r)) (by simp [results, Tryd.results17, go_sem]) rfl ⟨rfl, ?_⟩
    repeat' first | exact Below.refl _ _ | refine Below.setCell ?_ (by simp <;> omega) _ | refine Below.alloc ?_ (by simp <;> omega) _


set_option maxHeartbeats 1000000 in
theorem seeped_any (a b c d f : Int) (w : World) (h2 : 0 ≤ b ∧ b ≤ 2000000000000) (h3 : 0 ≤ c ∧ c ≤ 1500) (h4 : 0 ≤ d ∧ d ≤ 2000000000000) :
    Calls Tryd.prog 19 #[sv a b c d f] w fun e w' => e = .returned (sv a (b - dn b c - ov (b - dn b c)) (c + dn b c - (c + dn b c) / 50) (d + (ov (b - dn b c) + (c + dn b c) / 50)) f) ∧ Below w.heap.size w w' := by
  obtain ⟨x1, X1⟩ : ∃ x, b - dn b c - ov (b - dn b c) = x := ⟨_, rfl⟩
  obtain ⟨x2, X2⟩ : ∃ x, c + dn b c - (c + dn b c) / 50 = x := ⟨_, rfl⟩
  obtain ⟨x3, X3⟩ : ∃ x, d + (ov (b - dn b c) + (c + dn b c) / 50) = x := ⟨_, rfl⟩
  rw [X1, X2, X3]
  unfold dn ov at X1 X3
  unfold dn at X2
  have HX : Hid (b - min (max 0 (b - 100) / 4) (1500 - c) - max 0 (b - min (max 0 (b - 100) / 4) (1500 - c) - 400) = x1 ∧ c + min (max 0 (b - 100) / 4) (1500 - c) - (c + min (max 0 (b - 100) / 4) (1500 - c)) / 50 = x2 ∧ d + (max 0 (b - min (max 0 (b - 100) / 4) (1500 - c) - 400) + (c + min (max 0 (b - 100) / 4) (1500 - c)) / 50) = x3) := ⟨X1, X2, X3⟩
  clear X1 X2 X3

  by_cases g1 : 0 < b - 100
  · obtain ⟨q, hq⟩ : ∃ q, (b - 100) / 4 = q := ⟨_, rfl⟩
    have e1 : (b - 100).tdiv 4 = q := by rw [tdiv_pos (by omega)]; exact hq
    have e0 : max 0 (b - 100) = b - 100 := by omega
    have bq : 0 ≤ q ∧ 4 * q ≤ b - 100 := by omega
    have HX : Hid (b - min q (1500 - c) - max 0 (b - min q (1500 - c) - 400) = x1 ∧ c + min q (1500 - c) - (c + min q (1500 - c)) / 50 = x2 ∧ d + (max 0 (b - min q (1500 - c) - 400) + (c + min q (1500 - c)) / 50) = x3) := (by have h := HX.out; rw [e0, hq] at h; exact h)
    clear hq e0
    by_cases g2 : 1500 - c < q
    · have ed : min q (1500 - c) = 1500 - c := by omega
      have HX : Hid (b - (1500 - c) - max 0 (b - (1500 - c) - 400) = x1 ∧ c + (1500 - c) - (c + (1500 - c)) / 50 = x2 ∧ d + (max 0 (b - (1500 - c) - 400) + (c + (1500 - c)) / 50) = x3) := (by have h := HX.out; rw [ed] at h; exact h)
      clear ed
      have e2 : Int.tdiv 1500 50 = 30 := by decide
      have e3 : c + (1500 - c) = 1500 := by omega
      by_cases g3 : 0 < b - (1500 - c) - 400
      · skip
        go_enter Tryd.func19, Tryd.ntmps19
        go_wp2_with fail
        refine bodyPost_ret (v := sv a x1 x2 x3 f) (by have := HX.out; simp [results, Tryd.results19, go_sem]; omega) rfl ⟨rfl, ?_⟩
        repeat' first | exact Below.refl _ _ | refine Below.setCell ?_ (by simp <;> omega) _ | refine Below.alloc ?_ (by simp <;> omega) _
      · skip
        go_enter Tryd.func19, Tryd.ntmps19
        go_wp2_with fail
        refine bodyPost_ret (v := sv a x1 x2 x3 f) (by have := HX.out; simp [results, Tryd.results19, go_sem]; omega) rfl ⟨rfl, ?_⟩
        repeat' first | exact Below.refl _ _ | refine Below.setCell ?_ (by simp <;> omega) _ | refine Below.alloc ?_ (by simp <;> omega) _
    · have ed : min q (1500 - c) = q := by omega
      have HX : Hid (b - (q) - max 0 (b - (q) - 400) = x1 ∧ c + (q) - (c + (q)) / 50 = x2 ∧ d + (max 0 (b - (q) - 400) + (c + (q)) / 50) = x3) := (by have h := HX.out; rw [ed] at h; exact h)
      clear ed
      obtain ⟨k, hk⟩ : ∃ k, (c + q) / 50 = k := ⟨_, rfl⟩
      have e2 : (c + q).tdiv 50 = k := by rw [tdiv_pos (by omega)]; exact hk
      have bk : 0 ≤ k ∧ k ≤ 30 := by omega
      by_cases g3 : 0 < b - q - 400
      · skip
        go_enter Tryd.func19, Tryd.ntmps19
        go_wp2_with fail
        refine bodyPost_ret (v := sv a x1 x2 x3 f) (by have := HX.out; simp [results, Tryd.results19, go_sem]; omega) rfl ⟨rfl, ?_⟩
        repeat' first | exact Below.refl _ _ | refine Below.setCell ?_ (by simp <;> omega) _ | refine Below.alloc ?_ (by simp <;> omega) _
      · skip
        go_enter Tryd.func19, Tryd.ntmps19
        go_wp2_with fail
        refine bodyPost_ret (v := sv a x1 x2 x3 f) (by have := HX.out; simp [results, Tryd.results19, go_sem]; omega) rfl ⟨rfl, ?_⟩
        repeat' first | exact Below.refl _ _ | refine Below.setCell ?_ (by simp <;> omega) _ | refine Below.alloc ?_ (by simp <;> omega) _
  · have e0 : min (max 0 (b - 100) / 4) (1500 - c) = 0 := by omega
    have HX : Hid (b - max 0 (b - 400) = x1 ∧ c - c / 50 = x2 ∧ d + (max 0 (b - 400) + c / 50) = x3) := (by have h := HX.out; rw [e0, Int.sub_zero, Int.add_zero] at h; exact h)
    obtain ⟨k, hk⟩ : ∃ k, c / 50 = k := ⟨_, rfl⟩
    have e2 : c.tdiv 50 = k := by rw [tdiv_pos (by omega)]; exact hk
    have bk : 0 ≤ k ∧ k ≤ 30 := by omega
    have e4 : Int.tdiv 0 4 = 0 := by decide
    have g2 : ¬ 1500 - c < 0 := by omega
    have g3 : ¬ 0 < b - 400 := by omega
    go_enter Tryd.func19, Tryd.ntmps19
    go_wp2_with fail
    refine bodyPost_ret (v := sv a x1 x2 x3 f) (by have := HX.out; simp [results, Tryd.results19, go_sem]; omega) rfl ⟨rfl, ?_⟩
    repeat' first | exact Below.refl _ _ | refine Below.setCell ?_ (by simp <;> omega) _ | refine Below.alloc ?_ (by simp <;> omega) _
end Go.Proofs.YtgimdhdioigmiaaDoor.So