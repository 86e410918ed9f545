/- Lists of floats: held against their marks. -/
import Derived.Test.YtplichonohoacaaFlM
namespace Go.Proofs.Ytplichonohoacaa.Fls
open Go.ChangeShapes Go.WideShapes Go.ChangeAt Go.RowKit Go.Deep
open Go.Proofs.Ytplichonohoacaa.Flt
set_option maxHeartbeats 1000000 in
theorem held_any (w : World) (v : Value) (n : Nat) (hn : n ≤ 5000) (h : Reads w v (sq 1 n)) :
    Calls Try.prog 11 #[v, .int .i64 1] w fun e w' => e = .returned (.int .i64 (1 + (n : Int))) ∧ w' = w := by
  by_cases h0 : n = 0
  · subst h0
    obtain ⟨a, cap, rfl⟩ := h.form
    rw [sq_len]
    clear h
    go_enter Try.func11, Try.ntmps11
    go_wp2
    go_loop [1, 5] (fun k i => k = .int .i64 1 ∧ i = .int .i64 0) (fun _ _ => 0)
    case atStart => exact ⟨rfl, rfl⟩
    case round =>
      obtain ⟨rfl, rfl⟩ := hrel
      go_wp2
      go_ret
      exact ⟨rfl, rfl⟩
  · rcases h with ⟨e, _⟩ | ⟨b, o, cap, rfl, h1, h2, h3, h4⟩
    · have := congrArg List.length e
      rw [sq_len] at this
      simp at this
      omega
    rw [sq_len] at h1 h4 ⊢
    have K : Hid (∀ i, i < n → w.cell? ⟨b, o + i, none⟩ = some (.float .f64 (floatOfInt .f64 (1 + (i : Int))))) := fun i hi => by
      have := h4 i hi
      rw [sq_get 1 n i hi] at this
      exact this
    clear h1 h2 h4 h0
    go_enter Try.func11, Try.ntmps11
    go_wp2_with fail
    go_loop [1, 5] (fun k i => ∃ j : Nat, j ≤ n ∧ k = .int .i64 (1 + (j : Int)) ∧ i = .int .i64 j) (fun _ i => n - (intOf i).toNat)
    case atStart => exact ⟨0, Nat.zero_le _, by simp, rfl⟩
    case round =>
      obtain ⟨j, hj, rfl, rfl⟩ := hrel
      by_cases hlt : j < n
      · have i0 : (0 : Int) ≤ (j : Int) := by omega
        have i1 : (j : Int) < (n : Int) := by omega
        have q := K.out j hlt
        have fs := Pr.fi_self (1 + (j : Int)) (by omega)
        unfold ord at fs
        have j1 : IntKind.i64.wrap (1 + (j : Int) + 1) = 1 + (j : Int) + 1 := IntWalk.i64_in _ (by omega)
        go_wp2_with fail
        go_round
        case rel => exact ⟨j + 1, by omega, by go_num, by go_num⟩
        case measure => simp [intOf]; omega
      · have hjn : j = n := by omega
        subst hjn
        go_wp2_with fail
        go_ret
        exact ⟨rfl, rfl⟩
end Go.Proofs.Ytplichonohoacaa.Fls
