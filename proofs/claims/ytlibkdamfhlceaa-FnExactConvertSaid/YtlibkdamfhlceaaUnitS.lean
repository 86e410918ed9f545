/- The units, in the program and in its model. -/
import Derived.Test.YtlibkdamfhlceaaVapL
namespace Go.Proofs.Ytlibkdamfhlceaa.Flt
open Go.ChangeShapes Go.WideShapes Go.ChangeAt Go.RowKit
attribute [local go_sem] run_store_float

set_option maxHeartbeats 400000 in
theorem within_any (n l h : Int) (w : World) : Calls Try.prog 34 #[.int .i64 n, .int .i64 l, .int .i64 h] w fun e w' => e = .returned (.bool (decide (l ≤ n) && decide (n ≤ h))) ∧ w' = w := by
  cases h1 : decide (l ≤ n)
  · have i1 : ¬ l ≤ n := by simpa using h1
    go_enter Try.func34, Try.ntmps34
    go_wp2
    go_ret
    exact ⟨rfl, rfl⟩
  · have i1 : l ≤ n := by simpa using h1
    go_enter Try.func34, Try.ntmps34
    go_wp2
    go_ret
    exact ⟨rfl, rfl⟩

/-- What a unit's number tells: its kind (0: none), its offset, its factor. -/
def un (u : Int) : Int × Nat × Nat :=
  if u = 1 then (1, 0, 4607182418800017408) else
  if u = 2 then (1, 4643512921809643110, 4607182418800017408) else
  if u = 3 then (1, 4646794216350647583, 4603179219131243634) else
  if u = 4 then (2, 0, 4607182418800017408) else
  if u = 5 then (2, 0, 4602808923161882060) else
  if u = 6 then (2, 0, 4598675619503873138) else
  if u = 7 then (3, 0, 4607182418800017408) else
  if u = 8 then (3, 0, 4629962737541415384) else
  if u = 9 then (3, 0, 4608683126282248314) else
  if u = 10 then (4, 0, 4607182418800017408) else
  if u = 11 then (4, 0, 4599162408583596029) else
  if u = 12 then (4, 0, 4655859997584916480) else
  if u = 13 then (5, 0, 4607182418800017408) else
  if u = 14 then (5, 0, 4627842682090579558) else
  (0, 0, 0)

def isU (u : Int) : Bool := decide (1 ≤ u) && decide (u ≤ 14)
def agU (u : Int) : Value := .agg #[.int .i64 (un u).1, .float .f64 (un u).2.1, .float .f64 (un u).2.2]
theorem un_out (u : Int) (h : isU u = false) : un u = (0, 0, 0) := by
  have : ¬ (1 ≤ u ∧ u ≤ 14) := by unfold isU at h; simpa using h
  unfold un
  iterate 14 rw [if_neg (by omega)]
theorem u_cases (u : Int) (h : isU u = true) : u = 1 ∨ u = 2 ∨ u = 3 ∨ u = 4 ∨ u = 5 ∨ u = 6 ∨ u = 7 ∨ u = 8 ∨ u = 9 ∨ u = 10 ∨ u = 11 ∨ u = 12 ∨ u = 13 ∨ u = 14 := by
  have : 1 ≤ u ∧ u ≤ 14 := by unfold isU at h; simpa using h
  omega

set_option maxHeartbeats 4000000 in
theorem sunit (u : Int) (w : World) : Calls Try.prog 24 #[.int .i64 u] w fun e w' => e = .returned (agU u) ∧ Below w.heap.size w w' := by
  cases hu : isU u
  · have e := un_out u hu
    have : ¬ (1 ≤ u ∧ u ≤ 14) := by unfold isU at hu; simpa using hu
    unfold agU
    rw [e]
    have n1 : u ≠ 1 := by omega
    have n2 : u ≠ 2 := by omega
    have n3 : u ≠ 3 := by omega
    have n4 : u ≠ 4 := by omega
    have n5 : u ≠ 5 := by omega
    have n6 : u ≠ 6 := by omega
    have n7 : u ≠ 7 := by omega
    have n8 : u ≠ 8 := by omega
    have n9 : u ≠ 9 := by omega
    have n10 : u ≠ 10 := by omega
    have n11 : u ≠ 11 := by omega
    have n12 : u ≠ 12 := by omega
    have n13 : u ≠ 13 := by omega
    have n14 : u ≠ 14 := by omega
    clear this e hu
    go_enter Try.func24, Try.ntmps24
    go_wp2
    refine bodyPost_ret (v := .agg #[.int .i64 0, .float .f64 0, .float .f64 0]) (by simp [results, Try.results24, go_sem]) rfl ⟨rfl, ?_⟩
    exact (Below.refl _ _).alloc (Nat.le_refl _) _
  · rcases u_cases u hu with rfl | rfl | rfl | rfl | rfl | rfl | rfl | rfl | rfl | rfl | rfl | rfl | rfl | rfl
    · go_enter Try.func24, Try.ntmps24
      go_wp2
      refine bodyPost_ret (v := .agg #[.int .i64 1, .float .f64 0, .float .f64 4607182418800017408]) (by simp [results, Try.results24, go_sem]) rfl ⟨rfl, ?_⟩
      exact (Below.refl _ _).alloc (Nat.le_refl _) _
    · go_enter Try.func24, Try.ntmps24
      go_wp2
      refine bodyPost_ret (v := .agg #[.int .i64 1, .float .f64 4643512921809643110, .float .f64 4607182418800017408]) (by simp [results, Try.results24, go_sem]) rfl ⟨rfl, ?_⟩
      exact (Below.refl _ _).alloc (Nat.le_refl _) _
    · go_enter Try.func24, Try.ntmps24
      go_wp2
      refine bodyPost_ret (v := .agg #[.int .i64 1, .float .f64 4646794216350647583, .float .f64 4603179219131243634]) (by simp [results, Try.results24, go_sem]) rfl ⟨rfl, ?_⟩
      exact (Below.refl _ _).alloc (Nat.le_refl _) _
    · go_enter Try.func24, Try.ntmps24
      go_wp2
      refine bodyPost_ret (v := .agg #[.int .i64 2, .float .f64 0, .float .f64 4607182418800017408]) (by simp [results, Try.results24, go_sem]) rfl ⟨rfl, ?_⟩
      exact (Below.refl _ _).alloc (Nat.le_refl _) _
    · go_enter Try.func24, Try.ntmps24
      go_wp2
      refine bodyPost_ret (v := .agg #[.int .i64 2, .float .f64 0, .float .f64 4602808923161882060]) (by simp [results, Try.results24, go_sem]) rfl ⟨rfl, ?_⟩
      exact (Below.refl _ _).alloc (Nat.le_refl _) _
    · go_enter Try.func24, Try.ntmps24
      go_wp2
      refine bodyPost_ret (v := .agg #[.int .i64 2, .float .f64 0, .float .f64 4598675619503873138]) (by simp [results, Try.results24, go_sem]) rfl ⟨rfl, ?_⟩
      exact (Below.refl _ _).alloc (Nat.le_refl _) _
    · go_enter Try.func24, Try.ntmps24
      go_wp2
      refine bodyPost_ret (v := .agg #[.int .i64 3, .float .f64 0, .float .f64 4607182418800017408]) (by simp [results, Try.results24, go_sem]) rfl ⟨rfl, ?_⟩
      exact (Below.refl _ _).alloc (Nat.le_refl _) _
    · go_enter Try.func24, Try.ntmps24
      go_wp2
      refine bodyPost_ret (v := .agg #[.int .i64 3, .float .f64 0, .float .f64 4629962737541415384]) (by simp [results, Try.results24, go_sem]) rfl ⟨rfl, ?_⟩
      exact (Below.refl _ _).alloc (Nat.le_refl _) _
    · go_enter Try.func24, Try.ntmps24
      go_wp2
      refine bodyPost_ret (v := .agg #[.int .i64 3, .float .f64 0, .float .f64 4608683126282248314]) (by simp [results, Try.results24, go_sem]) rfl ⟨rfl, ?_⟩
      exact (Below.refl _ _).alloc (Nat.le_refl _) _
    · go_enter Try.func24, Try.ntmps24
      go_wp2
      refine bodyPost_ret (v := .agg #[.int .i64 4, .float .f64 0, .float .f64 4607182418800017408]) (by simp [results, Try.results24, go_sem]) rfl ⟨rfl, ?_⟩
      exact (Below.refl _ _).alloc (Nat.le_refl _) _
    · go_enter Try.func24, Try.ntmps24
      go_wp2
      refine bodyPost_ret (v := .agg #[.int .i64 4, .float .f64 0, .float .f64 4599162408583596029]) (by simp [results, Try.results24, go_sem]) rfl ⟨rfl, ?_⟩
      exact (Below.refl _ _).alloc (Nat.le_refl _) _
    · go_enter Try.func24, Try.ntmps24
      go_wp2
      refine bodyPost_ret (v := .agg #[.int .i64 4, .float .f64 0, .float .f64 4655859997584916480]) (by simp [results, Try.results24, go_sem]) rfl ⟨rfl, ?_⟩
      exact (Below.refl _ _).alloc (Nat.le_refl _) _
    · go_enter Try.func24, Try.ntmps24
      go_wp2
      refine bodyPost_ret (v := .agg #[.int .i64 5, .float .f64 0, .float .f64 4607182418800017408]) (by simp [results, Try.results24, go_sem]) rfl ⟨rfl, ?_⟩
      exact (Below.refl _ _).alloc (Nat.le_refl _) _
    · go_enter Try.func24, Try.ntmps24
      go_wp2
      refine bodyPost_ret (v := .agg #[.int .i64 5, .float .f64 0, .float .f64 4627842682090579558]) (by simp [results, Try.results24, go_sem]) rfl ⟨rfl, ?_⟩
      exact (Below.refl _ _).alloc (Nat.le_refl _) _
end Go.Proofs.Ytlibkdamfhlceaa.Flt
