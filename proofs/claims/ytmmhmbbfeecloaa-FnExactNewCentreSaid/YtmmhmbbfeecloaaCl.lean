/- Routes copied by append and by slices.Clone; lists that are nil. -/
import Derived.Test.YtmmhmbbfeecloaaRt
import Derived.Deep.AppendLies
namespace Go.Proofs.Ytmmhmbbfeecloaa.Rt
open Go.ChangeShapes Go.WideShapes Go.ChangeAt Go.RowKit
def cl (L : Ls) : List Value := (List.range (L.length * 2)).map (fun j => if j % 2 = 0 then .string (c0 L (j / 2)) else .int .i64 (c1 L (j / 2)))
theorem cl_len (L : Ls) : (cl L).length = L.length * 2 := by simp [cl]
theorem cl_at (L : Ls) (j : Nat) (h : j < L.length * 2) : (cl L)[j]? = some (if j % 2 = 0 then .string (c0 L (j / 2)) else .int .i64 (c1 L (j / 2))) := by
  simp [cl, h]
theorem cl_good (L : Ls) : Good (cl L) L L.length := by
  intro i hi
  refine ⟨?_, ?_⟩
  · rw [cl_at L _ (by omega), if_pos (by omega), show i * 2 / 2 = i by omega]
  · rw [cl_at L _ (by omega), if_neg (by omega), show (i * 2 + 1) / 2 = i by omega]
theorem cl_one (L : Ls) : ∀ u ∈ cl L, u.oneCell' = true := by
  intro u hu
  obtain ⟨j, _, rfl⟩ := List.mem_map.1 hu
  split <;> rfl
theorem news {w : World} {v : Value} {L : Ls} (h : Reads w v L) : (L = [] ∧ ∃ c, v = .slice none 0 c) ∨ ∃ ad cap, v = .slice (some ad) L.length cap ∧ ∀ w', Below w.heap.size w w' → ∀ j u, (cl L)[j]? = some u → w'.cell? (ad.add j) = some u := by
  rcases h with ⟨rfl, a, c, rfl⟩ | ⟨b, o, cap, rfl, h1, h2, h3, h4⟩
  · cases a with
    | none => exact .inl ⟨rfl, c, rfl⟩
    | some ad => exact .inr ⟨ad, c, rfl, fun w' _ j u hj => by simp [cl] at hj⟩
  · refine .inr ⟨⟨b, o, none⟩, cap, rfl, fun w' hb j u hj => ?_⟩
    have hj2 : j < L.length * 2 := by
      have := (List.getElem?_eq_some_iff.1 hj).1
      rw [cl_len] at this; exact this
    rw [cl_at L j hj2] at hj
    obtain ⟨q0, q1⟩ := (h4 (j / 2) (by omega)).below hb h3
    by_cases e : j % 2 = 0
    · rw [if_pos e] at hj
      rw [← hj, ← q0]
      have ej : o + j / 2 * 2 = o + j := by omega
      rw [ej]
      by_cases j0 : j = 0
      · subst j0; simp [Addr.add]
      · simp [Addr.add, j0]
    · rw [if_neg e] at hj
      rw [← hj, ← q1]
      have ej : o + j / 2 * 2 + 1 = o + j := by omega
      rw [ej]
      by_cases j0 : j = 0
      · subst j0; simp [Addr.add]
      · simp [Addr.add, j0]
theorem row_none (w : World) (base : Nat) : Row w base (.slice none 0 0) [] := ⟨[], ⟨rfl, Or.inl ⟨rfl, rfl⟩⟩, fun i hi => absurd hi (by simp)⟩
set_option maxRecDepth 20000 in
set_option maxHeartbeats 1000000 in
theorem clone_any (w : World) (v : Value) (L : Ls) (h : Reads w v L) (hl : L.length ≤ 1048576) :
    Calls Try.prog 18 #[v] w fun e w' => ∃ v', e = .returned v' ∧ Row w' w.heap.size v' L ∧ Below w.heap.size w w' := by
  obtain ⟨i0, hi, hz0, hz1, hz2⟩ := info_parts Try.infoE
  rcases news h with ⟨rfl, c, rfl⟩ | ⟨ad, cap, rfl, hn⟩
  · clear h
    have hnil : ∀ w, (binOp .eql 24 (.slice none 0 c) (.slice none 0 0)).run Try.prog w = .ok (.bool true) w := fun _ => by kernel_rfl
    go_enter Try.func18, Try.ntmps18
    go_wp2_with fail
    go_ret
    exact ⟨_, rfl, row_none _ _, Below.refl _ _⟩
  · have GC : Hid (Good (cl L) L L.length) := cl_good L
    have HN : Hid (∀ j u, (cl L)[j]? = some u → (w.alloc (.cells #[] 46)).cell? (ad.add j) = some u) := hn _ ((Below.refl _ _).alloc (Nat.le_refl _) _)
    have R0 : Hid ((w.alloc (.cells #[] 46)).ownsRow w.heap.size 46 2 (.slice (some ⟨w.heap.size, 0, none⟩) 0 0) 0 []) := World.ownsRow_lit (base := w.heap.size) (e := 46) (size := 2) w #[] 0 (by simp) (Nat.zero_le _) rfl
    have CL := cl_len L
    have C1 := cl_one L
    generalize cl L = X at *
    obtain ⟨n, hn2⟩ : ∃ n, n = L.length := ⟨_, rfl⟩
    rw [← hn2] at hl CL GC ⊢
    have HM : Hid (n = L.length) := hn2
    clear h hn hn2
    have hnil : ∀ w, (binOp .eql 24 (.slice (some ad) n cap) (.slice none 0 0)).run Try.prog w = .ok (.bool false) w := fun _ => by kernel_rfl
    go_enter Try.func18, Try.ntmps18
    go_wp2_with (at_builtin; refine wpList_append_own _ rfl _ _ 24 rfl w.heap.size 46 i0 (.agg #[.string ⟨#[]⟩, .int .i64 0]) 2 24 Try.underlying24 hi hz0 hz1 hz2 rfl (by decide) _ _ _ rfl R0.out ad n cap X rfl CL HN.out C1 (by unfold maxLen; omega) (by omega) (by simp) ?_)
    intro v' w3 hown hgrow _
    have B3 : Hid (Below w.heap.size w w3) := ((Below.refl _ _).alloc (Nat.le_refl _) _).grown hgrow (by simp) (fun b hb => by cases hb; exact Nat.le_refl _)
    have R3 : Hid (Row w3 w.heap.size v' L) := ⟨X, by rw [← HM.out]; simpa using hown, by rw [← HM.out]; exact GC.out⟩
    clear hown hgrow
    go_wp2_with fail
    go_ret
    exact ⟨_, rfl, R3.out, B3.out⟩
set_option maxHeartbeats 1000000 in
theorem eqB_nil (w : World) : Calls Try.prog 20 #[.slice none 0 0, .slice none 0 0] w fun e w' => e = .returned (.bool true) ∧ Below w.heap.size w w' := by
  go_enter Try.func20, Try.ntmps20
  go_wp2
  go_loop [5] (fun i => i = .int .i64 0) (fun _ => 0)
  case atStart => rfl
  case round =>
    subst hrel
    go_wp2
    go_ret
    exact ⟨rfl, Below.refl _ _⟩
set_option maxHeartbeats 1000000 in
theorem eqI_nil (w : World) : Calls Try.prog 45 #[.slice none 0 0, .slice none 0 0] w fun e w' => e = .returned (.bool true) ∧ w' = w := by
  go_enter Try.func45, Try.ntmps45
  go_wp2
  go_loop [5] (fun i => i = .int .i64 0) (fun _ => 0)
  case atStart => rfl
  case round =>
    subst hrel
    go_wp2
    go_ret
    exact ⟨rfl, rfl⟩
set_option maxHeartbeats 1000000 in
theorem markB_nil (w : World) (k : Int) : Calls Try.prog 24 #[.slice none 0 0, .int .i64 k] w fun e w' => e = .returned (.int .i64 k) ∧ w' = w := by
  go_enter Try.func24, Try.ntmps24
  go_wp2
  go_loop [1, 5] (fun q i => q = .int .i64 k ∧ i = .int .i64 0) (fun _ _ => 0)
  case atStart => exact ⟨rfl, rfl⟩
  case round =>
    obtain ⟨rfl, rfl⟩ := hrel
    go_wp2
    go_ret
    exact ⟨rfl, rfl⟩
set_option maxHeartbeats 1000000 in
theorem markI_nil (w : World) (k : Int) : Calls Try.prog 38 #[.slice none 0 0, .int .i64 k] w fun e w' => e = .returned (.int .i64 k) ∧ w' = w := by
  go_enter Try.func38, Try.ntmps38
  go_wp2
  go_loop [1, 5] (fun q i => q = .int .i64 k ∧ i = .int .i64 0) (fun _ _ => 0)
  case atStart => exact ⟨rfl, rfl⟩
  case round =>
    obtain ⟨rfl, rfl⟩ := hrel
    go_wp2
    go_ret
    exact ⟨rfl, rfl⟩
set_option maxHeartbeats 1000000 in
theorem heldB_nil (w : World) (k : Int) : Calls Try.prog 27 #[.slice none 0 0, .int .i64 k] w fun e w' => e = .returned (.int .i64 k) ∧ w' = w := by
  go_enter Try.func27, Try.ntmps27
  go_wp2
  go_loop [1, 5] (fun q i => q = .int .i64 k ∧ i = .int .i64 0) (fun _ _ => 0)
  case atStart => exact ⟨rfl, rfl⟩
  case round =>
    obtain ⟨rfl, rfl⟩ := hrel
    go_wp2
    go_ret
    exact ⟨rfl, rfl⟩
set_option maxHeartbeats 1000000 in
theorem heldI_nil (w : World) (k : Int) : Calls Try.prog 39 #[.slice none 0 0, .int .i64 k] w fun e w' => e = .returned (.int .i64 k) ∧ w' = w := by
  go_enter Try.func39, Try.ntmps39
  go_wp2
  go_loop [1, 5] (fun q i => q = .int .i64 k ∧ i = .int .i64 0) (fun _ _ => 0)
  case atStart => exact ⟨rfl, rfl⟩
  case round =>
    obtain ⟨rfl, rfl⟩ := hrel
    go_wp2
    go_ret
    exact ⟨rfl, rfl⟩
end Go.Proofs.Ytmmhmbbfeecloaa.Rt
