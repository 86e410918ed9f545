/- stepOk of the program. -/
import Derived.Test.YtjhoagbcfpbelaaFsA
import Derived.Test.YtjhoagbcfpbelaaCtJ
import Derived.Test.YtjhoagbcfpbelaaBk
import Derived.BigQuiet
import Derived.Deep.Cut
import Derived.Deep.QuietTactic
namespace Go.Proofs.Ytjhoagbcfpbelaa.Fs
open Go.ChangeShapes Go.WideShapes Go.ChangeAt Go.RowKit
theorem wat_all (L : List Int) : L.all (fun d => Ct.inn d 0 1000000000000) = wat L := by
  rw [Bool.eq_iff_iff, wat_iff, List.all_eq_true]
  constructor
  · intro h i hi
    have e : L.getD i 0 = L[i] := by simp [List.getD_eq_getElem?_getD, hi]
    have := h L[i] (List.getElem_mem hi)
    rw [e]
    simpa [Ct.inn] using this
  · intro h x hx
    obtain ⟨i, hi, rfl⟩ := List.getElem_of_mem hx
    have e : L.getD i 0 = L[i] := by simp [List.getD_eq_getElem?_getD, hi]
    have := h i hi
    rw [e] at this
    simpa [Ct.inn] using this

set_option maxHeartbeats 4000000 in
theorem stepOk_yes (na wa ra : Option Addr) (nn nc wn wc rn rc : Nat) (z1 z2 sW sR : Int) (p q1 q2 q3 q4 : Bool) (w : World)
    (CC : Calls Try.prog 24 #[.slice na nn nc] (w.alloc (.cells #[.slice wa wn wc, .int .i64 z1, .int .i64 z2] 26)) fun e w' => (∃ u, e = .returned (.tuple #[u, .bool p])) ∧ Below (w.alloc (.cells #[.slice wa wn wc, .int .i64 z1, .int .i64 z2] 26)).heap.size (w.alloc (.cells #[.slice wa wn wc, .int .i64 z1, .int .i64 z2] 26)) w')
    (A1o : Hid (∀ W, Below w.heap.size w W → Calls Try.prog 25 #[.slice wa wn wc, .int .i64 0, .int .i64 1000000000000] W fun e w' => e = .returned (.bool q1) ∧ w' = W))
    (A2o : Hid (∀ W, Below w.heap.size w W → Calls Try.prog 25 #[.slice ra rn rc, .int .i64 0, .int .i64 1000000000000] W fun e w' => e = .returned (.bool q2) ∧ w' = W))
    (I1o : Hid (∀ W, Below w.heap.size w W → Calls Try.prog 26 #[.int .i64 z1, .int .i64 0, .int .i64 1000000000000] W fun e w' => e = .returned (.bool q3) ∧ w' = W))
    (I2o : Hid (∀ W, Below w.heap.size w W → Calls Try.prog 26 #[.int .i64 z2, .int .i64 0, .int .i64 (1000000000000 - sR)] W fun e w' => e = .returned (.bool q4) ∧ w' = W))
    (T1o : Hid (q1 = true → ∀ W, Below w.heap.size w W → Calls Try.prog 18 #[.slice wa wn wc] W fun e w' => e = .returned (.int .i64 sW) ∧ w' = W))
    (T2o : Hid (q2 = true → ∀ W, Below w.heap.size w W → Calls Try.prog 18 #[.slice ra rn rc] W fun e w' => e = .returned (.int .i64 sR) ∧ w' = W))
    (E1 : Hid (q2 = true → IntKind.i64.wrap (1000000000000 - sR) = 1000000000000 - sR)) (E2 : Hid (q1 = true → q3 = true → IntKind.i64.wrap (sW + z1) = sW + z1))
    (hw : wn = nn) (hr : rn = nn) (hp : p = true) :
    Calls Try.prog 17 #[.slice na nn nc, .agg #[.slice wa wn wc, .int .i64 z1, .int .i64 z2], .slice ra rn rc] w fun e w' => e = .returned (.bool (q1 && (q2 && (q3 && (q4 && decide (sW + z1 = z2)))))) ∧ Below w.heap.size w w' := by
  have b0 : Below w.heap.size w (w.alloc (.cells #[.slice wa wn wc, .int .i64 z1, .int .i64 z2] 26)) := (Below.refl _ _).alloc (Nat.le_refl _) _
  have c0 : (w.alloc (.cells #[.slice wa wn wc, .int .i64 z1, .int .i64 z2] 26)).cell? ⟨w.heap.size, 0, none⟩ = some (.slice wa wn wc) := by simp [go_sem]
  have c1 : (w.alloc (.cells #[.slice wa wn wc, .int .i64 z1, .int .i64 z2] 26)).cell? ⟨w.heap.size, 1, none⟩ = some (.int .i64 z1) := by simp [go_sem]
  have c2 : (w.alloc (.cells #[.slice wa wn wc, .int .i64 z1, .int .i64 z2] 26)).cell? ⟨w.heap.size, 2, none⟩ = some (.int .i64 z2) := by simp [go_sem]
  have K : Hid (∀ w1, Below (w.alloc (.cells #[.slice wa wn wc, .int .i64 z1, .int .i64 z2] 26)).heap.size (w.alloc (.cells #[.slice wa wn wc, .int .i64 z1, .int .i64 z2] 26)) w1 → Below w.heap.size w w1 ∧ w1.cell? ⟨w.heap.size, 0, none⟩ = some (.slice wa wn wc) ∧ w1.cell? ⟨w.heap.size, 1, none⟩ = some (.int .i64 z1) ∧ w1.cell? ⟨w.heap.size, 2, none⟩ = some (.int .i64 z2)) := fun w1 hb => ⟨b0.trans (hb.mono b0.size), (hb.cell (p := ⟨w.heap.size, 0, none⟩) (by simp)).trans c0, (hb.cell (p := ⟨w.heap.size, 1, none⟩) (by simp)).trans c1, (hb.cell (p := ⟨w.heap.size, 2, none⟩) (by simp)).trans c2⟩
  clear b0 c0 c1 c2
  subst hp hw hr
  go_enter Try.func17, Try.ntmps17
  go_wp2_with fail
  refine CC.mono ?_
  rintro e w1 ⟨⟨u, rfl⟩, hb⟩
  obtain ⟨b1, k0, k1, k2⟩ := K.out w1 hb
  have BB : Hid (∀ n, Below w.heap.size w (w1.drewN n)) := fun n => Bk.below_drewN b1 n
  have A1 : Hid (∀ n, Calls Try.prog 25 #[.slice wa rn wc, .int .i64 0, .int .i64 1000000000000] (w1.drewN n) fun e w' => e = .returned (.bool q1) ∧ w' = w1.drewN n) := fun n => A1o.out _ (BB.out n)
  have A2 : Hid (∀ n, Calls Try.prog 25 #[.slice ra rn rc, .int .i64 0, .int .i64 1000000000000] (w1.drewN n) fun e w' => e = .returned (.bool q2) ∧ w' = w1.drewN n) := fun n => A2o.out _ (BB.out n)
  have I1 : Hid (∀ n, Calls Try.prog 26 #[.int .i64 z1, .int .i64 0, .int .i64 1000000000000] (w1.drewN n) fun e w' => e = .returned (.bool q3) ∧ w' = w1.drewN n) := fun n => I1o.out _ (BB.out n)
  have I2 : Hid (∀ n, Calls Try.prog 26 #[.int .i64 z2, .int .i64 0, .int .i64 (1000000000000 - sR)] (w1.drewN n) fun e w' => e = .returned (.bool q4) ∧ w' = w1.drewN n) := fun n => I2o.out _ (BB.out n)
  have T1 : Hid (q1 = true → ∀ n, Calls Try.prog 18 #[.slice wa rn wc] (w1.drewN n) fun e w' => e = .returned (.int .i64 sW) ∧ w' = w1.drewN n) := fun hq n => T1o.out hq _ (BB.out n)
  have T2 : Hid (q2 = true → ∀ n, Calls Try.prog 18 #[.slice ra rn rc] (w1.drewN n) fun e w' => e = .returned (.int .i64 sR) ∧ w' = w1.drewN n) := fun hq n => T2o.out hq _ (BB.out n)
  clear CC K hb b1 A1o A2o I1o I2o T1o T2o
  cases q1
  · clear T1 T2 E1 E2
    go_upto_region 4 with fail
    go_quiet (first
      | (go_at_call_of 25 (Value.slice wa rn wc); exact Calls.quiet_of_same (A1.out _)))
    go_wp2_with fail
    go_ret
    exact ⟨rfl, BB.out _⟩
  replace T1 : Hid (∀ n, Calls Try.prog 18 #[.slice wa rn wc] (w1.drewN n) fun e w' => e = .returned (.int .i64 sW) ∧ w' = w1.drewN n) := T1.out rfl
  cases q2
  · clear T2 E1 E2
    go_upto_region 4 with fail
    go_quiet (first
      | (go_at_call_of 25 (Value.slice wa rn wc); exact Calls.quiet_of_same (A1.out _))
      | (go_at_call_of 25 (Value.slice ra rn rc); exact Calls.quiet_of_same (A2.out _)))
    go_wp2_with fail
    go_ret
    exact ⟨rfl, BB.out _⟩
  replace T2 : Hid (∀ n, Calls Try.prog 18 #[.slice ra rn rc] (w1.drewN n) fun e w' => e = .returned (.int .i64 sR) ∧ w' = w1.drewN n) := T2.out rfl
  have e1 := E1.out rfl
  clear E1
  cases q3
  · clear E2
    go_upto_region 4 with fail
    go_quiet (first
      | (go_at_call_of 25 (Value.slice wa rn wc); exact Calls.quiet_of_same (A1.out _))
      | (go_at_call_of 25 (Value.slice ra rn rc); exact Calls.quiet_of_same (A2.out _))
      | (go_at_call_of 26 (Value.int IntKind.i64 z1); exact Calls.quiet_of_same (I1.out _)))
    go_wp2_with fail
    go_ret
    exact ⟨rfl, BB.out _⟩
  have e2 := E2.out rfl rfl
  clear E2
  cases q4
  · go_upto_region 4 with fail
    go_quiet (first
      | (go_at_call_of 25 (Value.slice wa rn wc); exact Calls.quiet_of_same (A1.out _))
      | (go_at_call_of 25 (Value.slice ra rn rc); exact Calls.quiet_of_same (A2.out _))
      | (go_at_call_of 26 (Value.int IntKind.i64 z1); exact Calls.quiet_of_same (I1.out _))
      | (go_at_call_of 18 (Value.slice ra rn rc); exact Calls.quiet_of_same (T2.out _))
      | (go_at_call_of 26 (Value.int IntKind.i64 z2); exact Calls.quiet_of_same (I2.out _)))
    go_wp2_with fail
    go_ret
    exact ⟨rfl, BB.out _⟩
  go_upto_region 4 with fail
  go_quiet (first
    | (go_at_call_of 25 (Value.slice wa rn wc); exact Calls.quiet_of_same (A1.out _))
    | (go_at_call_of 25 (Value.slice ra rn rc); exact Calls.quiet_of_same (A2.out _))
    | (go_at_call_of 26 (Value.int IntKind.i64 z1); exact Calls.quiet_of_same (I1.out _))
    | (go_at_call_of 18 (Value.slice ra rn rc); exact Calls.quiet_of_same (T2.out _))
    | (go_at_call_of 26 (Value.int IntKind.i64 z2); exact Calls.quiet_of_same (I2.out _))
    | (go_at_call_of 18 (Value.slice wa rn wc); exact Calls.quiet_of_same (T1.out _)))
  go_wp2_with fail
  go_ret
  exact ⟨rfl, BB.out _⟩

set_option maxHeartbeats 4000000 in
theorem stepOk_no (na wa ra : Option Addr) (nn nc wn wc rn rc : Nat) (z1 z2 : Int) (p : Bool) (w : World)
    (CC : Calls Try.prog 24 #[.slice na nn nc] (w.alloc (.cells #[.slice wa wn wc, .int .i64 z1, .int .i64 z2] 26)) fun e w' => (∃ u, e = .returned (.tuple #[u, .bool p])) ∧ Below (w.alloc (.cells #[.slice wa wn wc, .int .i64 z1, .int .i64 z2] 26)).heap.size (w.alloc (.cells #[.slice wa wn wc, .int .i64 z1, .int .i64 z2] 26)) w')
    (h : p = false ∨ wn ≠ nn ∨ rn ≠ nn) :
    Calls Try.prog 17 #[.slice na nn nc, .agg #[.slice wa wn wc, .int .i64 z1, .int .i64 z2], .slice ra rn rc] w fun e w' => e = .returned (.bool false) ∧ Below w.heap.size w w' := by
  have b0 : Below w.heap.size w (w.alloc (.cells #[.slice wa wn wc, .int .i64 z1, .int .i64 z2] 26)) := (Below.refl _ _).alloc (Nat.le_refl _) _
  have c0 : (w.alloc (.cells #[.slice wa wn wc, .int .i64 z1, .int .i64 z2] 26)).cell? ⟨w.heap.size, 0, none⟩ = some (.slice wa wn wc) := by simp [go_sem]
  have c1 : (w.alloc (.cells #[.slice wa wn wc, .int .i64 z1, .int .i64 z2] 26)).cell? ⟨w.heap.size, 1, none⟩ = some (.int .i64 z1) := by simp [go_sem]
  have c2 : (w.alloc (.cells #[.slice wa wn wc, .int .i64 z1, .int .i64 z2] 26)).cell? ⟨w.heap.size, 2, none⟩ = some (.int .i64 z2) := by simp [go_sem]
  have K : Hid (∀ w1, Below (w.alloc (.cells #[.slice wa wn wc, .int .i64 z1, .int .i64 z2] 26)).heap.size (w.alloc (.cells #[.slice wa wn wc, .int .i64 z1, .int .i64 z2] 26)) w1 → Below w.heap.size w w1 ∧ w1.cell? ⟨w.heap.size, 0, none⟩ = some (.slice wa wn wc) ∧ w1.cell? ⟨w.heap.size, 1, none⟩ = some (.int .i64 z1) ∧ w1.cell? ⟨w.heap.size, 2, none⟩ = some (.int .i64 z2)) := fun w1 hb => ⟨b0.trans (hb.mono b0.size), (hb.cell (p := ⟨w.heap.size, 0, none⟩) (by simp)).trans c0, (hb.cell (p := ⟨w.heap.size, 1, none⟩) (by simp)).trans c1, (hb.cell (p := ⟨w.heap.size, 2, none⟩) (by simp)).trans c2⟩
  clear b0 c0 c1 c2
  go_enter Try.func17, Try.ntmps17
  go_wp2_with fail
  refine CC.mono ?_
  rintro e w1 ⟨⟨u, rfl⟩, hb⟩
  obtain ⟨b1, k0, k1, k2⟩ := K.out w1 hb
  have BB : Hid (Below w.heap.size w w1) := b1
  clear CC K hb b1
  cases p
  · clear h
    go_wp2_with fail
    go_ret
    exact ⟨rfl, BB.out⟩
  · by_cases e1 : wn = nn
    · subst e1
      have e2 : ¬ (rn : Int) = (wn : Int) := (by
        rcases h with h | h | h
        · cases h
        · exact absurd rfl h
        · omega)
      clear h
      go_wp2_with fail
      go_ret
      exact ⟨rfl, BB.out⟩
    · have e2 : ¬ (wn : Int) = (nn : Int) := by omega
      clear h e1
      go_wp2_with fail
      go_ret
      exact ⟨rfl, BB.out⟩
end Go.Proofs.Ytjhoagbcfpbelaa.Fs
