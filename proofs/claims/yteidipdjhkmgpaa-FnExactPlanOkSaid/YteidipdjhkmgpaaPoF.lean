/- The search by halves, and the element that it finds. -/
import Derived.Test.YteidipdjhkmgpaaPoE
namespace Go.Proofs.Yteidipdjhkmgpaa.Lists
open Go.ChangeShapes Go.WideShapes Go.ChangeAt Go.RowKit

set_option maxRecDepth 20000 in
set_option maxHeartbeats 1000000 in
theorem half_any (w : World) (v : Value) (T : El) (d : Int) (h : ReadsE w v T) (hok : ∀ i, i < T.length → eOk T i = true) (hmax : T.length ≤ 200) :
    Calls Try.prog 25 #[v, .int .i64 d, .func (.func 26) #[] #[]] w fun e w' => ∃ at_ : Nat, e = .returned (.tuple #[.int .i64 at_, .bool (has T d)]) ∧ (has T d = true → at_ < T.length) ∧ Below w.heap.size w w' := by
  obtain ⟨a, cap, rfl⟩ := h.form
  have HC : Hid (∀ i, i < T.length → ∃ b o, a = some ⟨b, o, none⟩ ∧ T.length ≤ cap ∧ cap ≤ maxLen ∧ b < w.heap.size ∧ C4 w b o T i) := h.at
  have RI : Hid (∀ j i, i < j → j < T.length → cO T i < cO T j) := rise hok
  obtain ⟨n, hn⟩ : ∃ n, n = T.length := ⟨_, rfl⟩
  have HN : Hid (n = T.length) := hn
  rw [← hn] at hmax ⊢
  obtain ⟨R, hR⟩ : ∃ r, r = has T d := ⟨_, rfl⟩
  have HR : Hid (R = has T d) := hR
  rw [← hR]
  clear h hn hR hok
  go_enter Try.func25, Try.ntmps25
  go_wp2_with fail
  go_loopw [9, 10, 11] (fun x y _ wr => ∃ i j : Nat, i ≤ j ∧ j ≤ n ∧ x = .int .i64 i ∧ y = .int .i64 j ∧ Hid (∀ k, k < i → cO T k < d) ∧ Hid (∀ k, j ≤ k → k < n → d ≤ cO T k) ∧ Hid (Below w.heap.size w wr)) (fun x y _ _ => (intOf y).toNat - (intOf x).toNat)
  case atStart => exact ⟨0, n, Nat.zero_le _, Nat.le_refl _, rfl, rfl, fun k hk => by omega, fun k h1 h2 => by omega, Below.refl _ _⟩
  case round =>
    obtain ⟨i, j, hij, hjn, rfl, rfl, LO, HI, BR⟩ := hrel
    by_cases hlt : i < j
    · have i1 : (i : Int) < (j : Int) := by omega
      obtain ⟨m, hm⟩ : ∃ m, m = (i + j) / 2 := ⟨_, rfl⟩
      have m1 : i ≤ m ∧ m < j := by omega
      have m2 : ((i : Int) + (j : Int)) / 2 = (m : Int) := by omega
      have m3 : IntKind.u64.wrap ((i : Int) + (j : Int)) = (i : Int) + (j : Int) := IntWalk.u64_in _ (by omega)
      obtain ⟨b, o, rfl, x1, x2, x3, x4⟩ := HC.out m (by rw [← HN.out]; omega)
      have x5 := x4.on BR.out x3
      unfold C4 at x5
      obtain ⟨q0, q1, q2, q3⟩ := x5
      have i2 : (0 : Int) ≤ (m : Int) := by omega
      have i3 : (m : Int) < (n : Int) := by omega
      unfold maxLen at x2
      rw [← HN.out] at x1
      obtain ⟨c, hcx⟩ : ∃ c, c = cO T m := ⟨_, rfl⟩
      have HCC : Hid (c = cO T m) := hcx
      rw [← hcx] at q0
      clear hcx x4 hm
      by_cases hcd : c < d
      · have e1 : cm c d = -1 := by unfold cm; rw [if_pos hcd]
        have HE : Hid (cm c d = -1) := e1
        clear e1
        go_wp2_with (go_at_call 26; refine (clo_any _ _ _ _ _ _).mono ?_; rintro e w3 ⟨rfl, hb3⟩; rw [HE.out])
        refine ⟨⟨m + 1, j, by omega, hjn, by go_num, rfl, fun k hk => ?_, HI, BR.out.trans (hb3.mono BR.out.size)⟩, by simp [intOf]; omega⟩
        by_cases e : k = m
        · subst e; rw [← HCC.out]; exact hcd
        · have := RI.out m k (by omega) (by rw [← HN.out]; omega)
          rw [← HCC.out] at this
          omega
      · obtain ⟨z, hz⟩ : ∃ z, cm c d = z := ⟨_, rfl⟩
        have z0 : ¬ (z < 0) := by rw [← hz]; unfold cm; rw [if_neg hcd]; split <;> omega
        have HE : Hid (cm c d = z) := hz
        clear hz
        go_wp2_with (go_at_call 26; refine (clo_any _ _ _ _ _ _).mono ?_; rintro e w3 ⟨rfl, hb3⟩; rw [HE.out])
        refine ⟨⟨i, m, by omega, by omega, rfl, rfl, LO, fun k h1 h2 => ?_, BR.out.trans (hb3.mono BR.out.size)⟩, by simp [intOf]; omega⟩
        by_cases e : k = m
        · subst e; rw [← HCC.out]; omega
        · have := RI.out k m (by omega) (by rw [← HN.out]; exact h2)
          rw [← HCC.out] at this
          omega
    · have hij' : j = i := by omega
      subst hij'
      have i1 : ¬ ((j : Int) < (j : Int)) := by omega
      by_cases hjn' : j < n
      · obtain ⟨b, o, rfl, x1, x2, x3, x4⟩ := HC.out j (by rw [← HN.out]; omega)
        have x5 := x4.on BR.out x3
        unfold C4 at x5
        obtain ⟨q0, q1, q2, q3⟩ := x5
        have i2 : (0 : Int) ≤ (j : Int) := by omega
        have i3 : (j : Int) < (n : Int) := by omega
        unfold maxLen at x2
        rw [← HN.out] at x1
        obtain ⟨c, hcx⟩ : ∃ c, c = cO T j := ⟨_, rfl⟩
        have HCC : Hid (c = cO T j) := hcx
        rw [← hcx] at q0
        clear hcx x4
        obtain ⟨z, hz⟩ : ∃ z, cm c d = z := ⟨_, rfl⟩
        have ZR : Hid ((z == 0) = R) := (by
          show _ = _
          rw [HR.out, ← hz]
          have dc := HI.out j (Nat.le_refl _) hjn'
          rw [← HCC.out] at dc
          by_cases e : c = d
          · rw [has_yes (by rw [← HN.out]; exact hjn') (by rw [← HCC.out]; exact e)]
            unfold cm
            rw [if_neg (by omega), if_neg (by omega)]
            rfl
          · rw [has_no]
            · unfold cm
              rw [if_neg (by omega), if_pos (by omega)]
              rfl
            · intro k hk e2
              rcases Nat.lt_trichotomy k j with h | h | h
              · have := LO.out k h; omega
              · subst h; rw [← HCC.out] at e2; exact e e2
              · have := RI.out k j h hk; rw [← HCC.out] at this; omega)
        have HE : Hid (cm c d = z) := hz
        clear hz
        go_wp2_with (go_at_call 26; refine (clo_any _ _ _ _ _ _).mono ?_; rintro e w3 ⟨rfl, hb3⟩; rw [HE.out])
        go_ret2
        exact ⟨j, congrArg (fun x => Ending.returned (Value.tuple #[Value.int .i64 (j : Int), Value.bool x])) ZR.out, fun _ => hjn', BR.out.trans (hb3.mono BR.out.size)⟩
      · have i3 : ¬ ((j : Int) < (n : Int)) := by omega
        have i3' : decide ((j : Int) < (n : Int)) = false := by simp; omega
        have RF : Hid (R = false) := (by show R = false; rw [HR.out]; exact has_no fun k hk e => by have := LO.out k (by rw [← HN.out] at hk; omega); omega)
        go_wp2_with fail
        go_ret2
        exact ⟨j, congrArg (fun x => Ending.returned (Value.tuple #[Value.int .i64 (j : Int), Value.bool x])) RF.out.symm, (fun h => by rw [RF.out] at h; cases h), BR.out⟩

set_option maxHeartbeats 1000000 in
theorem ilook_any (w : World) (v : Value) (T : El) (d : Int) (h : ReadsE w v T) (hok : ∀ i, i < T.length → eOk T i = true) (hmax : T.length ≤ 200) :
    Calls Try.prog 22 #[v, .int .i64 d] w fun e w' => (∃ c x s r, e = .returned (.tuple #[el c x s r, .bool (has T d)])) ∧ Below w.heap.size w w' := by
  have B0 : Hid (Below w.heap.size w (w.alloc (.cells #[.int .i64 0, .int .i64 0, .int .i64 0, .int .i64 0] 34))) := (Below.refl _ _).alloc (Nat.le_refl _) _
  have H0 := h.on B0.out
  have HH := half_any (w.alloc (.cells #[.int .i64 0, .int .i64 0, .int .i64 0, .int .i64 0] 34)) v T d H0 hok hmax
  obtain ⟨a, cap, rfl⟩ := h.form
  have H1 : Hid (ReadsE (w.alloc (.cells #[.int .i64 0, .int .i64 0, .int .i64 0, .int .i64 0] 34)) (.slice a T.length cap) T) := H0
  obtain ⟨R, hR⟩ : ∃ r, r = has T d := ⟨_, rfl⟩
  rw [← hR] at HH ⊢
  have HF : Hid (Calls Try.prog 25 #[.slice a T.length cap, .int .i64 d, .func (.func 26) #[] #[]] (w.alloc (.cells #[.int .i64 0, .int .i64 0, .int .i64 0, .int .i64 0] 34)) fun e w' => ∃ at_ : Nat, e = .returned (.tuple #[.int .i64 at_, .bool R]) ∧ (R = true → at_ < T.length) ∧ Below (w.alloc (.cells #[.int .i64 0, .int .i64 0, .int .i64 0, .int .i64 0] 34)).heap.size (w.alloc (.cells #[.int .i64 0, .int .i64 0, .int .i64 0, .int .i64 0] 34)) w') := HH
  clear h hR H0 HH hok
  go_enter Try.func22, Try.ntmps22
  go_wp2_with fail
  refine HF.out.mono ?_
  rintro e w1 ⟨k, rfl, hk, b1⟩
  have sz : (w.alloc (.cells #[.int .i64 0, .int .i64 0, .int .i64 0, .int .i64 0] 34)).heap.size = w.heap.size + 1 := by simp
  have R1 : Hid (ReadsE w1 (.slice a T.length cap) T) := H1.out.on b1
  rw [sz] at b1
  have B1 : Hid (Below w.heap.size w w1) := B0.out.trans (b1.mono (by omega))
  have f0 : ∀ i, i < 4 → w1.cell? ⟨w.heap.size, i, none⟩ = some (.int .i64 0) ∧ w1.frozen? ⟨w.heap.size, i, none⟩ = false := fun i hi => by
    rw [b1.cell (p := ⟨w.heap.size, i, none⟩) (by show w.heap.size < _; omega), b1.frozen (p := ⟨w.heap.size, i, none⟩) (by show w.heap.size < _; omega)]
    have : i = 0 ∨ i = 1 ∨ i = 2 ∨ i = 3 := by omega
    rcases this with h | h | h | h <;> subst h <;> simp [go_sem]
  obtain ⟨e0, z0⟩ := f0 0 (by omega)
  obtain ⟨e1, z1⟩ := f0 1 (by omega)
  obtain ⟨e2, z2⟩ := f0 2 (by omega)
  obtain ⟨e3, z3⟩ := f0 3 (by omega)
  clear f0 b1 HF H1
  cases R
  · go_wp2_with fail
    refine bodyPost_ret (v := .tuple #[el 0 0 0 0, .bool false]) (by simp [results, Try.results22, go_sem, e0, e1, e2, e3]) rfl ⟨⟨0, 0, 0, 0, rfl⟩, ?_⟩
    exact (((B1.out.setCell (Nat.le_refl _) _).setCell (Nat.le_refl _) _).setCell (Nat.le_refl _) _).setCell (Nat.le_refl _) _
  · have hk' := hk rfl
    obtain ⟨b, o, rfl, x1, x2, x3, x4⟩ := R1.out.at k hk'
    unfold C4 at x4
    obtain ⟨q0, q1, q2, q3⟩ := x4
    have i2 : (0 : Int) ≤ (k : Int) := by omega
    have i3 : (k : Int) < (T.length : Int) := by omega
    unfold maxLen at x2
    go_wp2_with fail
    refine bodyPost_ret (v := .tuple #[el (cO T k) (wO T k) (sO T k) (rO T k), .bool true]) (by simp [results, Try.results22, go_sem, e0, e1, e2, e3]) rfl ⟨⟨_, _, _, _, rfl⟩, ?_⟩
    exact (((B1.out.setCell (Nat.le_refl _) _).setCell (Nat.le_refl _) _).setCell (Nat.le_refl _) _).setCell (Nat.le_refl _) _
end Go.Proofs.Yteidipdjhkmgpaa.Lists
