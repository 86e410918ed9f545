/- Sum and Mean, the program's and the model's, over lists of floats. -/
import Derived.Test.YtplichonohoacaaAtF
namespace Go.Proofs.Ytplichonohoacaa.Smm
open Go.ChangeShapes Go.WideShapes Go.ChangeAt Go.RowKit
open Go.Proofs.Ytplichonohoacaa.Flt Go.Proofs.Ytplichonohoacaa.Fls

set_option maxHeartbeats 400000 in
theorem known_yes (x : Nat) (w : World) (h : rng x < 9218868437227405312) :
    Calls Try.prog 40 #[.float .f64 x] w fun e w' => e = .returned (.bool true) ∧ w' = w := by
  have hsub : ∀ w, (binOp .sub 37 (.float .f64 x) (.float .f64 x)).run Try.prog w = .ok (.float .f64 0) w := fun w => run_float_arith w .sub 37 .f64 x x 0 (sub_self x h)
  have ho : (FloatKind.f64.format.order 0 0 == some .eq) = true := by rfl
  go_enter Try.func40, Try.ntmps40
  go_wp2
  go_ret
  exact ⟨rfl, rfl⟩

set_option maxHeartbeats 400000 in
theorem known_no (x : Nat) (w : World) (h : 9218868437227405312 ≤ rng x) :
    Calls Try.prog 40 #[.float .f64 x] w fun e w' => e = .returned (.bool false) ∧ w' = w.drew := by
  obtain ⟨b, hb, _, hrun⟩ := run_nan Try.prog .sub 37 x x (Or.inr (Or.inl rfl)) (sub_self_none x h) w
  have ho : (FloatKind.f64.format.order b 0 == some .eq) = false := by
    have : FloatKind.f64.format.order b 0 = none := order_nan b 0 (Or.inl hb)
    rw [this]; rfl
  go_enter Try.func40, Try.ntmps40
  go_wp2
  go_ret
  exact ⟨rfl, rfl⟩

theorem run_bits (x : Nat) (w : World) : (callFunc 45 #[.float .f64 x]).run Try.prog w = .ok (.value (.int .u64 x)) w := by kernel_rfl

set_option maxHeartbeats 400000 in
theorem iknown (x : Nat) (w : World) (h : x < 18446744073709551616) :
    Calls Try.prog 42 #[.float .f64 x] w fun e w' => e = .returned (.bool (kn x)) ∧ w' = w := by
  have hb := run_bits x
  have hk := kn_bits x h
  go_enter Try.func42, Try.ntmps42
  go_wp2
  go_ret
  exact ⟨rfl, rfl⟩

def stp (p : Nat × Nat) (x : Nat) : Nat × Nat := if kn x then ((Ieee.double.add p.1 x).getD 0, p.2 + 1) else p
def sumOf (L : List Nat) : Nat × Nat := L.foldl stp (0, 0)
theorem sum_snoc (L : List Nat) (k : Nat) (h : k < L.length) : sumOf (L.take (k + 1)) = stp (sumOf (L.take k)) (L.getD k 0) := by
  unfold sumOf
  rw [List.take_succ_eq_append_getElem h, List.foldl_append]
  simp [List.getD_eq_getElem?_getD, List.getElem?_eq_getElem h]
theorem sum_ok (L : List Nat) : rng (sumOf L).1 ≤ 9218868437227405312 ∧ (sumOf L).2 ≤ L.length := by
  unfold sumOf
  suffices h : ∀ (L : List Nat) (p : Nat × Nat), rng p.1 ≤ 9218868437227405312 → rng (L.foldl stp p).1 ≤ 9218868437227405312 ∧ (L.foldl stp p).2 ≤ p.2 + L.length by
    have := h L (0, 0) (by decide)
    simpa using this
  intro L
  induction L with
  | nil => intro p h; exact ⟨h, by simp⟩
  | cons x r ih =>
    intro p h
    have hs : rng (stp p x).1 ≤ 9218868437227405312 ∧ (stp p x).2 ≤ p.2 + 1 := by
      unfold stp
      by_cases e : kn x = true
      · rw [if_pos e]
        obtain ⟨q, h1, h2, _⟩ := add_some p.1 x h (by unfold kn at e; simpa using e)
        rw [h1]
        exact ⟨h2, by simp⟩
      · rw [if_neg e]; exact ⟨h, by omega⟩
    have := ih (stp p x) hs.1
    rw [List.foldl_cons]
    refine ⟨this.1, ?_⟩
    simp
    omega

theorem add_run (p x : Nat) (hp : rng p ≤ 9218868437227405312) (hx : kn x = true) (w : World) : (binOp .add 37 (.float .f64 p) (.float .f64 x)).run Try.prog w = .ok (.float .f64 ((Ieee.double.add p x).getD 0)) w := by
  obtain ⟨q, h1, _⟩ := add_some p x hp (by unfold kn at hx; simpa using hx)
  rw [h1]
  exact run_float_arith w .add 37 .f64 p x q h1

abbrev two (s : Nat) (c : Int) : Ending := .returned (.tuple #[.float .f64 s, .int .i64 c])

set_option maxHeartbeats 1000000 in
theorem isum (w : World) (v : Value) (L : List Nat) (h : Reads w v L) (hw : ∀ x ∈ L, x < 18446744073709551616) (hl : L.length ≤ 4000) :
    Calls Try.prog 36 #[v] w fun e w' => e = two (sumOf L).1 (sumOf L).2 ∧ w' = w := by
  rcases h with ⟨rfl, a, cap, rfl⟩ | ⟨b, o, cap, rfl, h2, h3, h4, h5⟩
  · go_enter Try.func36, Try.ntmps36
    go_wp2
    go_loop [4, 5, 7, 13] (fun s c _ i => s = .float .f64 0 ∧ c = .int .i64 0 ∧ i = .int .i64 0) (fun _ _ _ _ => 0)
    case atStart => exact ⟨rfl, rfl, rfl⟩
    case round =>
      obtain ⟨rfl, rfl, rfl⟩ := hrel
      go_wp2
      go_ret2
      exact ⟨rfl, rfl⟩
  · have HC : Hid (∀ i, i < L.length → w.cell? ⟨b, o + i, none⟩ = some (.float .f64 (L.getD i 0))) := h5
    have HW : Hid (∀ i, i < L.length → L.getD i 0 < 18446744073709551616) := fun i hi => hw _ (by simp [List.getD_eq_getElem?_getD, List.getElem?_eq_getElem hi])
    obtain ⟨n, hn⟩ : ∃ n, n = L.length := ⟨_, rfl⟩
    rw [← hn] at h2 hl ⊢
    have HN : Hid (n = L.length) := hn
    unfold maxLen at h3
    clear h5 hw hn
    go_enter Try.func36, Try.ntmps36
    go_wp2
    go_loop [4, 5, 7, 13] (fun s c _ i => ∃ k : Nat, k ≤ n ∧ i = .int .i64 k ∧ s = .float .f64 (sumOf (L.take k)).1 ∧ c = .int .i64 (sumOf (L.take k)).2) (fun _ _ _ i => n - (intOf i).toNat)
    case atStart => exact ⟨0, Nat.zero_le _, rfl, rfl, rfl⟩
    case round =>
      obtain ⟨k, hk, rfl, rfl, rfl⟩ := hrel
      by_cases hlt : k < n
      · have hlt' : k < L.length := by rw [← HN.out]; exact hlt
        have q1 := HC.out k hlt'
        have qw := HW.out k hlt'
        have sn := sum_snoc L k hlt'
        have so := sum_ok (L.take k)
        have so2 : (sumOf (L.take k)).2 ≤ 4000 := by have := so.2; simp at this; omega
        have i0 : (0 : Int) ≤ (k : Int) := by omega
        have i1 : (k : Int) < (n : Int) := by omega
        generalize L.getD k 0 = x at *
        generalize sumOf (L.take k) = p at *
        have SN : Hid (sumOf (L.take (k + 1)) = stp p x) := sn
        clear sn
        by_cases hx : kn x = true
        · have ar := add_run p.1 x so.1 hx
          have e1 : stp p x = ((Ieee.double.add p.1 x).getD 0, p.2 + 1) := by unfold stp; rw [if_pos hx]
          have E1 : Hid (sumOf (L.take (k + 1)) = ((Ieee.double.add p.1 x).getD 0, p.2 + 1)) := SN.out.trans e1
          generalize (Ieee.double.add p.1 x).getD 0 = y at *
          clear so e1 SN
          go_wp2_with (go_at_call 42; refine (iknown _ _ qw).mono ?_; rintro e w' ⟨rfl, rfl⟩)
          go_round
          case rel => exact ⟨k + 1, by omega, by go_num, by rw [E1.out], by rw [E1.out]; go_num⟩
          case measure => simp [intOf]; omega
        · have hx' : kn x = false := by simpa using hx
          have e1 : stp p x = p := by unfold stp; rw [if_neg hx]
          have E1 : Hid (sumOf (L.take (k + 1)) = p) := SN.out.trans e1
          clear so e1 SN hx
          go_wp2_with (go_at_call 42; refine (iknown _ _ qw).mono ?_; rintro e w' ⟨rfl, rfl⟩)
          go_round
          case rel => exact ⟨k + 1, by omega, by go_num, by rw [E1.out], by rw [E1.out]⟩
          case measure => simp [intOf]; omega
      · have e : L.take k = L := List.take_of_length_le (by rw [← HN.out]; omega)
        rw [e]
        go_wp2
        go_ret2
        exact ⟨rfl, rfl⟩
set_option maxHeartbeats 1000000 in
theorem ssum (w : World) (v : Value) (L : List Nat) (h : Reads w v L) (hl : L.length ≤ 4000) :
    Calls Try.prog 31 #[v] w fun e w' => e = two (sumOf L).1 (sumOf L).2 ∧ ∃ m, w' = w.drewN m := by
  rcases h with ⟨rfl, a, cap, rfl⟩ | ⟨b, o, cap, rfl, h2, h3, h4, h5⟩
  · go_enter Try.func31, Try.ntmps31
    go_wp2
    go_loop [4, 5, 6] (fun s c i => s = .float .f64 0 ∧ c = .int .i64 0 ∧ i = .int .i64 0) (fun _ _ _ => 0)
    case atStart => exact ⟨rfl, rfl, rfl⟩
    case round =>
      obtain ⟨rfl, rfl, rfl⟩ := hrel
      go_wp2
      go_ret2
      exact ⟨rfl, 0, rfl⟩
  · have HC : Hid (∀ i, i < L.length → w.cell? ⟨b, o + i, none⟩ = some (.float .f64 (L.getD i 0))) := h5
    obtain ⟨n, hn⟩ : ∃ n, n = L.length := ⟨_, rfl⟩
    rw [← hn] at h2 hl ⊢
    have HN : Hid (n = L.length) := hn
    unfold maxLen at h3
    clear h5 hn
    go_enter Try.func31, Try.ntmps31
    go_wp2
    go_loopw [4, 5, 6] (fun s c i wr => ∃ k m : Nat, k ≤ n ∧ i = .int .i64 k ∧ s = .float .f64 (sumOf (L.take k)).1 ∧ c = .int .i64 (sumOf (L.take k)).2 ∧ wr = w.drewN m) (fun _ _ i _ => n - (intOf i).toNat)
    case atStart => exact ⟨0, 0, Nat.zero_le _, rfl, rfl, rfl, rfl⟩
    case round =>
      obtain ⟨k, m, hk, rfl, rfl, rfl, rfl⟩ := hrel
      by_cases hlt : k < n
      · have hlt' : k < L.length := by rw [← HN.out]; exact hlt
        have q1 := HC.out k hlt'
        have sn := sum_snoc L k hlt'
        have so := sum_ok (L.take k)
        have so2 : (sumOf (L.take k)).2 ≤ 4000 := by have := so.2; simp at this; omega
        have i0 : (0 : Int) ≤ (k : Int) := by omega
        have i1 : (k : Int) < (n : Int) := by omega
        generalize L.getD k 0 = x at *
        generalize sumOf (L.take k) = p at *
        have SN : Hid (sumOf (L.take (k + 1)) = stp p x) := sn
        clear sn
        by_cases hx : kn x = true
        · have ar := add_run p.1 x so.1 hx
          have hr : rng x < 9218868437227405312 := by unfold kn at hx; simpa using hx
          have HR : Hid (rng x < 9218868437227405312) := hr
          have e1 : stp p x = ((Ieee.double.add p.1 x).getD 0, p.2 + 1) := by unfold stp; rw [if_pos hx]
          have E1 : Hid (sumOf (L.take (k + 1)) = ((Ieee.double.add p.1 x).getD 0, p.2 + 1)) := SN.out.trans e1
          generalize (Ieee.double.add p.1 x).getD 0 = y at *
          clear so e1 SN hr hx
          go_wp2_with (go_at_call 40; refine (known_yes _ _ HR.out).mono ?_; rintro e w' ⟨rfl, hw'⟩; subst hw')
          go_roundw
          case rel => exact ⟨k + 1, m, by omega, by go_num, by rw [E1.out], by rw [E1.out]; go_num, rfl⟩
          case measure => simp [intOf]; omega
        · have hr : 9218868437227405312 ≤ rng x := by unfold kn at hx; simpa using hx
          have HR : Hid (9218868437227405312 ≤ rng x) := hr
          have e1 : stp p x = p := by unfold stp; rw [if_neg hx]
          have E1 : Hid (sumOf (L.take (k + 1)) = p) := SN.out.trans e1
          clear so e1 SN hx hr
          go_wp2_with (go_at_call 40; refine (known_no _ _ HR.out).mono ?_; rintro e w' ⟨rfl, hw'⟩; subst hw')
          go_roundw
          case rel => exact ⟨k + 1, m + 1, by omega, by go_num, by rw [E1.out], by rw [E1.out], rfl⟩
          case measure => simp [intOf]; omega
      · have e : L.take k = L := List.take_of_length_le (by rw [← HN.out]; omega)
        rw [e]
        go_wp2
        go_ret2
        exact ⟨rfl, m, rfl⟩

set_option maxHeartbeats 400000 in
theorem ssum_far (w : World) (v : Value) (L : List Nat) (h : Reads w v L) (hl : 4000 < L.length) :
    Calls Try.prog 31 #[v] w fun e w' => e = two 0 (-1) ∧ ∃ m, w' = w.drewN m := by
  obtain ⟨a, cap, rfl⟩ := h.form
  have i1 : (4000 : Int) < (L.length : Int) := by omega
  go_enter Try.func31, Try.ntmps31
  go_wp2
  go_ret2
  exact ⟨rfl, 0, rfl⟩
set_option maxHeartbeats 400000 in
theorem isum_far (w : World) (v : Value) (L : List Nat) (h : Reads w v L) (hl : 4000 < L.length) :
    Calls Try.prog 36 #[v] w fun e w' => e = two 0 (-1) ∧ w' = w := by
  obtain ⟨a, cap, rfl⟩ := h.form
  have i1 : (4000 : Int) < (L.length : Int) := by omega
  go_enter Try.func36, Try.ntmps36
  go_wp2
  go_ret2
  exact ⟨rfl, rfl⟩

/-- What the sum and the count of a list are told as, a list that is too long among them. -/
def res (L : List Nat) : Nat × Int := if L.length ≤ 4000 then ((sumOf L).1, ((sumOf L).2 : Int)) else (0, -1)
theorem ssum_all (w : World) (v : Value) (L : List Nat) (h : Reads w v L) : Calls Try.prog 31 #[v] w fun e w' => e = two (res L).1 (res L).2 ∧ ∃ m, w' = w.drewN m := by
  by_cases hl : L.length ≤ 4000
  · rw [show res L = ((sumOf L).1, ((sumOf L).2 : Int)) from if_pos hl]; exact ssum w v L h hl
  · rw [show res L = (0, -1) from if_neg hl]; exact ssum_far w v L h (by omega)
theorem isum_all (w : World) (v : Value) (L : List Nat) (h : Reads w v L) (hw : ∀ x ∈ L, x < 18446744073709551616) : Calls Try.prog 36 #[v] w fun e w' => e = two (res L).1 (res L).2 ∧ w' = w := by
  by_cases hl : L.length ≤ 4000
  · rw [show res L = ((sumOf L).1, ((sumOf L).2 : Int)) from if_pos hl]; exact isum w v L h hw hl
  · rw [show res L = (0, -1) from if_neg hl]; exact isum_far w v L h (by omega)

def Mn (L : List Nat) (b : Nat) : Prop := if 0 < (res L).2 then Ieee.double.div (res L).1 (floatOfInt .f64 (res L).2) = some b else cn b = qn
theorem div_run (L : List Nat) (h : 0 < (res L).2) : ∃ b, Ieee.double.div (res L).1 (floatOfInt .f64 (res L).2) = some b ∧ ∀ w, (binOp .quo 37 (.float .f64 (res L).1) (.float .f64 (floatOfInt .f64 (res L).2))).run Try.prog w = .ok (.float .f64 b) w := by
  by_cases hl : L.length ≤ 4000
  · have e : res L = ((sumOf L).1, ((sumOf L).2 : Int)) := if_pos hl
    rw [e] at h ⊢
    have so := sum_ok L
    have cp := count_pos (sumOf L).2 (by simp at h; omega) (by omega)
    obtain ⟨b, hb, _⟩ := div_some (sumOf L).1 (floatOfInt .f64 ((sumOf L).2 : Int)) so.1 cp.1 cp.2
    exact ⟨b, hb, fun w => run_float_arith w .quo 37 .f64 _ _ b hb⟩
  · have e : res L = (0, -1) := if_neg hl
    rw [e] at h
    simp at h

set_option maxHeartbeats 1000000 in
theorem smean (w : World) (v : Value) (L : List Nat) (h : Reads w v L) : Calls Try.prog 18 #[v] w fun e w' => ∃ b m, e = .returned (.float .f64 b) ∧ Mn L b ∧ w' = w.drewN m := by
  by_cases hc : 0 < (res L).2
  · obtain ⟨b, hb, hr⟩ := div_run L hc
    have MN : Hid (Mn L b) := (by show Mn L b; unfold Mn; rw [if_pos hc]; exact hb)
    have S : Hid (∀ w', w' = w → Calls Try.prog 31 #[v] w' fun e w' => e = two (res L).1 (res L).2 ∧ ∃ m, w' = w.drewN m) := fun w' e => by subst e; exact ssum_all _ v L h
    clear hb h
    generalize (res L).1 = s at *
    generalize (res L).2 = c at *
    go_enter Try.func18, Try.ntmps18
    go_wp2_with (go_at_call 31; refine (S.out _ rfl).mono ?_; rintro e w1 ⟨rfl, m, rfl⟩)
    go_ret
    exact ⟨b, m, rfl, MN.out, rfl⟩
  · have MN : Hid (∀ b, cn b = qn → Mn L b) := fun b hb => by unfold Mn; rw [if_neg hc]; exact hb
    have S : Hid (∀ w', w' = w → Calls Try.prog 31 #[v] w' fun e w' => e = two (res L).1 (res L).2 ∧ ∃ m, w' = w.drewN m) := fun w' e => by subst e; exact ssum_all _ v L h
    clear h
    generalize (res L).1 = s at *
    generalize (res L).2 = c at *
    go_enter Try.func18, Try.ntmps18
    go_wp2_with (first | (go_at_call 31; refine (S.out _ rfl).mono ?_; rintro e w1 ⟨rfl, m, rfl⟩) | (go_at_call 27; refine (none_any _).mono ?_; rintro e w2 ⟨b, rfl, hb, _, rfl⟩; have HB : Hid (cn b = qn) := hb; clear hb))
    go_ret
    exact ⟨b, m + 1, rfl, MN.out b HB.out, rfl⟩
set_option maxHeartbeats 1000000 in
theorem imean (w : World) (v : Value) (L : List Nat) (h : Reads w v L) (hw : ∀ x ∈ L, x < 18446744073709551616) : Calls Try.prog 24 #[v] w fun e w' => ∃ b, e = .returned (.float .f64 b) ∧ Mn L b ∧ w' = w := by
  by_cases hc : 0 < (res L).2
  · obtain ⟨b, hb, hr⟩ := div_run L hc
    have MN : Hid (Mn L b) := (by show Mn L b; unfold Mn; rw [if_pos hc]; exact hb)
    have S : Hid (∀ w', w' = w → Calls Try.prog 36 #[v] w' fun e w' => e = two (res L).1 (res L).2 ∧ w' = w) := fun w' e => by subst e; exact isum_all _ v L h hw
    clear hb h hw
    generalize (res L).1 = s at *
    generalize (res L).2 = c at *
    go_enter Try.func24, Try.ntmps24
    go_wp2_with (go_at_call 36; refine (S.out _ rfl).mono ?_; rintro e w1 ⟨rfl, hw1⟩; subst hw1)
    go_ret
    exact ⟨b, rfl, MN.out, rfl⟩
  · have MN : Hid (Mn L qn) := (by show Mn L _; unfold Mn; rw [if_neg hc]; decide +kernel)
    have S : Hid (∀ w', w' = w → Calls Try.prog 36 #[v] w' fun e w' => e = two (res L).1 (res L).2 ∧ w' = w) := fun w' e => by subst e; exact isum_all _ v L h hw
    clear h hw
    generalize (res L).1 = s at *
    generalize (res L).2 = c at *
    go_enter Try.func24, Try.ntmps24
    go_wp2_with (first | (go_at_call 36; refine (S.out _ rfl).mono ?_; rintro e w1 ⟨rfl, hw1⟩; subst hw1) | (go_at_call 23; refine (nan_any _).mono ?_; rintro e w2 ⟨rfl, hw2⟩; subst hw2))
    go_ret
    exact ⟨_, rfl, MN.out, rfl⟩

end Go.Proofs.Ytplichonohoacaa.Smm
