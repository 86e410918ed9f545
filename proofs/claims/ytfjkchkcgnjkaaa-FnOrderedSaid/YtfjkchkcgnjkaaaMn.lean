/- Which of two numbers is ahead, by the model; whether two are the same. -/
import Derived.Test.YtfjkchkcgnjkaaaCp
import Derived.WalkSpells
import Derived.WalkLawsBesides
import Derived.Below
namespace Go.Proofs.Ytfjkchkcgnjkaaa.Flt
open Go.ChangeShapes Go.WideShapes Go.ChangeAt Go.RowKit

theorem sgn_t {x : Nat} (h : sgn x = true) (hx : x < 18446744073709551616) : x = 9223372036854775808 + rng x := by
  unfold sgn at h; unfold rng
  simp at h; omega
theorem sgn_f {x : Nat} (h : sgn x = false) (hx : x < 18446744073709551616) : x = rng x := by
  unfold sgn at h; unfold rng
  simp at h; omega
theorem rng_le {x : Nat} (h : nan x = false) : rng x ≤ 9218868437227405312 := by unfold nan at h; simpa using h
theorem pl_nan {x : Nat} (h : nan x = true) : pl x = 18446744073709551615 := by unfold pl; rw [if_pos h]
theorem pl_t {x : Nat} (h : nan x = false) (s : sgn x = true) (hx : x < 18446744073709551616) : pl x + rng x = 9223372036854775807 := by
  have := sgn_t s hx
  have := rng_le h
  unfold pl; rw [if_neg (by simp [h]), if_pos s]; omega
theorem pl_f {x : Nat} (h : nan x = false) (s : sgn x = false) (hx : x < 18446744073709551616) : pl x = 9223372036854775808 + rng x := by
  have := sgn_f s hx
  have := rng_le h
  unfold pl; rw [if_neg (by simp [h]), if_neg (by simp [s])]; omega
theorem pl_le (x : Nat) (hx : x < 18446744073709551616) : pl x ≤ 18446744073709551615 := by
  cases h : nan x
  · cases s : sgn x
    · have := pl_f h s hx; have := rng_le h; omega
    · have := pl_t h s hx; omega
  · rw [pl_nan h]; omega
theorem pl_num {x : Nat} (h : nan x = false) (hx : x < 18446744073709551616) : pl x < 18446744073709551615 := by
  cases s : sgn x
  · have := pl_f h s hx; have := rng_le h; omega
  · have := pl_t h s hx; omega
theorem key_t {x : Nat} (s : sgn x = true) : key x = -(rng x : Int) := by unfold key; rw [s]; rfl
theorem key_f {x : Nat} (s : sgn x = false) : key x = (rng x : Int) := by unfold key; rw [s]; rfl
theorem pl_lt {a b : Nat} (ha : a < 18446744073709551616) (hb : b < 18446744073709551616) (na : nan a = false) (nb : nan b = false) :
    pl a < pl b ↔ (key a < key b ∨ key a = key b ∧ sgn a = true ∧ sgn b = false) := by
  cases sa : sgn a <;> cases sb : sgn b
  · have := pl_f na sa ha; have := pl_f nb sb hb; rw [key_f sa, key_f sb]; simp; omega
  · have := pl_f na sa ha; have := pl_t nb sb hb; rw [key_f sa, key_t sb]; simp; omega
  · have := pl_t na sa ha; have := pl_f nb sb hb; rw [key_t sa, key_f sb]; simp; omega
  · have := pl_t na sa ha; have := pl_t nb sb hb; rw [key_t sa, key_t sb]; simp; omega
theorem pl_inj {a b : Nat} (ha : a < 18446744073709551616) (hb : b < 18446744073709551616) (h : pl a = pl b) : cn a = cn b := by
  cases na : nan a <;> cases nb : nan b
  · have e : a = b := by
      cases sa : sgn a <;> cases sb : sgn b
      · have := pl_f na sa ha; have := pl_f nb sb hb; have := sgn_f sa ha; have := sgn_f sb hb; omega
      · have := pl_f na sa ha; have := pl_t nb sb hb; omega
      · have := pl_t na sa ha; have := pl_f nb sb hb; omega
      · have := pl_t na sa ha; have := pl_t nb sb hb; have := sgn_t sa ha; have := sgn_t sb hb; omega
    rw [e]
  · have := pl_num na ha; rw [pl_nan nb] at h; omega
  · have := pl_num nb hb; rw [pl_nan na] at h; omega
  · rw [cn_nan na, cn_nan nb]

set_option maxHeartbeats 400000 in
theorem minus_any (x : Nat) (w : World) (h : rng x ≤ 9218868437227405312) :
    Calls Try.prog 19 #[.float .f64 x] w fun e w' => e = .returned (.bool (sgn x)) ∧ w' = w := by
  have ho : ord x 0 = some (compare (key x) 0) := order_key x 0 h (by decide)
  by_cases hz : rng x = 0
  · have hk : key x = 0 := by unfold key; rw [hz]; cases sgn x <;> rfl
    have o1 : (ord x 0 == some .lt) = false := by rw [ho, hk]; rfl
    have o2 : (ord x 0 == some .eq) = true := by rw [ho, hk]; rfl
    have hq : ∀ w, (binOp .quo 31 (.float .f64 4607182418800017408) (.float .f64 x)).run Try.prog w = .ok (.float .f64 (if sgn x then 18442240474082181120 else 9218868437227405312)) w := fun w => run_float_arith w .quo 31 .f64 _ _ _ (div_zero x hz)
    have o3 : (ord (if sgn x then 18442240474082181120 else 9218868437227405312) 0 == some .lt) = sgn x := by
      have := order_key (if sgn x then 18442240474082181120 else 9218868437227405312) 0 (by rw [(sgn_inf (sgn x)).2]; omega) (by decide)
      show (Ieee.double.order _ _ == _) = _
      rw [this, (sgn_inf (sgn x)).1]
      cases sgn x <;> rfl
    generalize (if sgn x then 18442240474082181120 else 9218868437227405312) = y at *
    generalize sgn x = s at *
    clear hk ho
    cases s
    · go_enter Try.func19, Try.ntmps19
      go_wp2
      go_ret
      exact ⟨rfl, rfl⟩
    · go_enter Try.func19, Try.ntmps19
      go_wp2
      go_ret
      exact ⟨rfl, rfl⟩
  · cases hs : sgn x
    · have hk : 0 < key x := by unfold key; rw [hs]; simp [sg]; omega
      have o1 : (ord x 0 == some .lt) = false := by rw [ho, c_gt hk]; rfl
      have o2 : (ord x 0 == some .eq) = false := by rw [ho, c_gt hk]; rfl
      clear ho hk hs
      go_enter Try.func19, Try.ntmps19
      go_wp2
      go_ret
      exact ⟨rfl, rfl⟩
    · have hk : key x < 0 := by unfold key; rw [hs]; simp [sg]; omega
      have o1 : (ord x 0 == some .lt) = true := by rw [ho, c_lt hk]; rfl
      clear ho hk hs
      go_enter Try.func19, Try.ntmps19
      go_wp2
      go_ret
      exact ⟨rfl, rfl⟩
theorem sgn_key {a b : Nat} (ha : a < 18446744073709551616) (hb : b < 18446744073709551616) : (key a = key b ∧ sgn a = sgn b) ↔ a = b := by
  constructor
  · intro ⟨h1, h2⟩
    cases sb : sgn b
    · rw [sb] at h2; rw [key_f h2, key_f sb] at h1; have := sgn_f h2 ha; have := sgn_f sb hb; omega
    · rw [sb] at h2; rw [key_t h2, key_t sb] at h1; have := sgn_t h2 ha; have := sgn_t sb hb; omega
  · rintro rfl; exact ⟨rfl, rfl⟩

set_option maxHeartbeats 1000000 in
theorem ahead_any (a b : Nat) (w : World) (ha : a < 18446744073709551616) (hb : b < 18446744073709551616) :
    Calls Try.prog 28 #[.float .f64 a, .float .f64 b] w fun e w' => e = .returned (.bool (decide (pl a < pl b))) ∧ w' = w := by
  have n1 := self_ne a
  have n2 := self_ne b
  have q1 : (ord a a == some .eq) = !(nan a) := by rw [← n1]; unfold bne; rw [Bool.not_not]
  cases ea : nan a
  · have pa := pl_num ea ha
    rw [ea] at n1 q1
    cases eb : nan b
    · have ra := rng_le ea
      have rb := rng_le eb
      have ho : ord a b = some (compare (key a) (key b)) := order_key a b ra rb
      rw [eb] at n2
      have HP := pl_lt ha hb ea eb
      by_cases h1 : key a < key b
      · have o1 : (ord a b == some .lt) = true := by rw [ho, c_lt h1]; rfl
        have hm : decide (pl a < pl b) = true := decide_eq_true (HP.2 (Or.inl h1))
        rw [hm]
        clear ho ea eb ra rb hm HP pa h1
        go_enter Try.func28, Try.ntmps28
        go_wp2
        go_ret
        exact ⟨rfl, rfl⟩
      · by_cases h2 : key a = key b
        · have o1 : (ord a b == some .lt) = false := by rw [ho, c_eq h2]; rfl
          have o2 : (ord a b == some .eq) = true := by rw [ho, c_eq h2]; rfl
          have M1 : Hid (rng a ≤ 9218868437227405312) := ra
          have M2 : Hid (rng b ≤ 9218868437227405312) := rb
          have hm : decide (pl a < pl b) = (sgn a && !(sgn b)) := by
            rw [Bool.eq_iff_iff, decide_eq_true_eq, HP]
            simp [h2]
          rw [hm]
          clear ho ea eb ra rb hm HP pa h1 h2
          cases sa : sgn a
          · go_enter Try.func28, Try.ntmps28
            go_wp2_with fail
            refine (minus_any _ _ M1.out).mono ?_
            rintro e w' ⟨rfl, rfl⟩
            rw [sa]
            go_wp2_with fail
            go_ret
            exact ⟨rfl, rfl⟩
          · cases sb : sgn b
            · go_enter Try.func28, Try.ntmps28
              go_wp2_with fail
              refine (minus_any _ _ M1.out).mono ?_
              rintro e w' ⟨rfl, rfl⟩
              rw [sa]
              go_wp2_with fail
              refine (minus_any _ _ M2.out).mono ?_
              rintro e w' ⟨rfl, rfl⟩
              rw [sb]
              go_wp2_with fail
              go_ret
              exact ⟨rfl, rfl⟩
            · go_enter Try.func28, Try.ntmps28
              go_wp2_with fail
              refine (minus_any _ _ M1.out).mono ?_
              rintro e w' ⟨rfl, rfl⟩
              rw [sa]
              go_wp2_with fail
              refine (minus_any _ _ M2.out).mono ?_
              rintro e w' ⟨rfl, rfl⟩
              rw [sb]
              go_wp2_with fail
              go_ret
              exact ⟨rfl, rfl⟩
        · have h3 : key b < key a := by omega
          have o1 : (ord a b == some .lt) = false := by rw [ho, c_gt h3]; rfl
          have o2 : (ord a b == some .eq) = false := by rw [ho, c_gt h3]; rfl
          have hm : decide (pl a < pl b) = false := decide_eq_false (by rw [HP]; omega)
          rw [hm]
          clear ho ea eb ra rb hm HP pa h1 h2 h3
          go_enter Try.func28, Try.ntmps28
          go_wp2
          go_ret
          exact ⟨rfl, rfl⟩
    · rw [eb] at n2
      have hm : decide (pl a < pl b) = true := decide_eq_true (by rw [pl_nan eb]; exact pa)
      rw [hm]
      clear hm pa ea eb
      go_enter Try.func28, Try.ntmps28
      go_wp2
      go_ret
      exact ⟨rfl, rfl⟩
  · rw [ea] at n1 q1
    have hm : decide (pl a < pl b) = false := decide_eq_false (by have := pl_le b hb; rw [pl_nan ea]; omega)
    rw [hm]
    clear hm ea
    go_enter Try.func28, Try.ntmps28
    go_wp2
    go_ret
    exact ⟨rfl, rfl⟩

set_option maxHeartbeats 1000000 in
theorem same_any (a b : Nat) (w : World) (ha : a < 18446744073709551616) (hb : b < 18446744073709551616) :
    Calls Try.prog 13 #[.float .f64 a, .float .f64 b] w fun e w' => e = .returned (.bool (sameB a b)) ∧ w' = w := by
  have n1 := self_ne a
  have n2 := self_ne b
  cases ea : nan a
  · cases eb : nan b
    · have ra := rng_le ea
      have rb := rng_le eb
      have ho : ord a b = some (compare (key a) (key b)) := order_key a b ra rb
      rw [ea] at n1
      rw [eb] at n2
      have hs : sameB a b = decide (a = b) := by unfold sameB; rw [ea, eb]; rfl
      by_cases hk : key a = key b
      · have o1 : (ord a b == some .eq) = true := by rw [ho, c_eq hk]; rfl
        have hm : (sgn a == sgn b) = sameB a b := by
          rw [hs, Bool.eq_iff_iff]
          simp only [beq_iff_eq, decide_eq_true_eq]
          exact ⟨fun x => (sgn_key ha hb).1 ⟨hk, x⟩, fun x => by rw [x]⟩
        have M1 : Hid (rng a ≤ 9218868437227405312) := ra
        have M2 : Hid (rng b ≤ 9218868437227405312) := rb
        clear ho hk hs ea eb ra rb
        rw [← hm]
        clear hm
        go_enter Try.func13, Try.ntmps13
        go_wp2_with fail
        refine (minus_any _ _ M1.out).mono ?_
        rintro e w' ⟨rfl, rfl⟩
        go_wp2_with fail
        refine (minus_any _ _ M2.out).mono ?_
        rintro e w' ⟨rfl, rfl⟩
        go_wp2_with fail
        go_ret
        exact ⟨rfl, rfl⟩
      · have o1 : (ord a b == some .eq) = false := by
          rw [ho]
          by_cases x : key a < key b
          · rw [c_lt x]; rfl
          · rw [c_gt (by omega)]; rfl
        have hm : sameB a b = false := by
          rw [hs]
          exact decide_eq_false (fun x => hk (by rw [x]))
        rw [hm]
        clear ho hk hs ea eb ra rb hm
        go_enter Try.func13, Try.ntmps13
        go_wp2
        go_ret
        exact ⟨rfl, rfl⟩
    · have hs : sameB a b = false := by unfold sameB; rw [ea, eb]; rfl
      rw [ea] at n1
      rw [eb] at n2
      rw [hs]
      clear hs ea eb
      go_enter Try.func13, Try.ntmps13
      go_wp2
      go_ret
      exact ⟨rfl, rfl⟩
  · have hs : sameB a b = nan b := by unfold sameB; rw [ea]; cases nan b <;> rfl
    rw [ea] at n1
    rw [hs]
    clear hs ea
    cases eb : nan b
    · rw [eb] at n2
      clear eb
      go_enter Try.func13, Try.ntmps13
      go_wp2
      go_ret
      exact ⟨rfl, rfl⟩
    · rw [eb] at n2
      clear eb
      go_enter Try.func13, Try.ntmps13
      go_wp2
      go_ret
      exact ⟨rfl, rfl⟩
end Go.Proofs.Ytfjkchkcgnjkaaa.Flt
