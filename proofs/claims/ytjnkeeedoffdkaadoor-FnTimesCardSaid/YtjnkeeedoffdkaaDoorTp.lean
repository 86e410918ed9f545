/- Times and their stamps, plain: which is later; what is near. -/
import Derived.Test.YtjnkeeedoffdkaaDoorStampS
import Derived.Test.YtjnkeeedoffdkaaDoorNear
import Derived.Sort.Walk0
namespace Go.Proofs.YtjnkeeedoffdkaaDoor.Tp
open Dates Dec
theorem bl_app : ∀ (a a' b b' : List UInt8), a.length = a'.length → Op.bytesLess (a ++ b) (a' ++ b') = if a = a' then Op.bytesLess b b' else Op.bytesLess a a'
  | [], [], b, b', _ => by simp
  | x :: a, y :: a', b, b', h => by
    have ih := bl_app a a' b b' (by simpa using h)
    simp only [List.cons_append, Op.bytesLess, ih]
    by_cases e : x = y
    · subst e
      by_cases e2 : a = a'
      · subst e2
        simp
      · simp [e2]
    · have e' : (x == y) = false := by simpa using e
      simp [e, e']
  | [], _ :: _, _, _, h => by simp at h
  | _ :: _, [], _, _, h => by simp at h
theorem p2_all : ∀ n n' : Fin 100, (p2 n.val = p2 n'.val ↔ n.val = n'.val) ∧ Op.bytesLess (p2 n.val) (p2 n'.val) = decide (n.val < n'.val) ∧ (p2 n.val).length = 2 := by decide +kernel
theorem p2_eq (n n' : Nat) (h : n < 100) (h' : n' < 100) : p2 n = p2 n' ↔ n = n' := (p2_all ⟨n, h⟩ ⟨n', h'⟩).1
theorem p2_lt (n n' : Nat) (h : n < 100) (h' : n' < 100) : Op.bytesLess (p2 n) (p2 n') = decide (n < n') := (p2_all ⟨n, h⟩ ⟨n', h'⟩).2.1
theorem p2_len (n : Nat) (h : n < 100) : (p2 n).length = 2 := (p2_all ⟨n, h⟩ ⟨n, h⟩).2.2
theorem p4_all : ∀ n n' : Fin 101, (p4 (2000 + n.val) = p4 (2000 + n'.val) ↔ n.val = n'.val) ∧ Op.bytesLess (p4 (2000 + n.val)) (p4 (2000 + n'.val)) = decide (n.val < n'.val) ∧ (p4 (2000 + n.val)).length = 4 := by decide +kernel
theorem p4_eq (n n' : Nat) (h0 : 2000 ≤ n) (h : n ≤ 2100) (h0' : 2000 ≤ n') (h' : n' ≤ 2100) : p4 n = p4 n' ↔ n = n' := by
  have := (p4_all ⟨n - 2000, by omega⟩ ⟨n' - 2000, by omega⟩).1
  simp only [show 2000 + (n - 2000) = n by omega, show 2000 + (n' - 2000) = n' by omega] at this
  rw [this]; omega
theorem p4_lt (n n' : Nat) (h0 : 2000 ≤ n) (h : n ≤ 2100) (h0' : 2000 ≤ n') (h' : n' ≤ 2100) : Op.bytesLess (p4 n) (p4 n') = decide (n < n') := by
  have := (p4_all ⟨n - 2000, by omega⟩ ⟨n' - 2000, by omega⟩).2.1
  simp only [show 2000 + (n - 2000) = n by omega, show 2000 + (n' - 2000) = n' by omega] at this
  rw [this, Bool.eq_iff_iff, decide_eq_true_eq, decide_eq_true_eq]; omega
theorem p4_len (n : Nat) (h0 : 2000 ≤ n) (h : n ≤ 2100) : (p4 n).length = 4 := by
  have := (p4_all ⟨n - 2000, by omega⟩ ⟨n - 2000, by omega⟩).2.2
  simpa only [show 2000 + (n - 2000) = n by omega] using this
/-- a right date, its parts as natural numbers -/
structure Dt (Y M D h m : Nat) : Prop where
  y : 2000 ≤ Y ∧ Y ≤ 2100
  mo : 1 ≤ M ∧ M ≤ 12
  d : 1 ≤ D ∧ (D : Int) ≤ dim Y M
  h : h ≤ 23
  mi : m ≤ 59
theorem stamp_less {Y M D h m Y' M' D' h' m' : Nat} (a : Dt Y M D h m) (b : Dt Y' M' D' h' m') :
    Op.bytesLess (stampOf Y M D h m) (stampOf Y' M' D' h' m') = if Y = Y' then (if M = M' then (if D = D' then (if h = h' then decide (m < m') else decide (h < h')) else decide (D < D')) else decide (M < M')) else decide (Y < Y') := by
  have da := a.d
  have db := b.d
  have d1 := dim_bd Y M
  have d2 := dim_bd Y' M'
  have h1 := a.mo
  have h2 := b.mo
  have g1 := a.h
  have g2 := b.h
  have i1 := a.mi
  have i2 := b.mi
  unfold stampOf
  simp only [List.append_assoc]
  rw [bl_app _ _ _ _ (by rw [p4_len _ a.y.1 a.y.2, p4_len _ b.y.1 b.y.2]), p4_lt _ _ a.y.1 a.y.2 b.y.1 b.y.2]
  simp only [p4_eq _ _ a.y.1 a.y.2 b.y.1 b.y.2]
  congr 1
  rw [bl_app [45] [45] _ _ rfl, if_pos rfl, bl_app _ _ _ _ (by rw [p2_len _ (by omega), p2_len _ (by omega)]), p2_lt _ _ (by omega) (by omega)]
  simp only [p2_eq M M' (by omega) (by omega)]
  congr 1
  rw [bl_app [45] [45] _ _ rfl, if_pos rfl, bl_app _ _ _ _ (by rw [p2_len _ (by omega), p2_len _ (by omega)]), p2_lt _ _ (by omega) (by omega)]
  simp only [p2_eq D D' (by omega) (by omega)]
  congr 1
  rw [bl_app [84] [84] _ _ rfl, if_pos rfl, bl_app _ _ _ _ (by rw [p2_len _ (by omega), p2_len _ (by omega)]), p2_lt _ _ (by omega) (by omega)]
  simp only [p2_eq h h' (by omega) (by omega)]
  congr 1
  rw [bl_app [58] [58] _ _ rfl, if_pos rfl, bl_app _ _ _ _ (by rw [p2_len _ (by omega), p2_len _ (by omega)]), p2_lt _ _ (by omega) (by omega)]
  simp only [p2_eq m m' (by omega) (by omega)]
  by_cases e : m = m'
  · subst e; simp [Op.bytesLess]
  · rw [if_neg e]
theorem ys_mono (y : Int) : ∀ n : Nat, 2000 ≤ y → y + n ≤ 2100 → ys y ≤ ys (y + n)
  | 0, _, _ => by simp
  | n + 1, h1, h2 => by
    have ih := ys_mono y n h1 (by omega)
    have s := ys_succ (y + n) (by omega) (by omega)
    have := lp_01 (y + n)
    rw [show y + ((n + 1 : Nat) : Int) = y + n + 1 by omega, s]
    omega
theorem cum13 (y : Int) : cum y 13 = 365 + lp y := by unfold cum; simp
/-- the day's number -/
theorem day_le {Y M D h m : Nat} (a : Dt Y M D h m) : ys Y + cum Y M + D - 1 < ys Y + (365 + lp Y) := by
  have := cum_succ Y M (by have := a.mo; omega) (by have := a.mo; omega)
  have c := cum_le Y (M + 1) 13 (by omega) (by have := a.mo; omega) (by omega)
  have := cum13 Y
  have := a.d
  omega
theorem tm_less {Y M D h m Y' M' D' h' m' : Nat} (a : Dt Y M D h m) (b : Dt Y' M' D' h' m') :
    Op.bytesLess (stampOf Y M D h m) (stampOf Y' M' D' h' m') = decide (tm Y M D h m < tm Y' M' D' h' m') := by
  rw [stamp_less a b]
  have g1 := a.h
  have g2 := b.h
  have i1 := a.mi
  have i2 := b.mi
  have far : ∀ {Y M D h m Y' M' D' h' m' : Nat}, Dt Y M D h m → Dt Y' M' D' h' m' → Y < Y' → tm Y M D h m < tm Y' M' D' h' m' := by
    intro Y M D h m Y' M' D' h' m' a b hY
    have g1 := a.h
    have i1 := a.mi
    have l := day_le a
    have s := ys_succ Y (by have := a.y; omega) (by have := b.y; omega)
    have mm := ys_mono (Y + 1) (Y' - Y - 1) (by have := a.y; omega) (by have := b.y; omega)
    rw [show (Y : Int) + 1 + ((Y' - Y - 1 : Nat) : Int) = Y' by omega] at mm
    have c := (cum_bd Y' M').1
    have d := b.d.1
    unfold tm
    omega
  have mid : ∀ {Y M D h m M' D' h' m' : Nat}, Dt Y M D h m → Dt Y M' D' h' m' → M < M' → tm Y M D h m < tm Y M' D' h' m' := by
    intro Y M D h m M' D' h' m' a b hM
    have g1 := a.h
    have i1 := a.mi
    have s := cum_succ Y M (by have := a.mo; omega) (by have := a.mo; omega)
    have c := cum_le Y (M + 1) M' (by omega) (by omega) (by have := b.mo; omega)
    have d := b.d.1
    have d2 := a.d.2
    unfold tm
    omega
  by_cases e1 : Y = Y'
  · rw [if_pos e1]
    subst e1
    by_cases e2 : M = M'
    · rw [if_pos e2]
      subst e2
      by_cases e3 : D = D'
      · rw [if_pos e3]
        subst e3
        by_cases e4 : h = h'
        · rw [if_pos e4]
          subst e4
          rw [Bool.eq_iff_iff, decide_eq_true_eq, decide_eq_true_eq]
          unfold tm; omega
        · rw [if_neg e4, Bool.eq_iff_iff, decide_eq_true_eq, decide_eq_true_eq]
          unfold tm; omega
      · rw [if_neg e3, Bool.eq_iff_iff, decide_eq_true_eq, decide_eq_true_eq]
        unfold tm; omega
    · rw [if_neg e2, Bool.eq_iff_iff, decide_eq_true_eq, decide_eq_true_eq]
      constructor
      · intro hl; exact mid a b hl
      · intro hl
        by_cases x : M < M'
        · exact x
        · have := mid b a (by omega); omega
  · rw [if_neg e1, Bool.eq_iff_iff, decide_eq_true_eq, decide_eq_true_eq]
    constructor
    · intro hl; exact far a b hl
    · intro hl
      by_cases x : Y < Y'
      · exact x
      · have := far b a (by omega); omega
/-- near a time at most thirteen days from it the day, hour and minute are found again -/
theorem near_self {Y M D h m : Nat} {ref b Yr Mr r : Int} (a : Dt Y M D h m) (hY : Y = 2100 → M = 1 ∧ D = 1 ∧ h = 0 ∧ m = 0) (h0 : 0 ≤ tm Y M D h m) (h1 : tm Y M D h m ≤ 52596000) (r0 : 0 ≤ ref) (r1 : ref ≤ 52596000)
    (q1 : -18720 ≤ ref - tm Y M D h m) (q2 : ref - tm Y M D h m ≤ 18720)
    (a1 : 2000 ≤ Yr) (a2 : Yr ≤ 2100) (a3 : 1 ≤ Mr) (a4 : Mr ≤ 12) (a5 : 0 ≤ r) (a6 : r < dim Yr Mr) (a7 : r + ys Yr + cum Yr Mr = ref / 1440)
    (hi : Inv D h m ref (12 * (Yr - 2000) + Mr - 1 - 2) (12 * (Yr - 2000) + Mr - 1 + 3) b) : b = tm Y M D h m := by
  have m1 := a.mo
  have y1 := a.y
  have g1 := a.h
  have i1 := a.mi
  have d1 := a.d
  have db := dim_bd Y M
  obtain ⟨j, hj⟩ : ∃ j : Int, j = 12 * ((Y : Int) - 2000) + M - 1 := ⟨_, rfl⟩
  have e1 : yr j = Y := by rw [hj]; unfold yr; omega
  have e2 : mo j = M := by rw [hj]; unfold mo; omega
  have es : Dates.start j = ys Y + cum Y M := by unfold Dates.start; rw [e1, e2]
  have et : T D h m j = tm Y M D h m := by unfold T tm; rw [es]; omega
  have j0 : 0 ≤ j := by omega
  have j1 : j ≤ 1200 := by
    by_cases e : Y = 2100
    · have := hY e; omega
    · omega
  have vj : V D h m j := by
    refine ⟨?_, by rw [et]; exact h0, by rw [et]; exact h1⟩
    by_cases e : Y = 2100
    · have := hY e
      rw [e1, e2]
      exact Or.inl ⟨by omega, by omega, by omega, rfl, rfl⟩
    · exact good_mk j0 (by omega) (by omega) (by rw [e1, e2]; exact d1.2)
  obtain ⟨J, hJ⟩ : ∃ J : Int, J = 12 * (Yr - 2000) + Mr - 1 := ⟨_, rfl⟩
  rw [← hJ] at hi
  have f1 : yr J = Yr := by rw [hJ]; unfold yr; omega
  have f2 : mo J = Mr := by rw [hJ]; unfold mo; omega
  have fs : Dates.start J = ys Yr + cum Yr Mr := by unfold Dates.start; rw [f1, f2]
  have J0 : 0 ≤ J := by omega
  have J1 : J ≤ 1200 := by
    by_cases e : Yr = 2100
    · by_cases x : 2 ≤ Mr
      · have c := cum_le Yr 2 Mr (by omega) x (by omega)
        have c2 : cum Yr 2 = 31 := rfl
        have y : ys Yr = 36525 := by rw [e]; rfl
        omega
      · omega
    · omega
  have lo : Dates.start J * 1440 ≤ ref := by rw [fs]; omega
  have hi' : J ≤ 1199 → ref < Dates.start (J + 1) * 1440 := fun hh => by
    have := start_succ J J0 hh
    rw [f1, f2, fs] at this
    omega
  have tt : tm Y M D h m = (Dates.start j + D - 1) * 1440 + h * 60 + m := by rw [← et]; rfl
  have r1' : J - 2 ≤ j := by
    by_cases x : J - 2 ≤ j
    · exact x
    · have := start_mono j J j0 (by omega) J1; omega
  have r2' : j < J + 3 := by
    by_cases x : j < J + 3
    · exact x
    · have := start_mono (J + 1) j (by omega) (by omega) j1
      have := hi' (by omega)
      omega
  rcases hi with ⟨_, hn⟩ | ⟨_, k, k1, k2, vk, hb, hm⟩
  · exact absurd vj (hn j (by omega) r2')
  · have kr := good_range vk.1
    have hk := hm j (by omega) r2' vj
    have tk : T D h m k = (Dates.start k + D - 1) * 1440 + h * 60 + m := rfl
    by_cases e : k = j
    · rw [hb, e, et]
    · exfalso
      rw [et] at hk
      unfold dist at hk
      by_cases x : k < j
      · have := start_mono k j (by omega) (by omega) j1
        split at hk <;> split at hk <;> omega
      · have := start_mono j k j0 (by omega) (by omega)
        split at hk <;> split at hk <;> omega
end Go.Proofs.YtjnkeeedoffdkaaDoor.Tp
