/- What an ascent is, plain. -/
import Derived.Test.YtjnjpbbpphklhaaLvB
namespace Go.Proofs.Ytjnjpbbpphklhaa.Flt
open Go.ChangeShapes Go.WideShapes Go.ChangeAt Go.RowKit

def lo : Nat := 13864612927836782592
def hi : Nat := 4641240890982006784
def okF (t : Nat) : Bool := (ord t lo == some .gt || ord t lo == some .eq) && (ord t hi == some .lt || ord t hi == some .eq)
theorem kn_lt {x : Nat} (h : kn x = true) : rng x < 9218868437227405312 := by unfold kn at h; simpa using h
theorem kn_ge {x : Nat} (h : kn x = false) : 9218868437227405312 ≤ rng x := by unfold kn at h; simpa using h
theorem okF_lt {t : Nat} (h : (ord t lo == some .lt) = true) : okF t = false := by
  have h : ord t lo = some .lt := by simpa using h
  unfold okF; rw [h]; rfl
theorem okF_gt {t : Nat} (h : (ord t hi == some .gt) = true) : okF t = false := by
  have h : ord t hi = some .gt := by simpa using h
  unfold okF; rw [h]; simp
theorem key_lo : key lo = -4641240890982006784 := by decide +kernel
theorem key_hi : key hi = 4641240890982006784 := by decide +kernel
theorem ord_key (x y : Nat) (hx : rng x ≤ 9218868437227405312) (hy : rng y ≤ 9218868437227405312) : ord x y = some (compare (key x) (key y)) := order_key x y hx hy
theorem okF_unknown {t : Nat} (h : kn t = false) : okF t = false := by
  have h1 := kn_ge h
  by_cases h2 : 9218868437227405312 < rng t
  · have e1 : ord t lo = none := order_nan t lo (.inl h2)
    unfold okF; rw [e1]; rfl
  · have h3 : rng t = 9218868437227405312 := by omega
    cases hs : sgn t
    · refine okF_gt ?_
      rw [ord_key t hi (by omega) (by decide +kernel), key_hi]
      have : key t = 9218868437227405312 := by unfold key sg; rw [hs, h3]; rfl
      rw [this]
      decide
    · refine okF_lt ?_
      rw [ord_key t lo (by omega) (by decide +kernel), key_lo]
      have : key t = -9218868437227405312 := by unfold key sg; rw [hs, h3]; rfl
      rw [this]
      decide
theorem okF_yes {t : Nat} (h : kn t = true) (h1 : (ord t lo == some .lt) = false) (h2 : (ord t hi == some .gt) = false) : okF t = true := by
  have hk := kn_lt h
  rw [ord_key t lo (by omega) (by decide +kernel)] at h1
  rw [ord_key t hi (by omega) (by decide +kernel)] at h2
  unfold okF
  rw [ord_key t lo (by omega) (by decide +kernel), ord_key t hi (by omega) (by decide +kernel)]
  cases c1 : compare (key t) (key lo) <;> cases c2 : compare (key t) (key hi) <;> simp_all

def okP (L : Lv) (i : Nat) : Bool := inB (pOf L i) 1 (if i = 0 then 12000 else pOf L (i - 1) - 1)
def okAt (L : Lv) (i : Nat) : Bool := okP L i && okF (tOf L i)
def lok (L : Lv) : Bool := decide (2 ≤ L.length) && (decide (L.length ≤ 400) && (List.range L.length).all (okAt L))

theorem okP_fit {L : Lv} {k : Nat} (h : ∀ j, j < k → okAt L j = true) : ∀ i, i < k → 1 ≤ pOf L i ∧ pOf L i ≤ 12000 := by
  intro i
  induction i with
  | zero =>
    intro hi
    have := h 0 hi
    unfold okAt okP inB at this
    simp at this
    omega
  | succ n ih =>
    intro hi
    have h1 := ih (by omega)
    have := h (n + 1) hi
    unfold okAt okP inB at this
    simp at this
    omega
theorem lok_no {L : Lv} {k : Nat} (hk : k < L.length) (h : okAt L k = false) : lok L = false := by
  unfold lok
  have : (List.range L.length).all (okAt L) = false := by
    rw [List.all_eq_false]
    exact ⟨k, List.mem_range.2 hk, by simp [h]⟩
  rw [this]
  simp
theorem lok_yes {L : Lv} (h2 : 2 ≤ L.length) (h4 : L.length ≤ 400) (h : ∀ j, j < L.length → okAt L j = true) : lok L = true := by
  unfold lok
  have : (List.range L.length).all (okAt L) = true := by
    rw [List.all_eq_true]
    intro x hx
    exact h x (List.mem_range.1 hx)
  rw [this]
  simp
  omega
theorem lok_size {L : Lv} (h : lok L = true) : 2 ≤ L.length ∧ L.length ≤ 400 ∧ ∀ j, j < L.length → okAt L j = true := by
  unfold lok at h
  simp at h
  exact ⟨h.1, h.2.1, h.2.2⟩
theorem lok_short {L : Lv} (h : L.length < 2 ∨ 400 < L.length) : lok L = false := by
  unfold lok
  rcases h with h | h
  · rw [decide_eq_false (by omega)]; rfl
  · rw [decide_eq_false (by omega : ¬ L.length ≤ 400)]; simp
theorem okAt_out {L : Lv} {k : Nat} (h : inB (pOf L k) 1 12000 = false) (hp : ∀ j, j < k → okAt L j = true) : okAt L k = false := by
  have f := okP_fit hp
  unfold okAt okP
  have : inB (pOf L k) 1 (if k = 0 then 12000 else pOf L (k - 1) - 1) = false := by
    unfold inB at h ⊢
    by_cases e : k = 0
    · rw [if_pos e]; exact h
    · rw [if_neg e]
      have := f (k - 1) (by omega)
      simp at h ⊢
      omega
  rw [this]; rfl
theorem okAt_up {L : Lv} {k : Nat} (h0 : k ≠ 0) (h : pOf L (k - 1) ≤ pOf L k) : okAt L k = false := by
  unfold okAt okP inB
  rw [if_neg h0]
  have : decide (pOf L k ≤ pOf L (k - 1) - 1) = false := by simp; omega
  rw [this]; simp
theorem okAt_F {L : Lv} {k : Nat} (h : okF (tOf L k) = false) : okAt L k = false := by
  unfold okAt; rw [h]; simp
theorem okAt_yes {L : Lv} {k : Nat} (h1 : inB (pOf L k) 1 12000 = true) (h2 : k = 0 ∨ pOf L k < pOf L (k - 1)) (h3 : okF (tOf L k) = true) : okAt L k = true := by
  unfold okAt okP
  rw [h3]
  unfold inB at h1 ⊢
  by_cases e : k = 0
  · rw [if_pos e, h1]; rfl
  · rw [if_neg e]; simp at h1 ⊢; omega
end Go.Proofs.Ytjnjpbbpphklhaa.Flt
