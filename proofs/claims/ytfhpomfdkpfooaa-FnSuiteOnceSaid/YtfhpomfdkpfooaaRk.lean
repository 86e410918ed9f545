/- Runs that are right, plainly. -/
import Derived.Test.YtfhpomfdkpfooaaBa
import Derived.Test.YtfhpomfdkpfooaaBm
namespace Go.Proofs.Ytfhpomfdkpfooaa.Rk
open Go.Proofs.Ytfhpomfdkpfooaa.Al

abbrev hw (J : Jb.Ls) (i : Nat) : Int := Jb.c0 J i
abbrev tr (J : Jb.Ls) (i : Nat) : Int := Jb.c1 J i
/-- Is the k-th of those that task i comes behind done? -/
def dn (R : Tk.Ls) (J : Jb.Ls) (i k : Nat) : Bool := hw J (((Tk.cl R i).getD k 0) - 1).toNat == 2
def fr (R : Tk.Ls) (J : Jb.Ls) (i : Nat) : Bool := (List.range (Tk.cl R i).length).all (dn R J i)
/-- How many of the first k tasks run in a group. -/
def rn (R : Tk.Ls) (J : Jb.Ls) (g : Int) : Nat → Int
  | 0 => 0
  | k + 1 => if (hw J k == 1 && Tk.cz R k 1 == g) = true then rn R J g k + 1 else rn R J g k
def jok (R : Tk.Ls) (J : Jb.Ls) (i : Nat) : Bool :=
  (inn (hw J i) 0 3 && inn (tr J i) 0 (Tk.cz R i 3)) && (!((hw J i == 0 && tr J i == Tk.cz R i 3) || (hw J i == 3 && tr J i != Tk.cz R i 3) || (hw J i != 0 && (tr J i == 0 || !fr R J i))))
def lok (R : Tk.Ls) (X : List Int) (J : Jb.Ls) (g : Nat) : Bool := decide (rn R J ((g : Int) + 1) J.length ≤ X.getD g 0)
def okR (R : Tk.Ls) (X : List Int) (now : Int) (J : Jb.Ls) : Bool :=
  (So.okS R X && (inn now 0 1000000000000 && decide (J.length = R.length))) && ((List.range J.length).all (jok R J) && (List.range X.length).all (lok R X J))
theorem all_no {n : Nat} {f : Nat → Bool} {k : Nat} (hk : k < n) (h : f k = false) : (List.range n).all f = false := by
  rw [List.all_eq_false]
  exact ⟨k, List.mem_range.2 hk, by simp [h]⟩
theorem all_yes {n : Nat} {f : Nat → Bool} (h : ∀ j, j < n → f j = true) : (List.range n).all f = true := by
  rw [List.all_eq_true]
  intro x hx
  exact h x (List.mem_range.1 hx)
theorem all_at {n : Nat} {f : Nat → Bool} (h : (List.range n).all f = true) (k : Nat) (hk : k < n) : f k = true := by
  rw [List.all_eq_true] at h
  exact h k (List.mem_range.2 hk)
theorem rn_rng (R : Tk.Ls) (J : Jb.Ls) (g : Int) : ∀ k, 0 ≤ rn R J g k ∧ rn R J g k ≤ (k : Int)
  | 0 => by simp [rn]
  | k + 1 => by have := rn_rng R J g k; unfold rn; split <;> omega
theorem rn_mono (R : Tk.Ls) (J : Jb.Ls) (g : Int) {j k : Nat} (h : j ≤ k) : rn R J g j ≤ rn R J g k := by
  induction k with
  | zero => obtain rfl : j = 0 := by omega
            exact Int.le_refl _
  | succ k ih =>
    by_cases e : j = k + 1
    · rw [e]; exact Int.le_refl _
    · have := ih (by omega)
      show _ ≤ (if (hw J k == 1 && Tk.cz R k 1 == g) = true then rn R J g k + 1 else rn R J g k)
      split <;> omega
/-- Does a task that runs find room in its group? -/
def ent (R : Tk.Ls) (X : List Int) (J : Jb.Ls) (i : Nat) : Bool := !(hw J i == 1 && decide (X.getD (Tk.cz R i 1 - 1).toNat 0 ≤ rn R J (Tk.cz R i 1) i))
/-- What a right suite has. -/
structure Fit (R : Tk.Ls) (X : List Int) : Prop where
  r1 : 1 ≤ R.length
  r60 : R.length ≤ 60
  x1 : 1 ≤ X.length
  x6 : X.length ≤ 6
  lim : ∀ g, g < X.length → 1 ≤ X.getD g 0 ∧ X.getD g 0 ≤ 60
  aft : ∀ i, i < R.length → ∀ k, k < (Tk.cl R i).length → 1 ≤ (Tk.cl R i).getD k 0 ∧ (Tk.cl R i).getD k 0 ≤ (i : Int)
  len : ∀ i, i < R.length → (Tk.cl R i).length ≤ 60
  grp : ∀ i, i < R.length → 1 ≤ Tk.cz R i 1 ∧ Tk.cz R i 1 ≤ (X.length : Int)
  late : ∀ i, i < R.length → 0 ≤ Tk.cz R i 2 ∧ Tk.cz R i 2 ≤ 1000000000000
  most : ∀ i, i < R.length → 1 ≤ Tk.cz R i 3 ∧ Tk.cz R i 3 ≤ 5
theorem fit_of {R : Tk.Ls} {X : List Int} (h : So.okS R X = true) : Fit R X := by
  unfold So.okS at h
  rw [Bool.and_eq_true, Bool.and_eq_true, Bool.and_eq_true, inn_iff, inn_iff] at h
  obtain ⟨⟨a1, a2⟩, ⟨b1, b2⟩, hx, h⟩ := h
  have T : ∀ i, i < R.length → So.eAs (Tk.cl R i) (i : Int) = true ∧ (1 ≤ Tk.cz R i 1 ∧ Tk.cz R i 1 ≤ (X.length : Int)) ∧ (0 ≤ Tk.cz R i 2 ∧ Tk.cz R i 2 ≤ 1000000000000) ∧ (1 ≤ Tk.cz R i 3 ∧ Tk.cz R i 3 ≤ 5) := fun i hi => by
    have := all_at (f := So.okT R (X.length : Int)) h i hi
    unfold So.okT So.tok at this
    rw [Bool.and_eq_true, Bool.and_eq_true, Bool.and_eq_true, inn_iff, inn_iff, inn_iff] at this
    exact ⟨this.1, this.2.1, this.2.2.1, this.2.2.2⟩
  refine ⟨by omega, by omega, by omega, by omega, fun g hg => ?_, fun i hi k hk => ?_, fun i hi => ?_, fun i hi => (T i hi).2.1, fun i hi => (T i hi).2.2.1, fun i hi => (T i hi).2.2.2⟩
  · rw [List.all_eq_true] at hx
    have := hx (X.getD g 0) (by simp [List.getD_eq_getElem?_getD, hg])
    rw [inn_iff] at this
    exact this
  · have := all_at (f := So.eA (Tk.cl R i) (i : Int)) (T i hi).1 k hk
    unfold So.eA at this
    rw [Bool.and_eq_true, inn_iff] at this
    exact this.1
  · have := So.eAs_len (by omega) (T i hi).1
    omega
theorem cross (R : Tk.Ls) (J : Jb.Ls) (g l : Int) (h0 : 0 ≤ l) : ∀ n, l < rn R J g n → ∃ i, i < n ∧ hw J i = 1 ∧ Tk.cz R i 1 = g ∧ rn R J g i = l
  | 0, h => by simp [rn] at h; omega
  | n + 1, h => by
    by_cases hn : l < rn R J g n
    · obtain ⟨i, h1, h2⟩ := cross R J g l h0 n hn
      exact ⟨i, by omega, h2⟩
    · unfold rn at h
      by_cases c : (hw J n == 1 && Tk.cz R n 1 == g) = true
      · rw [if_pos c] at h
        rw [Bool.and_eq_true] at c
        exact ⟨n, Nat.lt_succ_self n, by simpa using c.1, by simpa using c.2, by omega⟩
      · rw [if_neg c] at h; omega
/-- All who run find room, one behind the other, just when no group is too full. -/
theorem room {R : Tk.Ls} {X : List Int} {J : Jb.Ls} (F : Fit R X) (hl : J.length = R.length) : (List.range X.length).all (lok R X J) = (List.range J.length).all (ent R X J) := by
  rw [Bool.eq_iff_iff]
  constructor
  · intro h
    refine all_yes fun i hi => ?_
    unfold ent
    cases hr : (hw J i == 1)
    · rfl
    · have hr' : hw J i = 1 := by simpa using hr
      have g1 := F.grp i (by omega)
      have := all_at h (Tk.cz R i 1 - 1).toNat (by omega)
      unfold lok at this
      rw [decide_eq_true_eq, show (((Tk.cz R i 1 - 1).toNat : Nat) : Int) + 1 = Tk.cz R i 1 by omega] at this
      have m := rn_mono R J (Tk.cz R i 1) (show i + 1 ≤ J.length by omega)
      have s : rn R J (Tk.cz R i 1) (i + 1) = rn R J (Tk.cz R i 1) i + 1 := by
        show (if _ then _ else _) = _
        rw [if_pos (by rw [hr]; simp)]
      rw [decide_eq_false (by omega)]
      rfl
  · intro h
    refine all_yes fun g hg => ?_
    unfold lok
    rw [decide_eq_true_eq]
    rcases Int.lt_or_le (X.getD g 0) (rn R J ((g : Int) + 1) J.length) with c | c
    · exfalso
      obtain ⟨i, h1, h2, h3, h4⟩ := cross R J _ _ (by have := F.lim g hg; omega) J.length c
      have := all_at h i h1
      unfold ent at this
      rw [h2, h3, h4, show ((g : Int) + 1 - 1).toNat = g by omega, decide_eq_true (Int.le_refl _)] at this
      simp at this
    · exact c
/-- A job by its kind. -/
def jk (R : Tk.Ls) (J : Jb.Ls) (i : Nat) : Bool :=
  if hw J i = 0 then inn (tr J i) 0 (Tk.cz R i 3 - 1) else if hw J i = 1 ∨ hw J i = 2 then inn (tr J i) 1 (Tk.cz R i 3) && fr R J i else if hw J i = 3 then (tr J i == Tk.cz R i 3) && fr R J i else false
theorem jok_jk (R : Tk.Ls) (J : Jb.Ls) (i : Nat) (h1 : 1 ≤ Tk.cz R i 3) : jok R J i = jk R J i := by
  unfold jok jk inn
  generalize fr R J i = f
  generalize hw J i = a
  generalize tr J i = b
  generalize Tk.cz R i 3 = m at *
  by_cases a0 : a = 0
  · subst a0
    rw [if_pos rfl, Bool.eq_iff_iff]
    simp
    omega
  · rw [if_neg a0]
    by_cases a1 : a = 1 ∨ a = 2
    · rw [if_pos a1, Bool.eq_iff_iff]
      cases f
      · simp [a0]
      · simp [a0]
        omega
    · rw [if_neg a1]
      by_cases a3 : a = 3
      · subst a3
        rw [if_pos rfl, Bool.eq_iff_iff]
        cases f
        · simp
        · simp
          omega
      · rw [if_neg a3, Bool.eq_iff_iff]
        simp
        omega
end Go.Proofs.Ytfhpomfdkpfooaa.Rk
