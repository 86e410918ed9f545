/- The best shift, plain: which of 49 stands, however they are gone through. -/
import Derived.WalkKit
namespace Go.Proofs.Ytimbghigjfioeaa.Mv

def D (a b : Int) : Int := a * a + b * b
def ix (a b : Int) : Int := (a + 3) * 7 + (b + 3)
def key (F : Int → Int → Int) (a b : Int) : Int := F a b * 100000 - D a b * 1000 - ix a b
def In (a b : Int) : Prop := -3 ≤ a ∧ a ≤ 3 ∧ -3 ≤ b ∧ b ≤ 3
def Best (F : Int → Int → Int) (x y : Int) : Prop := In x y ∧ ∀ a b, In a b → key F a b ≤ key F x y

theorem sq_le {a : Int} (h1 : -3 ≤ a) (h2 : a ≤ 3) : 0 ≤ a * a ∧ a * a ≤ 9 ∧ (a * a = 0 → a = 0) := by
  have : a = -3 ∨ a = -2 ∨ a = -1 ∨ a = 0 ∨ a = 1 ∨ a = 2 ∨ a = 3 := by omega
  rcases this with rfl | rfl | rfl | rfl | rfl | rfl | rfl <;> decide
theorem D_le {a b : Int} (h : In a b) : 0 ≤ D a b ∧ D a b ≤ 18 ∧ (D a b = 0 → a = 0 ∧ b = 0) := by
  obtain ⟨h1, h2, h3, h4⟩ := h
  have p := sq_le h1 h2
  have q := sq_le h3 h4
  unfold D
  generalize a * a = s at *
  generalize b * b = t at *
  refine ⟨by omega, by omega, fun h => ⟨p.2.2 (by omega), q.2.2 (by omega)⟩⟩
theorem best_unique {F : Int → Int → Int} {x y x' y' : Int} (h : Best F x y) (h' : Best F x' y') : x = x' ∧ y = y' := by
  obtain ⟨i, h⟩ := h
  obtain ⟨i', h'⟩ := h'
  have e1 := h x' y' i'
  have e2 := h' x y i
  have d := D_le i
  have d' := D_le i'
  unfold key at e1 e2
  obtain ⟨i1, i2, i3, i4⟩ := i
  obtain ⟨j1, j2, j3, j4⟩ := i'
  unfold ix at e1 e2
  generalize D x y = p at *
  generalize D x' y' = q at *
  generalize F x y = f at *
  generalize F x' y' = g at *
  clear h h'
  have : f = g := by omega
  subst this
  have : p = q := by omega
  subst this
  omega
theorem best_exists (F : Int → Int → Int) : ∃ x y, Best F x y := by
  have H : ∀ n : Nat, n ≤ 48 → ∃ x y, In x y ∧ ∀ a b, In a b → ix a b ≤ n → key F a b ≤ key F x y := by
    intro n
    induction n with
    | zero =>
      intro _
      refine ⟨-3, -3, by unfold In; omega, fun a b h hi => ?_⟩
      unfold In at h
      unfold ix at hi
      have : a = -3 := by omega
      have : b = -3 := by omega
      subst a b
      exact Int.le_refl _
    | succ n ih =>
      intro hn
      obtain ⟨x, y, hi, hb⟩ := ih (by omega)
      obtain ⟨a, b, hab, hix⟩ : ∃ a b, In a b ∧ ix a b = (n + 1 : Int) := ⟨((n + 1 : Nat) : Int) / 7 - 3, ((n + 1 : Nat) : Int) % 7 - 3, by unfold In; omega, by unfold ix; omega⟩
      by_cases hk : key F a b ≤ key F x y
      · refine ⟨x, y, hi, fun c d hc hd => ?_⟩
        by_cases e : ix c d = (n + 1 : Int)
        · have : c = a ∧ d = b := by unfold ix at e hix; unfold In at hab hc; omega
          rw [this.1, this.2]
          exact hk
        · exact hb c d hc (by omega)
      · refine ⟨a, b, hab, fun c d hc hd => ?_⟩
        by_cases e : ix c d = (n + 1 : Int)
        · have : c = a ∧ d = b := by unfold ix at e hix; unfold In at hab hc; omega
          rw [this.1, this.2]
          exact Int.le_refl _
        · have := hb c d hc (by omega)
          omega
  obtain ⟨x, y, hi, hb⟩ := H 48 (Nat.le_refl _)
  exact ⟨x, y, hi, fun a b h => hb a b h (by unfold In at h; unfold ix; omega)⟩

def PI (F : Int → Int → Int) (t x y m : Int) : Prop :=
  In x y ∧ m = F x y ∧ ((x = 0 ∧ y = 0) ∨ ix x y < t) ∧ ∀ a b, In a b → (ix a b < t ∨ (a = 0 ∧ b = 0)) → key F a b ≤ key F x y
theorem ix_in {a b : Int} (h : In a b) : 0 ≤ ix a b ∧ ix a b ≤ 48 := by unfold In at h; unfold ix; omega
theorem ix_inj {a b c d : Int} (h : In a b) (h' : In c d) (e : ix a b = ix c d) : a = c ∧ b = d := by unfold In at h h'; unfold ix at e; omega
theorem pi_start (F : Int → Int → Int) : PI F 0 0 0 (F 0 0) :=
  ⟨by unfold In; omega, rfl, .inl ⟨rfl, rfl⟩, fun a b h hs => by
    rcases hs with hs | ⟨rfl, rfl⟩
    · have := ix_in h; omega
    · exact Int.le_refl _⟩
theorem pi_take {F : Int → Int → Int} {t x y m a b : Int} (h : PI F t x y m) (hi : In a b) (ht : ix a b = t) (hc : m < F a b ∨ (F a b = m ∧ D a b < D x y)) : PI F (t + 1) a b (F a b) := by
  obtain ⟨h1, h2, h3, h4⟩ := h
  have d1 := D_le h1
  have d2 := D_le hi
  have x1 := ix_in h1
  have x2 := ix_in hi
  refine ⟨hi, rfl, .inr (by omega), fun c d hcd hs => ?_⟩
  by_cases e : ix c d = t
  · obtain ⟨rfl, rfl⟩ := ix_inj hcd hi (by omega)
    exact Int.le_refl _
  · have := h4 c d hcd (by rcases hs with hs | hs; exact .inl (by omega); exact .inr hs)
    have : key F x y ≤ key F a b := by
      unfold key
      rw [h2] at hc
      omega
    omega
theorem pi_keep {F : Int → Int → Int} {t x y m a b : Int} (h : PI F t x y m) (hi : In a b) (ht : ix a b = t) (hc : ¬ m < F a b) (hd : F a b = m → ¬ D a b < D x y) : PI F (t + 1) x y m := by
  obtain ⟨h1, h2, h3, h4⟩ := h
  have d1 := D_le h1
  have d2 := D_le hi
  have x1 := ix_in h1
  have x2 := ix_in hi
  refine ⟨h1, h2, by rcases h3 with h | h; exact .inl h; exact .inr (by omega), fun c d hcd hs => ?_⟩
  by_cases e : ix c d = t
  · obtain ⟨rfl, rfl⟩ := ix_inj hcd hi (by omega)
    unfold key
    rw [h2] at hc hd
    by_cases ef : F c d = F x y
    · have hd' := hd ef
      by_cases ed : D c d = D x y
      · rcases h3 with ⟨rfl, rfl⟩ | h3
        · have z : D (0 : Int) 0 = 0 := by decide
          obtain ⟨rfl, rfl⟩ := d2.2.2 (by omega)
          exact Int.le_refl _
        · omega
      · omega
    · omega
  · exact h4 c d hcd (by rcases hs with hs | hs; exact .inl (by omega); exact .inr hs)
theorem pi_end {F : Int → Int → Int} {x y m : Int} (h : PI F 49 x y m) : Best F x y :=
  ⟨h.1, fun a b hi => h.2.2.2 a b hi (.inl (by have := ix_in hi; omega))⟩

def Sc (d t a b : Int) : Prop := D a b < d ∨ (D a b = d ∧ ix a b < t)
def MI (F : Int → Int → Int) (d t x y m : Int) : Prop :=
  (m = -1 ∧ ∀ a b, In a b → ¬ Sc d t a b) ∨ (In x y ∧ m = F x y ∧ Sc d t x y ∧ ∀ a b, In a b → Sc d t a b → key F a b ≤ key F x y)
theorem mi_start (F : Int → Int → Int) : MI F 0 0 0 0 (-1) :=
  .inl ⟨rfl, fun a b h hs => by have := ix_in h; have := D_le h; unfold Sc at hs; omega⟩
theorem mi_skip {F : Int → Int → Int} {d t x y m a b : Int} (h : MI F d t x y m) (hi : In a b) (ht : ix a b = t) (hd : D a b ≠ d) : MI F d (t + 1) x y m := by
  have sc : ∀ c e, In c e → Sc d (t + 1) c e → Sc d t c e := fun c e hce hs => by
    rcases hs with hs | ⟨hs, h2⟩
    · exact .inl hs
    · refine .inr ⟨hs, ?_⟩
      by_cases q : ix c e = t
      · obtain ⟨rfl, rfl⟩ := ix_inj hce hi (by omega)
        exact absurd hs hd
      · omega
  rcases h with ⟨h1, h2⟩ | ⟨h1, h2, h3, h4⟩
  · exact .inl ⟨h1, fun c e hce hs => h2 c e hce (sc c e hce hs)⟩
  · refine .inr ⟨h1, h2, ?_, fun c e hce hs => h4 c e hce (sc c e hce hs)⟩
    rcases h3 with h3 | h3
    · exact .inl h3
    · exact .inr ⟨h3.1, by omega⟩
theorem mi_take {F : Int → Int → Int} {d t x y m a b : Int} (h : MI F d t x y m) (hi : In a b) (ht : ix a b = t) (hd : D a b = d) (hc : m < F a b) : MI F d (t + 1) a b (F a b) := by
  refine .inr ⟨hi, rfl, .inr ⟨hd, by omega⟩, fun c e hce hs => ?_⟩
  by_cases q : ix c e = t
  · obtain ⟨rfl, rfl⟩ := ix_inj hce hi (by omega)
    exact Int.le_refl _
  · have hs' : Sc d t c e := by
      rcases hs with hs | ⟨hs, h2⟩
      · exact .inl hs
      · exact .inr ⟨hs, by omega⟩
    rcases h with ⟨h1, h2⟩ | ⟨h1, h2, h3, h4⟩
    · exact absurd hs' (h2 c e hce)
    · have k := h4 c e hce hs'
      have d1 := D_le h1
      have d2 := D_le hi
      have x1 := ix_in h1
      have x2 := ix_in hi
      have : key F x y ≤ key F a b := by
        unfold key
        rw [h2] at hc
        omega
      omega
theorem mi_keep {F : Int → Int → Int} {d t x y m a b : Int} (h : MI F d t x y m) (hi : In a b) (ht : ix a b = t) (hd : D a b = d) (h0 : 0 ≤ F a b) (hc : ¬ m < F a b) : MI F d (t + 1) x y m := by
  rcases h with ⟨h1, h2⟩ | ⟨h1, h2, h3, h4⟩
  · omega
  · refine .inr ⟨h1, h2, ?_, fun c e hce hs => ?_⟩
    · rcases h3 with h3 | h3
      · exact .inl h3
      · exact .inr ⟨h3.1, by omega⟩
    · by_cases q : ix c e = t
      · obtain ⟨rfl, rfl⟩ := ix_inj hce hi (by omega)
        have d1 := D_le h1
        have d2 := D_le hi
        have x1 := ix_in h1
        have x2 := ix_in hi
        unfold Sc at h3
        unfold key
        rw [h2] at hc
        omega
      · refine h4 c e hce ?_
        rcases hs with hs | ⟨hs, h2⟩
        · exact .inl hs
        · exact .inr ⟨hs, by omega⟩
theorem mi_next {F : Int → Int → Int} {d x y m : Int} (h : MI F d 49 x y m) : MI F (d + 1) 0 x y m := by
  have sc : ∀ c e, In c e → Sc (d + 1) 0 c e → Sc d 49 c e := fun c e hce hs => by
    have := ix_in hce
    unfold Sc at hs ⊢
    omega
  rcases h with ⟨h1, h2⟩ | ⟨h1, h2, h3, h4⟩
  · exact .inl ⟨h1, fun c e hce hs => h2 c e hce (sc c e hce hs)⟩
  · refine .inr ⟨h1, h2, ?_, fun c e hce hs => h4 c e hce (sc c e hce hs)⟩
    unfold Sc at h3 ⊢
    omega
theorem mi_end {F : Int → Int → Int} {x y m : Int} (h : MI F 19 0 x y m) : Best F x y := by
  rcases h with ⟨h1, h2⟩ | ⟨h1, h2, h3, h4⟩
  · exact absurd (.inl (by decide)) (h2 0 0 (by unfold In; omega))
  · exact ⟨h1, fun a b hi => h4 a b hi (.inl (by have := D_le hi; omega))⟩
end Go.Proofs.Ytimbghigjfioeaa.Mv
