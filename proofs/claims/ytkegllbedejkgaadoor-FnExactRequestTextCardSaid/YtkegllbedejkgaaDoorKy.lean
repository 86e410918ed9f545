/- Keys: their order, in the program and in its model. -/
import Derived.Test.YtkegllbedejkgaaDoorEo
import Derived.Laws.Cover1
import Derived.Sort.Walk0
namespace Go.Proofs.YtkegllbedejkgaaDoor.Ky
open Go.ChangeShapes Go.WideShapes Go.ChangeAt Go.RowKit
open Al Eo

/-- What a comparison is like. -/
structure Cmp {α : Type} (c : α → α → Int) : Prop where
  rng : ∀ a b, -1 ≤ c a b ∧ c a b ≤ 1
  anti : ∀ a b, c b a = - c a b
  trans : ∀ a b d, c a b ≤ 0 → c b d ≤ 0 → c a d ≤ 0 ∧ (c a d = 0 → c a b = 0 ∧ c b d = 0)
  eqv : ∀ a b d, c a b = 0 → c a d = c b d
def lex {α : Type} (c d : α → α → Int) (a b : α) : Int := if c a b = 0 then d a b else c a b
theorem Cmp.lex {α : Type} {c d : α → α → Int} (hc : Cmp c) (hd : Cmp d) : Cmp (Ky.lex c d) where
  rng a b := by
    unfold Ky.lex
    split
    · exact hd.rng a b
    · exact hc.rng a b
  anti a b := by
    unfold Ky.lex
    have h1 := hc.anti a b
    have h2 := hd.anti a b
    by_cases e : c a b = 0
    · rw [if_pos e, if_pos (by omega), h2]
    · rw [if_neg e, if_neg (by omega), h1]
  trans a b x := by
    intro h1 h2
    unfold Ky.lex at *
    have t1 := hc.trans a b x
    have t2 := hd.trans a b x
    have q1 := hc.eqv a b x
    have a1 := hc.anti b x
    have a2 := hc.anti a x
    by_cases e1 : c a b = 0
    · rw [if_pos e1] at h1
      have q := q1 e1
      by_cases e2 : c b x = 0
      · rw [if_pos e2] at h2
        rw [if_pos (by omega), if_pos e1, if_pos e2]
        exact t2 h1 h2
      · rw [if_neg e2] at h2
        rw [if_neg (by omega)]
        refine ⟨by omega, fun h => absurd h (by omega)⟩
    · rw [if_neg e1] at h1
      by_cases e2 : c b x = 0
      · have t := t1 h1 (by omega)
        have ne : ¬ c a x = 0 := fun h => e1 (t.2 h).1
        rw [if_neg ne]
        exact ⟨t.1, fun h => absurd h ne⟩
      · rw [if_neg e2] at h2
        have t := t1 h1 h2
        have ne : ¬ c a x = 0 := fun h => e1 (t.2 h).1
        rw [if_neg ne]
        exact ⟨t.1, fun h => absurd h ne⟩
  eqv a b x := by
    intro h
    unfold Ky.lex at *
    have q1 := hc.eqv a b x
    have q2 := hd.eqv a b x
    by_cases e1 : c a b = 0
    · rw [if_pos e1] at h
      rw [q1 e1, q2 h]
    · rw [if_neg e1] at h
      exact absurd h e1
def ic (a b : Int) : Int := if a < b then -1 else if b < a then 1 else 0
theorem ic_cmp {α : Type} (f : α → Int) : Cmp (fun a b => ic (f a) (f b)) where
  rng a b := by show -1 ≤ ic (f a) (f b) ∧ ic (f a) (f b) ≤ 1; unfold ic; split <;> (try split) <;> omega
  anti a b := by show ic (f b) (f a) = - ic (f a) (f b); unfold ic; repeat' split <;> omega
  trans a b d := by
    show ic (f a) (f b) ≤ 0 → ic (f b) (f d) ≤ 0 → ic (f a) (f d) ≤ 0 ∧ (ic (f a) (f d) = 0 → ic (f a) (f b) = 0 ∧ ic (f b) (f d) = 0)
    unfold ic
    repeat' split <;> omega
  eqv a b d := by
    show ic (f a) (f b) = 0 → ic (f a) (f d) = ic (f b) (f d)
    unfold ic
    intro h
    have : f a = f b := by
      revert h
      split
      · omega
      · split <;> omega
    rw [this]
def sc (p q : ByteArray) : Int := if Op.bytesLess p.toList q.toList then -1 else if p.toList == q.toList then 0 else 1
theorem bl (x y : List UInt8) : Op.bytesLess x y = decide (x < y) := bytesLess_eq x y
theorem sc_eq (p q : ByteArray) : sc p q = if p.toList < q.toList then -1 else if q.toList < p.toList then 1 else 0 := by
  unfold sc
  rw [bl]
  by_cases h : p.toList < q.toList
  · simp [h]
  · by_cases h2 : q.toList < p.toList
    · have ne : ¬ p.toList = q.toList := fun e => by rw [e] at h2; exact absurd h2 (List.lt_irrefl _)
      simp [h, h2, ne]
    · have e : p.toList = q.toList := List.le_antisymm (List.not_lt.1 h2) (List.not_lt.1 h)
      simp [e, List.lt_irrefl]
theorem sc_cmp {α : Type} (f : α → ByteArray) : Cmp (fun a b => sc (f a) (f b)) where
  rng a b := by show -1 ≤ sc (f a) (f b) ∧ sc (f a) (f b) ≤ 1; rw [sc_eq]; split <;> (try split) <;> omega
  anti a b := by
    show sc (f b) (f a) = - sc (f a) (f b)
    rw [sc_eq, sc_eq]
    by_cases h : (f a).toList < (f b).toList
    · rw [if_pos h, if_neg (List.lt_asymm h), if_pos h]; rfl
    · by_cases h2 : (f b).toList < (f a).toList
      · simp [h, h2]
      · simp [h, h2]
  trans a b d := by
    show sc (f a) (f b) ≤ 0 → sc (f b) (f d) ≤ 0 → sc (f a) (f d) ≤ 0 ∧ (sc (f a) (f d) = 0 → sc (f a) (f b) = 0 ∧ sc (f b) (f d) = 0)
    rw [sc_eq, sc_eq, sc_eq]
    generalize (f a).toList = x
    generalize (f b).toList = y
    generalize (f d).toList = z
    by_cases h1 : x < y
    · rw [if_pos h1]
      by_cases h2 : y < z
      · rw [if_pos h2, if_pos (List.lt_trans h1 h2)]; omega
      · rw [if_neg h2]
        by_cases h3 : z < y
        · rw [if_pos h3]; omega
        · have e : y = z := List.le_antisymm (List.not_lt.1 h3) (List.not_lt.1 h2)
          subst e
          rw [if_pos h1]; omega
    · rw [if_neg h1]
      by_cases h2 : y < x
      · rw [if_pos h2]; omega
      · have e : x = y := List.le_antisymm (List.not_lt.1 h2) (List.not_lt.1 h1)
        subst e
        rw [if_neg h2]
        intro _ h
        exact ⟨h, fun h => ⟨rfl, h⟩⟩
  eqv a b d := by
    show sc (f a) (f b) = 0 → sc (f a) (f d) = sc (f b) (f d)
    rw [sc_eq, sc_eq, sc_eq]
    generalize (f a).toList = x
    generalize (f b).toList = y
    generalize (f d).toList = z
    intro h
    have e : x = y := by
      by_cases h1 : x < y
      · rw [if_pos h1] at h; omega
      · rw [if_neg h1] at h
        by_cases h2 : y < x
        · rw [if_pos h2] at h; omega
        · exact List.le_antisymm (List.not_lt.1 h2) (List.not_lt.1 h1)
    rw [e]
abbrev En1 := ByteArray × Int × Int × Int × Int
def ky (a b : En1) : Int := lex (fun a b => sc a.1 b.1) (lex (fun a b => ic a.2.1 b.2.1) (lex (fun a b => ic a.2.2.1 b.2.2.1) (fun a b => ic a.2.2.2.1 b.2.2.2.1))) a b
theorem ky_cmp : Cmp ky := (sc_cmp _).lex ((ic_cmp _).lex ((ic_cmp _).lex (ic_cmp _)))

def fz (x0 x1 x2 x3 : Int) : Int := if x0 = 0 then (if x1 = 0 then (if x2 = 0 then x3 else x2) else x1) else x0
theorem ky_lt (a b : En1) : decide (ky a b < 0) = (if (!(a.1.toList == b.1.toList)) then Op.bytesLess a.1.toList b.1.toList else if a.2.1 != b.2.1 then decide (a.2.1 < b.2.1) else if a.2.2.1 != b.2.2.1 then decide (a.2.2.1 < b.2.2.1) else decide (a.2.2.2.1 < b.2.2.2.1)) := by
  have i0 : ∀ x y : Int, (ic x y < 0) ↔ x < y := fun x y => by unfold ic; split <;> (try split) <;> omega
  have i1 : ∀ x y : Int, (ic x y = 0) ↔ x = y := fun x y => by unfold ic; split <;> (try split) <;> omega
  have s1 : ∀ p q : ByteArray, (sc p q = 0) ↔ (p.toList == q.toList) = true := fun p q => by
    unfold sc
    cases h : Op.bytesLess p.toList q.toList
    · cases h2 : (p.toList == q.toList) <;> simp
    · simp
      intro e
      rw [e, bl] at h
      simp [List.lt_irrefl] at h
  have s0 : ∀ p q : ByteArray, (p.toList == q.toList) = false → decide (sc p q < 0) = Op.bytesLess p.toList q.toList := fun p q e => by
    unfold sc
    rw [e]
    cases h : Op.bytesLess p.toList q.toList <;> simp
  unfold ky lex
  cases hs : (a.1.toList == b.1.toList)
  · have : ¬ sc a.1 b.1 = 0 := fun h => by rw [s1, hs] at h; cases h
    rw [if_neg this, s0 _ _ hs]
    rfl
  · rw [if_pos ((s1 _ _).2 hs)]
    by_cases h1 : a.2.1 = b.2.1
    · rw [if_pos ((i1 _ _).2 h1)]
      by_cases h2 : a.2.2.1 = b.2.2.1
      · rw [if_pos ((i1 _ _).2 h2)]
        simp [h1, h2, i0]
      · rw [if_neg (fun h => h2 ((i1 _ _).1 h))]
        simp [h1, h2, i0]
    · rw [if_neg (fun h => h1 ((i1 _ _).1 h))]
      simp [h1, i0]
theorem ky_fz (a b : En1) : ky a b = fz (sc a.1 b.1) (ic a.2.1 b.2.1) (ic a.2.2.1 b.2.2.1) (ic a.2.2.2.1 b.2.2.2.1) := rfl

end Go.Proofs.YtkegllbedejkgaaDoor.Ky
