/- A phrase read, plainly: what was said is read back. -/
import Derived.Test.YtnbhfjcpimdnlaaDoorPc
import Derived.Test.YtnbhfjcpimdnlaaDoorFig
import Derived.Lib.Index
import Derived.Lib.IndexMore
import Derived.Lib.Strings
namespace Go.Proofs.YtnbhfjcpimdnlaaDoor.Ph
open Go.ChangeShapes Go.WideShapes Go.ChangeAt Go.RowKit
def idx : List UInt8 → List UInt8 → Option Nat
  | [], sub => if sub.isEmpty then some 0 else none
  | b :: l, sub => if sub.isPrefixOf (b :: l) then some 0 else (idx l sub).map (· + 1)
def ofi : Option Nat → Int
  | some k => k
  | none => -1
theorem index_idx (s sub : List UInt8) : Lib.index s sub = ofi (idx s sub) := by
  induction s with
  | nil => unfold Lib.index idx; split <;> rfl
  | cons b l ih =>
    unfold Lib.index idx
    split
    · rfl
    · rw [ih]
      cases idx l sub with
      | none => rfl
      | some k =>
        have : ((ofi (some k) == (-1 : Int)) = false) := by simp [ofi]
        rw [this]
        simp [ofi]
def cutp (s sep : List UInt8) : List UInt8 × List UInt8 × Bool :=
  match idx s sep with
  | some k => (s.take k, s.drop (k + sep.length), true)
  | none => (s, [], false)
theorem cut_p (s sep : List UInt8) : Lib.cut s sep = cutp s sep := by
  unfold Lib.cut cutp
  rw [index_idx]
  cases idx s sep with
  | none => rfl
  | some k => simp [ofi]
theorem idx_ext (sep R : List UInt8) : ∀ (x : List UInt8) (k : Nat), idx x sep = some k → k + sep.length ≤ x.length → idx (x ++ R) sep = some k := by
  intro x
  induction x with
  | nil =>
    intro k h hl
    have e : sep = [] := List.eq_nil_of_length_eq_zero (by have hl' : k + sep.length ≤ 0 := hl; omega)
    subst e
    have hk : k = 0 := by have hl' : k + 0 ≤ 0 := hl; omega
    subst hk
    cases R with
    | nil => rfl
    | cons b r => simp [idx]
  | cons b l ih =>
    intro k h hl
    rw [List.cons_append]
    unfold idx at h ⊢
    split at h
    · rename_i hp
      have hp' : sep.isPrefixOf (b :: (l ++ R)) = true := by
        rw [List.isPrefixOf_iff_prefix] at hp ⊢
        exact hp.trans (by rw [← List.cons_append]; exact List.prefix_append _ _)
      rw [if_pos hp']
      exact h
    · rename_i hp
      have hs : sep.length ≤ (b :: l).length := by omega
      have hp' : ¬ sep.isPrefixOf (b :: (l ++ R)) = true := by
        intro q
        apply hp
        rw [List.isPrefixOf_iff_prefix] at q ⊢
        exact List.prefix_of_prefix_length_le q (by rw [← List.cons_append]; exact List.prefix_append _ _) hs
      rw [if_neg hp']
      cases hq : idx l sep with
      | none => rw [hq] at h; simp at h
      | some j =>
        rw [hq] at h
        simp at h
        subst h
        rw [ih j hq (by simp at hl; omega)]
        rfl
def num (s : List UInt8) : Int := if 3 < s.length then -1 else Fig.fig ⟨s.toArray⟩
abbrev pfx (G : Nat → List UInt8) (i : Nat) : List UInt8 := G 1 ++ G (2 + i) ++ G 10
def dfs (G : Nat → List UInt8) (nw : List UInt8) : Nat → Int × Int
  | 0 => (0, 0)
  | i + 1 => if Lib.hasPrefix nw (pfx G i) = true then ((i : Int) + 1, num (nw.drop (pfx G i).length)) else dfs G nw i
def cutW (G : Nat → List UInt8) (w : List UInt8) : List UInt8 × List UInt8 × Bool := if (cutp w (G 11)).2.2 = true then cutp w (G 11) else cutp w (G 12)
/-- what a wind's sentence says: direction, force, force later -/
def rwd (G : Nat → List UInt8) (w : List UInt8) : Int × Int × Int := ((dfs G (cutW G w).1 8).1, (dfs G (cutW G w).1 8).2, if (cutW G w).2.2 = true then num (cutW G w).2.1 else (dfs G (cutW G w).1 8).2)
abbrev pfr (G : Nat → List UInt8) (i : Nat) : List UInt8 := G (14 + i) ++ G 17
/-- what a rain's sentence says: kind, places -/
def rrn (G : Nat → List UInt8) (x : List UInt8) : Nat → Int × Int
  | 0 => (0, 0)
  | i + 1 => if Lib.hasPrefix x (pfr G i) = true then ((i : Int) + 1, num (cutp (x.drop (pfr G i).length) [32]).1) else rrn G x i
theorem winds1 : ∀ d : Fin 9, ∀ f : Fin 13, ∀ l : Fin 13, ((f.val = 0) ↔ (d.val = 0)) → rwd (gL 1) (now 1 d.val f.val ++ ltr 1 f.val l.val) = ((d.val : Int), (f.val : Int), (l.val : Int)) ∧ idx (now 1 d.val f.val ++ ltr 1 f.val l.val ++ [46, 32]) [46, 32] = some (now 1 d.val f.val ++ ltr 1 f.val l.val).length := by decide +kernel
theorem winds2 : ∀ d : Fin 9, ∀ f : Fin 13, ∀ l : Fin 13, ((f.val = 0) ↔ (d.val = 0)) → rwd (gL 2) (now 2 d.val f.val ++ ltr 2 f.val l.val) = ((d.val : Int), (f.val : Int), (l.val : Int)) ∧ idx (now 2 d.val f.val ++ ltr 2 f.val l.val ++ [46, 32]) [46, 32] = some (now 2 d.val f.val ++ ltr 2 f.val l.val).length := by decide +kernel
theorem winds3 : ∀ d : Fin 9, ∀ f : Fin 13, ∀ l : Fin 13, ((f.val = 0) ↔ (d.val = 0)) → rwd (gL 3) (now 3 d.val f.val ++ ltr 3 f.val l.val) = ((d.val : Int), (f.val : Int), (l.val : Int)) ∧ idx (now 3 d.val f.val ++ ltr 3 f.val l.val ++ [46, 32]) [46, 32] = some (now 3 d.val f.val ++ ltr 3 f.val l.val).length := by decide +kernel
theorem rains1 : ∀ r : Fin 4, ∀ p : Fin 101, ((p.val = 0) ↔ (r.val = 0)) → rrn (gL 1) (rtx 1 r.val p.val) 3 = ((r.val : Int), (p.val : Int)) := by decide +kernel
theorem rains2 : ∀ r : Fin 4, ∀ p : Fin 101, ((p.val = 0) ↔ (r.val = 0)) → rrn (gL 2) (rtx 2 r.val p.val) 3 = ((r.val : Int), (p.val : Int)) := by decide +kernel
theorem rains3 : ∀ r : Fin 4, ∀ p : Fin 101, ((p.val = 0) ↔ (r.val = 0)) → rrn (gL 3) (rtx 3 r.val p.val) 3 = ((r.val : Int), (p.val : Int)) := by decide +kernel
end Go.Proofs.YtnbhfjcpimdnlaaDoor.Ph
