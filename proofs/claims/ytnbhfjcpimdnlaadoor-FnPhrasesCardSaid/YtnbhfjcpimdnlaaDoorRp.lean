/- A phrase read, plainly: what was said is read back. -/
import Derived.Test.YtnbhfjcpimdnlaaDoorRf
namespace Go.Proofs.YtnbhfjcpimdnlaaDoor.Ph
open Go.ChangeShapes Go.WideShapes Go.ChangeAt Go.RowKit
theorem winds (t d f l : Int) (ht : t = 1 ∨ t = 2 ∨ t = 3) (hd : 0 ≤ d ∧ d ≤ 8) (hf : 0 ≤ f ∧ f ≤ 12) (hl : 0 ≤ l ∧ l ≤ 12) (hz : f = 0 ↔ d = 0) :
    rwd (gL t) (now t d f ++ ltr t f l) = (d, f, l) ∧ idx (now t d f ++ ltr t f l ++ [46, 32]) [46, 32] = some (now t d f ++ ltr t f l).length := by
  obtain ⟨d', rfl⟩ : ∃ x : Nat, d = x := ⟨d.toNat, by omega⟩
  obtain ⟨f', rfl⟩ : ∃ x : Nat, f = x := ⟨f.toNat, by omega⟩
  obtain ⟨l', rfl⟩ : ∃ x : Nat, l = x := ⟨l.toNat, by omega⟩
  have hz' : f' = 0 ↔ d' = 0 := by omega
  rcases ht with rfl | rfl | rfl
  · exact winds1 ⟨d', by omega⟩ ⟨f', by omega⟩ ⟨l', by omega⟩ hz'
  · exact winds2 ⟨d', by omega⟩ ⟨f', by omega⟩ ⟨l', by omega⟩ hz'
  · exact winds3 ⟨d', by omega⟩ ⟨f', by omega⟩ ⟨l', by omega⟩ hz'
theorem rains (t r p : Int) (ht : t = 1 ∨ t = 2 ∨ t = 3) (hr : 0 ≤ r ∧ r ≤ 3) (hp : 0 ≤ p ∧ p ≤ 100) (hz : p = 0 ↔ r = 0) : rrn (gL t) (rtx t r p) 3 = (r, p) := by
  obtain ⟨r', rfl⟩ : ∃ x : Nat, r = x := ⟨r.toNat, by omega⟩
  obtain ⟨p', rfl⟩ : ∃ x : Nat, p = x := ⟨p.toNat, by omega⟩
  have hz' : p' = 0 ↔ r' = 0 := by omega
  rcases ht with rfl | rfl | rfl
  · exact rains1 ⟨r', by omega⟩ ⟨p', by omega⟩ hz'
  · exact rains2 ⟨r', by omega⟩ ⟨p', by omega⟩ hz'
  · exact rains3 ⟨r', by omega⟩ ⟨p', by omega⟩ hz'
theorem trim_dot (x : List UInt8) : Lib.trimSuffix (x ++ [46]) [46] = x := by
  unfold Lib.trimSuffix Lib.hasSuffix
  have : ([46] : List UInt8).isSuffixOf (x ++ [46]) = true := by rw [List.isSuffixOf_iff_suffix]; exact List.suffix_append _ _
  rw [if_pos this]
  simp
/-- what a text says in a tongue -/
def rdp (t : Int) (x : List UInt8) : Int × Int × Int × Int × Int := ((rwd (gL t) (cutp x [46, 32]).1).1, (rwd (gL t) (cutp x [46, 32]).1).2.1, (rwd (gL t) (cutp x [46, 32]).1).2.2, (rrn (gL t) (Lib.trimSuffix (cutp x [46, 32]).2.1 [46]) 3).1, (rrn (gL t) (Lib.trimSuffix (cutp x [46, 32]).2.1 [46]) 3).2)
theorem cut_phr (t d f l r p : Int) (h : idx (now t d f ++ ltr t f l ++ [46, 32]) [46, 32] = some (now t d f ++ ltr t f l).length) : cutp (phr t d f l r p) [46, 32] = (now t d f ++ ltr t f l, rtx t r p ++ [46], true) := by
  have e : phr t d f l r p = (now t d f ++ ltr t f l ++ [46, 32]) ++ (rtx t r p ++ [46]) := by unfold phr; simp [List.append_assoc]
  have h2 := idx_ext [46, 32] (rtx t r p ++ [46]) _ _ h (by simp; omega)
  unfold cutp
  rw [e, h2]
  have e2 : (now t d f ++ ltr t f l ++ [46, 32]) ++ (rtx t r p ++ [46]) = (now t d f ++ ltr t f l) ++ ([46, 32] ++ (rtx t r p ++ [46])) := by simp [List.append_assoc]
  simp only
  rw [e2, List.take_left]
  congr 2
  rw [← List.drop_drop, List.drop_left]
  rfl
/-- what was said is read back -/
theorem read_back (t d f l r p : Int) (ht : t = 1 ∨ t = 2 ∨ t = 3) (hd : 0 ≤ d ∧ d ≤ 8) (hf : 0 ≤ f ∧ f ≤ 12) (hl : 0 ≤ l ∧ l ≤ 12) (hz : f = 0 ↔ d = 0) (hr : 0 ≤ r ∧ r ≤ 3) (hp : 0 ≤ p ∧ p ≤ 100) (hy : p = 0 ↔ r = 0) : rdp t (phr t d f l r p) = (d, f, l, r, p) := by
  obtain ⟨w1, w2⟩ := winds t d f l ht hd hf hl hz
  unfold rdp
  rw [cut_phr t d f l r p w2]
  simp only
  rw [w1, trim_dot, rains t r p ht hr hp hy]
end Go.Proofs.YtnbhfjcpimdnlaaDoor.Ph
