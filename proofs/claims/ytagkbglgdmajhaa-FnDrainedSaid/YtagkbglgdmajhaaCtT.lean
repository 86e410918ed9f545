/- Catch and OutletOf: the model's answers. -/
import Derived.Test.YtagkbglgdmajhaaCtS
namespace Go.Proofs.Ytagkbglgdmajhaa.Ct
open Go.ChangeShapes Go.WideShapes Go.ChangeAt Go.RowKit
open Go.Proofs.Ytagkbglgdmajhaa.Lists

def cat (N : List Int) : List Int := if okN N then (List.range N.length).map (F N) else []
theorem cat_len (N : List Int) : (cat N).length ≤ 1000 := by
  unfold cat
  cases h : okN N
  · simp
  · have := ((ok_iff N).1 h).1
    simp
    omega
theorem row_get {w : World} {B g n : Nat} {cap : Nat} {O : List Int} (R : w.ownsRow B 2 1 (.slice (some ⟨g, 0, none⟩) n cap) n (ints O)) (hO : O.length = n) (x : Nat) (hx : x < n) : w.cell? ⟨g, x, none⟩ = some (.int .i64 (O.getD x 0)) := by
  subst hO
  exact row_cell R x hx
theorem row_put {w : World} {B g n : Nat} {cap : Nat} {O : List Int} (R : w.ownsRow B 2 1 (.slice (some ⟨g, 0, none⟩) n cap) n (ints O)) (x : Nat) (z : Int) : (w.setCell ⟨g, x, none⟩ (.int .i64 z)).ownsRow B 2 1 (.slice (some ⟨g, 0, none⟩) n cap) n (ints (O.set x z)) := by
  rw [← Lists.ints_set]
  exact (R.stored x _).1
theorem row_all {w : World} {B n : Nat} {v : Value} {O X : List Int} (R : w.ownsRow B 2 1 v n (ints O)) (hO : O.length = n) (hX : X.length = n) (h : ∀ x, x < n → O.getD x 0 = X.getD x 0) : w.ownsRow B 2 1 v X.length (ints X) := by
  have : O = X := list_eq (by omega) (fun x hx => h x (by omega))
  subst this
  rw [hX]
  exact R
def zeros (n : Nat) : List Int := (List.range n).map fun _ => 0
theorem zeros_len (n : Nat) : (zeros n).length = n := by simp [zeros]
theorem zeros_get (n x : Nat) : (zeros n).getD x 0 = 0 := by
  unfold zeros
  by_cases h : x < n
  · simp [List.getD_eq_getElem?_getD, h]
  · rw [List.getD_eq_getElem?_getD, List.getElem?_eq_none (by simp; omega)]; rfl
theorem zeros_made (n : Nat) : (madeCells (Value.int .i64 0).cells (n * 1)).toList = ints (zeros n) := by
  apply List.ext_getElem
  · simp [madeCells, ints, zeros]
  · intro i h1 h2
    simp [madeCells, ints, zeros, Value.cells, Nat.mod_one]
theorem map_get (f : Nat → Int) (n x : Nat) (hx : x < n) : ((List.range n).map f).getD x 0 = f x := by simp [List.getD_eq_getElem?_getD, hx]

def rest (N : List Int) (a : Int) (x : Nat) : Int := if a < 0 then 0 else cn x (pth N a.toNat)
def msr (N : List Int) (a : Int) : Nat := if a < 0 then 0 else (pth N a.toNat).length

def outl (N : List Int) (c : Int) : Int := if okN N && inn c 0 ((N.length : Int) - 1) then la N c.toNat else -1
end Go.Proofs.Ytagkbglgdmajhaa.Ct
