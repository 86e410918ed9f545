/- The model's stamp of a date. -/
import Derived.Test.YtjnkeeedoffdkaaDoorDec
import Derived.Deep.RegionWith
import Derived.Deep.RegionHeld3
import Derived.Deep.DrawnRows
import Derived.Deep.Cut
import Derived.Deep.DeepCutAuto
import Derived.Deep.DeepMust
namespace Go.Proofs.YtjnkeeedoffdkaaDoor.Dec
open Go.ChangeShapes Go.WideShapes Go.ChangeAt Go.RowKit

abbrev p4 (n : Nat) : List UInt8 := pad 4 (Lib.decDigits n)
abbrev p2 (n : Nat) : List UInt8 := pad 2 (Lib.decDigits n)
/-- The stamp of a date. -/
def stampOf (Y M D h m : Nat) : List UInt8 := p4 Y ++ [45] ++ p2 M ++ [45] ++ p2 D ++ [84] ++ p2 h ++ [58] ++ p2 m ++ [90]

attribute [local go_sem ↓] Go.wp_at_zero Go.wp_at_succ

abbrev D5 (Y M D h m : Nat) : Obj := .cells #[.int .i64 Y, .int .i64 M, .int .i64 D, .int .i64 h, .int .i64 m] 26

theorem keep5 {w w' : World} {g Y M D h m : Nat} (hb : Below w.heap.size w w') (hg : g < w.heap.size) (h0 : w.cell? ⟨g, 0, none⟩ = some (.int .i64 Y)) (h1 : w.cell? ⟨g, 1, none⟩ = some (.int .i64 M)) (h2 : w.cell? ⟨g, 2, none⟩ = some (.int .i64 D)) (h3 : w.cell? ⟨g, 3, none⟩ = some (.int .i64 h)) (h4 : w.cell? ⟨g, 4, none⟩ = some (.int .i64 m)) :
    w'.cell? ⟨g, 0, none⟩ = some (.int .i64 Y) ∧ w'.cell? ⟨g, 1, none⟩ = some (.int .i64 M) ∧ w'.cell? ⟨g, 2, none⟩ = some (.int .i64 D) ∧ w'.cell? ⟨g, 3, none⟩ = some (.int .i64 h) ∧ w'.cell? ⟨g, 4, none⟩ = some (.int .i64 m) ∧ g < w'.heap.size :=
  ⟨(hb.cell (p := ⟨g, 0, none⟩) hg).trans h0, (hb.cell (p := ⟨g, 1, none⟩) hg).trans h1, (hb.cell (p := ⟨g, 2, none⟩) hg).trans h2, (hb.cell (p := ⟨g, 3, none⟩) hg).trans h3, (hb.cell (p := ⟨g, 4, none⟩) hg).trans h4, Nat.lt_of_lt_of_le hg hb.size⟩

theorem dec_len2 (n : Nat) (h : n ≤ 99) : (Lib.decDigits n).length ≤ 2 := by
  by_cases c : n < 10
  · rw [Lib.decDigits_one c]; simp
  · rw [Lib.decDigits_two c (by omega)]; simp
theorem dec_len4 (n : Nat) (h : n ≤ 9999) : (Lib.decDigits n).length ≤ 4 := by
  by_cases c : n < 10
  · rw [Lib.decDigits_one c]; simp
  · rw [Lib.decDigits, dif_neg c]
    by_cases c2 : n / 10 < 10
    · rw [Lib.decDigits_one c2]; simp
    · rw [Lib.decDigits, dif_neg c2]
      have := dec_len2 (n / 10 / 10) (by omega)
      simp
      omega
theorem pad_len (k : Nat) (l : List UInt8) (h : l.length ≤ k) : (pad k l).length = k := by
  unfold pad
  simp
  omega

end Go.Proofs.YtjnkeeedoffdkaaDoor.Dec
