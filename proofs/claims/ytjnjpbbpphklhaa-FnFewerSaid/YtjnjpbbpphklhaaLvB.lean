/- Lists of levels copied. -/
import Derived.Test.YtjnjpbbpphklhaaLvA
namespace Go.Proofs.Ytjnjpbbpphklhaa.Flt
open Go.ChangeShapes Go.WideShapes Go.ChangeAt Go.RowKit
attribute [local go_sem] run_store_float

theorem row_below {B : Nat} {e : TypeId} {k : Nat} {v : Value} {n : Nat} {xs : List Value} {w w' : World} (h : w.ownsRow B e k v n xs) (hb : Below w.heap.size w w') : w'.ownsRow B e k v n xs := by
  refine ⟨h.1, ?_⟩
  rcases h.2 with h2 | ⟨g, cap, cur, h1, h2, h3, h4⟩
  · exact .inl h2
  · have hg : g < w.heap.size := by
      rcases Nat.lt_or_ge g w.heap.size with x | x
      · exact x
      · rw [Array.getElem?_eq_none x] at h3; cases h3
    exact .inr ⟨g, cap, cur, h1, h2, (hb.block g hg).trans h3, h4⟩

theorem Try.info32 : (Try.prog.info? 32).map (fun i => (i.zero, i.size, i.bytes)) = some (some (.agg #[.int .i64 0, .float .f64 0]), 2, 16) := by kernel_rfl
/-- The first j levels stand in the row. -/
def Good (xs : List Value) (L : Lv) (j : Nat) : Prop := ∀ i, i < j → xs[i * 2]? = some (.int .i64 (pOf L i)) ∧ xs[i * 2 + 1]? = some (.float .f64 (tOf L i))
theorem Good.next {xs : List Value} {L : Lv} {j : Nat} (h : Good xs L j) (hl : j * 2 + 1 < xs.length) : Good ((xs.set (j * 2) (.int .i64 (pOf L j))).set (j * 2 + 1) (.float .f64 (tOf L j))) L (j + 1) := by
  intro i hi
  by_cases e : i = j
  · subst e
    constructor
    · rw [List.getElem?_set_ne (by omega), List.getElem?_set_self (by omega)]
    · rw [List.getElem?_set_self (by simp; omega)]
  · rw [List.getElem?_set_ne (by omega), List.getElem?_set_ne (by omega), List.getElem?_set_ne (by omega), List.getElem?_set_ne (by omega)]
    exact h i (by omega)
theorem reads_of_row {w : World} {base g : Nat} {xs : List Value} {L : Lv} (h : w.ownsRow base 32 2 (.slice (some ⟨g, 0, none⟩) L.length L.length) L.length xs) (hg : Good xs L L.length) (hm : L.length ≤ maxLen) : Reads w (.slice (some ⟨g, 0, none⟩) L.length L.length) L := by
  refine Or.inr ⟨g, 0, L.length, rfl, Nat.le_refl _, hm, (h.lt g rfl).2, fun i hi => ?_⟩
  rw [Nat.zero_add, h.cellAt (i * 2) (by omega), h.cellAt (i * 2 + 1) (by omega)]
  exact hg i hi

end Go.Proofs.Ytjnjpbbpphklhaa.Flt
