/- Texts joined, numbers told; what a lexicon says of wind and rain. -/
import Derived.Test.YtnbhfjcpimdnlaaDoorDec
import Derived.Test.YtnbhfjcpimdnlaaDoorShelf
import Derived.Lib.AppendIntMem
import Derived.Lib.ItoaMem
import Derived.Deep.RegionWith
import Derived.Deep.RegionHeld3
import Derived.Deep.DeepMust
namespace Go.Proofs.YtnbhfjcpimdnlaaDoor.Ph
open Go.ChangeShapes Go.WideShapes Go.ChangeAt Go.RowKit
def Tb (w : World) : Prop := Lib.TabIs Tryd.prog w "internal/strconv.uint64pow10" .u64 Lib.pow10Tab ∧ (1 < w.heap.size ∧ ∃ m : Int, w.cell? ⟨0, 0, none⟩ = some (.int .i64 m))
theorem gP : Tryd.prog.globalNamed "internal/strconv.uint64pow10" = some 1 := by kernel_rfl
theorem Tb.keep {w w' : World} (h : Tb w) (hb : Below w.heap.size w w') : Tb w' := ⟨var?_below hb gP h.2.1 h.1, Nat.lt_of_lt_of_le h.2.1 hb.size, by
  obtain ⟨m, e⟩ := h.2.2
  exact ⟨m, (hb.cell (p := ⟨0, 0, none⟩) (by have := h.2.1; show 0 < _; omega)).trans e⟩⟩
abbrev dg (n : Nat) : List UInt8 := Lib.decDigits n
theorem fmt_any (n : Nat) (w : World) (hn : n ≤ 1000) (hT : Tb w) : Calls Tryd.prog 41 #[.int .i64 n, .int .i64 10] w fun e w' => e = .returned (.string ⟨(dg n).toArray⟩) ∧ Below w.heap.size w w' := by
  refine (Tryd.strconv_FormatInt_10 n (by omega) (by omega) w hT.1).mono ?_
  rintro e w' ⟨rfl, k, os, rfl⟩
  exact ⟨by rw [Lib.itoa_nonneg], Lib.below_grow _ _ (Nat.le_refl _) _ _⟩
theorem join_none (xs : List (List UInt8)) : Lib.join xs [] = xs.flatten := by
  unfold Lib.join
  induction xs with
  | nil => rfl
  | cons x r ih =>
    cases r with
    | nil => simp [List.intercalate]
    | cons y s =>
      simp [List.intercalate, List.intersperse] at ih ⊢
      exact ih
theorem join_any (bk c : Nat) (xs : List (List UInt8)) (w : World) (h1 : ∀ (j : Nat) x, xs[j]? = some x → w.cell? ⟨bk, j, none⟩ = some (.string ⟨x.toArray⟩)) (h2 : bk < w.heap.size) (h4 : xs.length ≤ c) (h3 : xs.length ≤ 100) (h5 : xs.flatten.length ≤ 100000) :
    Calls Tryd.prog 40 #[.slice (some ⟨bk, 0, none⟩) xs.length c, .string ⟨#[]⟩] w fun e w' => e = .returned (.string ⟨xs.flatten.toArray⟩) ∧ Below w.heap.size w w' := by
  have e : (List.map (fun x : ByteArray => x.data.toList) (xs.map fun x => (⟨x.toArray⟩ : ByteArray))) = xs := by
    rw [List.map_map]
    conv => rhs; rw [← List.map_id xs]
    exact List.map_congr_left fun x _ => by simp
  have hj := Tryd.strings_Join bk 0 c (xs.map fun x => (⟨x.toArray⟩ : ByteArray)) ⟨#[]⟩ w (by
    intro j x hx
    rw [List.getElem?_map] at hx
    cases hq : xs[j]? with
    | none => rw [hq] at hx; cases hx
    | some y =>
      rw [hq] at hx
      cases hx
      have := h1 j y hq
      simpa using this) h2 (by simp; omega) (by simpa using h4) (by rw [e]; show (Lib.join xs []).length ≤ _; rw [join_none]; omega)
  rw [e, List.length_map] at hj
  refine hj.mono ?_
  rintro e w' ⟨rfl, hb⟩
  refine ⟨?_, hb⟩
  show Ending.returned (.string ⟨(Lib.join xs []).toArray⟩) = _
  rw [join_none]
set_option maxHeartbeats 400000 in
theorem joined_any (bk c n : Nat) (xs : List (List UInt8)) (w : World) (hn : n = xs.length) (h1 : ∀ (j : Nat) x, xs[j]? = some x → w.cell? ⟨bk, j, none⟩ = some (.string ⟨x.toArray⟩)) (h2 : bk < w.heap.size) (h4 : xs.length ≤ c) (h3 : xs.length ≤ 100) (h5 : xs.flatten.length ≤ 100000) :
    Calls Tryd.prog 28 #[.slice (some ⟨bk, 0, none⟩) n c] w fun e w' => e = .returned (.string ⟨xs.flatten.toArray⟩) ∧ Below w.heap.size w w' := by
  subst hn
  have J : Hid (Calls Tryd.prog 40 #[.slice (some ⟨bk, 0, none⟩) xs.length c, .string ⟨#[]⟩] w fun e w' => e = .returned (.string ⟨xs.flatten.toArray⟩) ∧ Below w.heap.size w w') := join_any bk c xs w h1 h2 h4 h3 h5
  clear h1 h2 h3 h4 h5
  go_enter Tryd.func28, Tryd.ntmps28
  go_wp2_with fail
  refine J.out.mono ?_
  rintro e w' ⟨rfl, hb⟩
  have B : Hid (Below w.heap.size w w') := hb
  clear hb
  go_wp2_with fail
  go_ret
  exact ⟨rfl, B.out⟩
theorem three (w : World) (a b c : List UInt8) : ∀ (j : Nat) x, [a, b, c][j]? = some x → (w.alloc (.cells #[.string ⟨a.toArray⟩, .string ⟨b.toArray⟩, .string ⟨c.toArray⟩] 9)).cell? ⟨w.heap.size, j, none⟩ = some (.string ⟨x.toArray⟩) := by
  intro j x hj
  have hj' := (List.getElem?_eq_some_iff.1 hj).1
  simp at hj'
  rcases (by omega : j = 0 ∨ j = 1 ∨ j = 2) with rfl | rfl | rfl
  all_goals
    simp at hj
    subst hj
    simp [go_sem]
theorem four (w : World) (a b c d : List UInt8) : ∀ (j : Nat) x, [a, b, c, d][j]? = some x → (w.alloc (.cells #[.string ⟨a.toArray⟩, .string ⟨b.toArray⟩, .string ⟨c.toArray⟩, .string ⟨d.toArray⟩] 9)).cell? ⟨w.heap.size, j, none⟩ = some (.string ⟨x.toArray⟩) := by
  intro j x hj
  have hj' := (List.getElem?_eq_some_iff.1 hj).1
  simp at hj'
  rcases (by omega : j = 0 ∨ j = 1 ∨ j = 2 ∨ j = 3) with rfl | rfl | rfl | rfl
  all_goals
    simp at hj
    subst hj
    simp [go_sem]
/-- three texts joined, of a row that is made on the spot -/
theorem join3 (a b c : List UInt8) (w : World) (h : a.length + b.length + c.length ≤ 5000) : Calls Tryd.prog 28 #[.slice (some ⟨w.heap.size, 0, none⟩) 3 3] (w.alloc (.cells #[.string ⟨a.toArray⟩, .string ⟨b.toArray⟩, .string ⟨c.toArray⟩] 9)) fun e w' => e = .returned (.string ⟨(a ++ b ++ c).toArray⟩) ∧ Below (w.alloc (.cells #[.string ⟨a.toArray⟩, .string ⟨b.toArray⟩, .string ⟨c.toArray⟩] 9)).heap.size (w.alloc (.cells #[.string ⟨a.toArray⟩, .string ⟨b.toArray⟩, .string ⟨c.toArray⟩] 9)) w' := by
  have := joined_any w.heap.size 3 3 [a, b, c] _ rfl (three w a b c) (by simp) (by simp) (by simp) (by simp; omega)
  simpa [List.append_assoc] using this
theorem join4 (a b c d : List UInt8) (w : World) (h : a.length + b.length + c.length + d.length ≤ 5000) : Calls Tryd.prog 28 #[.slice (some ⟨w.heap.size, 0, none⟩) 4 4] (w.alloc (.cells #[.string ⟨a.toArray⟩, .string ⟨b.toArray⟩, .string ⟨c.toArray⟩, .string ⟨d.toArray⟩] 9)) fun e w' => e = .returned (.string ⟨(a ++ b ++ c ++ d).toArray⟩) ∧ Below (w.alloc (.cells #[.string ⟨a.toArray⟩, .string ⟨b.toArray⟩, .string ⟨c.toArray⟩, .string ⟨d.toArray⟩] 9)).heap.size (w.alloc (.cells #[.string ⟨a.toArray⟩, .string ⟨b.toArray⟩, .string ⟨c.toArray⟩, .string ⟨d.toArray⟩] 9)) w' := by
  have := joined_any w.heap.size 4 4 [a, b, c, d] _ rfl (four w a b c d) (by simp) (by simp) (by simp) (by simp; omega)
  simpa [List.append_assoc] using this
end Go.Proofs.YtnbhfjcpimdnlaaDoor.Ph
