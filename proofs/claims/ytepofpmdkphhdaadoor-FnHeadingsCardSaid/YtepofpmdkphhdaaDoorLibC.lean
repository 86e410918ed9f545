/- The library's contracts, as the stamp asks for them. -/
import Derived.Test.YtepofpmdkphhdaaDoorShelf
import Derived.Test.YtepofpmdkphhdaaDoorPadI
import Derived.Lib.AppendIntMem
import Derived.Lib.ItoaMem
namespace Go.Proofs.YtepofpmdkphhdaaDoor.Dec
open Go.ChangeShapes Go.WideShapes Go.ChangeAt Go.RowKit

theorem rep_one (c : Nat) : Lib.repeatL [48] c = List.replicate c (48 : UInt8) := by
  induction c with
  | zero => rfl
  | succ k ih => rw [Lib.repeatL, ih, List.replicate_succ]; rfl

theorem join_none (xs : List (List UInt8)) : Lib.join xs [] = xs.flatten := by
  unfold Lib.join
  induction xs with
  | nil => rfl
  | cons x r ih =>
    cases r with
    | nil => simp [List.intercalate]
    | cons y s =>
      simp [List.intercalate, List.intersperse] at ih ⊢
      exact ih

theorem libC (T : World → Prop) (hk : ∀ w w', T w → Below w.heap.size w w' → T w') (ht : ∀ w, T w → Lib.TabIs Tryd.prog w "internal/strconv.uint64pow10" .u64 Lib.pow10Tab) : LibC T where
  keep := hk
  fmt := by
    intro n w hn hT
    refine (Tryd.strconv_FormatInt_10 n (by omega) (by omega) w (ht w hT)).mono ?_
    rintro e w' ⟨rfl, k, os, rfl⟩
    exact ⟨by rw [Lib.itoa_nonneg], Lib.below_grow _ _ (Nat.le_refl _) _ _⟩
  rep := by
    intro c w hc
    refine (Tryd.strings_Repeat ⟨#[48]⟩ c w (by omega) (by simp [ByteArray.size]; omega)).mono ?_
    rintro e w' ⟨rfl, hb⟩
    exact ⟨by rw [← rep_one], hb⟩
  join := by
    intro bk c xs w h1 h2 h3 h4 h5
    have e : (List.map (fun x : ByteArray => x.data.toList) (xs.map fun x => (⟨x.toArray⟩ : ByteArray))) = xs := by
      rw [List.map_map]
      conv => rhs; rw [← List.map_id xs]
      exact List.map_congr_left fun x _ => by simp
    have hj := Tryd.strings_Join bk 0 c (xs.map fun x => (⟨x.toArray⟩ : ByteArray)) ⟨#[]⟩ w (by
      intro j x hx
      rw [List.getElem?_map] at hx
      cases hq : xs[j]? with
      | none => rw [hq] at hx; cases hx
      | some y =>
        rw [hq] at hx
        cases hx
        have := h1 j y hq
        simpa using this) h2 (by simp; omega) (by simpa using h4) (by rw [e]; show (Lib.join xs []).length ≤ _; rw [join_none]; omega)
    rw [e, List.length_map] at hj
    refine hj.mono ?_
    rintro e w' ⟨rfl, hb⟩
    refine ⟨?_, hb⟩
    show Ending.returned (.string ⟨(Lib.join xs []).toArray⟩) = _
    rw [join_none]
end Go.Proofs.YtepofpmdkphhdaaDoor.Dec
