/- What is empty struck from a list of four. -/
import Derived.Test.YtkegllbedejkgaaDoorShelfD
import Derived.Test.YtkegllbedejkgaaDoorQp
namespace Go.Proofs.YtkegllbedejkgaaDoor.Ix
open Go.ChangeShapes Go.WideShapes Go.ChangeAt Go.RowKit Go.Sort Go.Lib
def enB (x : List UInt8) : Value := .string ⟨x.toArray⟩
set_option maxHeartbeats 400000 in
theorem gives24 (x : List UInt8) (W : World) : FnGives Tryd.prog 24 #[] #[enB x] (.bool x.isEmpty) W := by
  show Calls Tryd.prog 24 #[.string ⟨x.toArray⟩] W _
  go_enter Tryd.func24, Tryd.ntmps24
  go_wp2_with fail
  go_ret
  exact ⟨by rfl, 0, rfl⟩
/-- what is not empty -/
def kept (D : List (List UInt8)) : List (List UInt8) := D.filter fun x => !x.isEmpty
theorem below_row (w : World) (q b : Nat) (d : Array (List UInt8)) : Below b w (putRow enB (Sort.ahead w q) b 0 d) :=
  ⟨rfl, rfl, rfl, by rw [size_putRow]; exact Nat.le_refl _, fun j hj => by
    have hne : b ≠ j := by omega
    show (putRow enB (Sort.ahead w q) b 0 d).heap[j]? = _
    simp [putRow, mapBlock, Array.getElem?_modify, hne]⟩
theorem idel_any (b : Nat) (D : List (List UInt8)) (w : World) (hl : D.length ≤ 40) (hb : b < w.heap.size) (hH : Sort.Holds enB w b 0 D.toArray) :
    Calls Tryd.prog 23 #[.slice (some ⟨b, 0, none⟩) D.length D.length, .func (.func 24) #[] #[]] w fun e w' => e = .returned (.slice (some ⟨b, 0, none⟩) (kept D).length D.length) ∧ Below b w w' ∧ b < w'.heap.size ∧ (∀ (j : Nat) x, (kept D)[j]? = some x → w'.cell? ⟨b, 0 + j, none⟩ = some (enB x)) := by
  have eg : ∀ args w, (callFunc 24 args).run Tryd.prog w = .ok (.enter 24 args) w := enters_of Tryd.func24 (by kernel_rfl) rfl
  have hcon := AnyE.slices_DeleteFunc Tryd.l23 enB (fun _ => rfl) (fun x => x.isEmpty) 24 #[] eg [] Tryd.zeroValue9 b 0 D.length D.toArray w
    (fun W x _ => gives24 x W) (fun n os dk x _ => gives24 x _) hH (by simp; omega) (by simp)
  change Calls Tryd.prog 23 _ _ _ at hcon
  have hle : (kept D).length ≤ D.length := List.length_filter_le _ _
  refine Calls.mono hcon ?_
  rintro e w' ⟨rfl, q, rfl⟩
  refine ⟨rfl, below_row _ _ _ _, by rw [size_putRow]; exact hb, fun j x hx => ?_⟩
  have hj : j < (kept D).length := by rw [List.getElem?_eq_some_iff] at hx; obtain ⟨h1, _⟩ := hx; exact h1
  have hs : (kept D ++ List.replicate (D.toArray.size - (kept D).length) []).toArray.size = D.toArray.size := by simp; omega
  have := cell?_putRow enB (Sort.ahead w q) b 0 D.toArray (kept D ++ List.replicate (D.toArray.size - (kept D).length) []).toArray (fun i hi => hH i hi) hs j (by rw [hs]; simp; omega)
  refine this.trans ?_
  congr 2
  have e1 : (kept D ++ List.replicate (D.toArray.size - (kept D).length) [])[j]? = some x := by rw [List.getElem?_append_left hj]; exact hx
  rw [getElem!_def]
  simp only [List.getElem?_toArray, e1]
end Go.Proofs.YtkegllbedejkgaaDoor.Ix
