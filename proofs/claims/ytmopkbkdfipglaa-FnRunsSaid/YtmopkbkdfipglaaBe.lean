/- bytes.Equal; two lists of bytes told as strings. -/
import Derived.Test.YtmopkbkdfipglaaRd2
import Derived.Laws.BytesArg
import Derived.Laws.BytesString
namespace Go.Proofs.Ytmopkbkdfipglaa.Lists
open Go.ChangeShapes Go.WideShapes Go.ChangeAt Go.RowKit
open Go.Proofs.Ytmopkbkdfipglaa.Bytes (bys)

def stB (D : List Int) : ByteArray := ⟨(D.map fun n => UInt8.ofNat n.toNat).toArray⟩
theorem stB_list (D : List Int) : (stB D).toList = D.map fun n => UInt8.ofNat n.toNat := by
  unfold stB
  simp
theorem stB_eq {X D : List Int} (hX : By X) (hD : By D) : ((stB X).toList == (stB D).toList) = decide (X = D) := by
  rw [stB_list, stB_list]
  by_cases e : X = D
  · subst e; simp
  · simp only [e, decide_false]
    apply beq_eq_false_iff_ne.2
    intro h2
    apply e
    have hl : X.length = D.length := by simpa using congrArg List.length h2
    refine List.ext_getElem hl fun i h1 h3 => ?_
    have h4 := congrArg (fun l => l[i]?) h2
    simp only [List.getElem?_map, List.getElem?_eq_getElem h1, List.getElem?_eq_getElem h3, Option.map_some, Option.some.injEq] at h4
    have b1 := hX _ (List.getElem_mem h1)
    have b2 := hD _ (List.getElem_mem h3)
    have h5 := congrArg UInt8.toNat h4
    simp at h5
    omega
theorem conv_any (w : World) (v : Value) (D : List Int) (h : Bytes.Reads w v D) : (convert 23 9 v).run Try.prog w = .ok (.string (stB D)) w := by
  rcases h with ⟨rfl, a, cap, rfl⟩ | ⟨b, o, cap, rfl, h1, h2, h3, h4⟩
  · rw [run_convert_bytes_string w 23 9 5 a 0 cap Try.underlying23 Try.underlying5 Try.underlying9]
    cases a <;> simp [Conv.bytesToString, go_sem, loadCells] <;> rfl
  · exact run_convert_bytes_arg (P := Try.prog) w 23 5 Try.underlying23 Try.underlying5 b o D.length cap D rfl h4 9 Try.underlying9

set_option maxHeartbeats 1000000 in
theorem iequal_any (w : World) (v1 v2 : Value) (X D : List Int) (h1 : Bytes.Reads w v1 X) (h2 : Bytes.Reads w v2 D) (hX : By X) (hD : By D) :
    Calls Try.prog 69 #[v1, v2] w fun e w' => e = .returned (.bool (decide (X = D))) ∧ w' = w := by
  have k1 := conv_any w v1 X h1
  have k2 := conv_any w v2 D h2
  have k3 := stB_eq hX hD
  obtain ⟨r, hr⟩ : ∃ r, r = decide (X = D) := ⟨_, rfl⟩
  rw [← hr] at k3 ⊢
  obtain ⟨A, hA⟩ : ∃ A, A = stB X := ⟨_, rfl⟩
  obtain ⟨B, hB⟩ : ∃ B, B = stB D := ⟨_, rfl⟩
  rw [← hA] at k1 k3
  rw [← hB] at k2 k3
  obtain ⟨a1, c1, e1⟩ := h1.form
  obtain ⟨a2, c2, e2⟩ := h2.form
  obtain ⟨n1, hn1⟩ : ∃ n, n = X.length := ⟨_, rfl⟩
  obtain ⟨n2, hn2⟩ : ∃ n, n = D.length := ⟨_, rfl⟩
  rw [← hn1] at e1
  rw [← hn2] at e2
  subst e1 e2
  clear h1 h2 hX hD hr hA hB hn1 hn2
  go_enter Try.func69, Try.ntmps69
  go_wp2_with fail
  go_ret
  exact ⟨by first | rfl | rw [k3], rfl⟩
end Go.Proofs.Ytmopkbkdfipglaa.Lists
