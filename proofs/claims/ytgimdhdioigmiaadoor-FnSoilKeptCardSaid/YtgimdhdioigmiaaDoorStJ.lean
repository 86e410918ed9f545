/- The text of a soil: the program, whole. -/
import Derived.Test.YtgimdhdioigmiaaDoorStI
namespace Go.Proofs.YtgimdhdioigmiaaDoor.So
open Go.ChangeShapes Go.WideShapes Go.ChangeAt Go.RowKit
open Go.Proofs.YtgimdhdioigmiaaDoor.Dec

def wc (xs : List Int) (k : Nat) : Array Value := ((List.range 5).map fun j => if j < k then Value.string ⟨(dd (xs.getD j 0)).toArray⟩ else Value.string ⟨#[]⟩).toArray
theorem wc_set (xs : List Int) (k : Nat) : (wc xs k).setIfInBounds k (.string ⟨(dd (xs.getD k 0)).toArray⟩) = wc xs (k + 1) := by
  unfold wc
  rw [List.setIfInBounds_toArray]
  congr 1
  apply List.ext_getElem
  · simp
  · intro i h1 h2
    simp only [List.getElem_set, List.getElem_map, List.getElem_range]
    by_cases e : k = i
    · subst e
      simp
    · rw [if_neg e]
      by_cases q : i < k
      · rw [if_pos q, if_pos (by omega)]
      · rw [if_neg q, if_neg (by omega)]
theorem wc_get (xs : List Int) (k j : Nat) (h : j < 5) : (wc xs k)[j]? = some (if j < k then Value.string ⟨(dd (xs.getD j 0)).toArray⟩ else Value.string ⟨#[]⟩) := by
  simp [wc, h]
set_option maxRecDepth 100000 in
theorem pick (a b c d f : Int) (k : Nat) (hk : k < 5) : ∀ w, (Instr.index 44 (sv a b c d f) (.int .i64 (k : Int))).run Tryd.prog w = .ok (.int .i64 ([a, b, c, d, f].getD k 0)) w := by
  have : k = 0 ∨ k = 1 ∨ k = 2 ∨ k = 3 ∨ k = 4 := by omega
  rcases this with rfl | rfl | rfl | rfl | rfl
  · exact fun _ => by kernel_rfl
  · exact fun _ => by kernel_rfl
  · exact fun _ => by kernel_rfl
  · exact fun _ => by kernel_rfl
  · exact fun _ => by kernel_rfl

set_option maxHeartbeats 400000 in
theorem itext_yes (a b c d f : Int) (w : World) (hT : Tb w) (h : okB a b c d f = true) : Calls Tryd.prog 9 #[sv a b c d f] w fun e w' => e = .returned (.string ⟨(tx a b c d f).toArray⟩) ∧ Below w.heap.size w w' := by
  have C := iok_any a b c d f
  rw [h] at C
  have HC : Hid (∀ w, Calls Tryd.prog 15 #[sv a b c d f] w fun e w' => e = .returned (.bool true) ∧ Below w.heap.size w w') := C
  obtain ⟨p1, p2, p3, p4, p5, p6⟩ := okB_parts h
  have HT : Hid (Tb w) := hT
  clear C h p6 hT
  go_enter Tryd.func9, Tryd.ntmps9
  go_wp2_with fail
  refine (HC.out _).mono ?_
  rintro e w1 ⟨rfl, hb⟩
  have B1 : Hid (Below w.heap.size w w1) := ((Below.refl _ _).alloc (Nat.le_refl _) _).trans (hb.mono (by simp))
  have z1 : w.heap.size < w1.heap.size := (by have := hb.size; simp at this; omega)
  have c0 : w1.cell? ⟨w.heap.size, 0, none⟩ = some (.int .i64 a) := (hb.cell (p := ⟨w.heap.size, 0, none⟩) (by simp)).trans (by simp [go_sem])
  have c1 : w1.cell? ⟨w.heap.size, 1, none⟩ = some (.int .i64 b) := (hb.cell (p := ⟨w.heap.size, 1, none⟩) (by simp)).trans (by simp [go_sem])
  have c2 : w1.cell? ⟨w.heap.size, 2, none⟩ = some (.int .i64 c) := (hb.cell (p := ⟨w.heap.size, 2, none⟩) (by simp)).trans (by simp [go_sem])
  have c3 : w1.cell? ⟨w.heap.size, 3, none⟩ = some (.int .i64 d) := (hb.cell (p := ⟨w.heap.size, 3, none⟩) (by simp)).trans (by simp [go_sem])
  have c4 : w1.cell? ⟨w.heap.size, 4, none⟩ = some (.int .i64 f) := (hb.cell (p := ⟨w.heap.size, 4, none⟩) (by simp)).trans (by simp [go_sem])
  clear hb HC
  go_wp2_with fail
  generalize hU : w1.alloc _ = U
  have zU : U.heap.size = w1.heap.size + 1 := by rw [← hU]; exact World.size_alloc _ _
  have BU : Below w1.heap.size w1 U := by rw [← hU]; exact (Below.refl _ _).alloc (Nat.le_refl _) _
  clear hU
  generalize hV : U.alloc _ = V
  have HV : Hid (U.alloc (.cells (wc [a, b, c, d, f] 0) 49) = V) := hV
  clear hV
  have R0 : Hid (V.heap[w1.heap.size + 1]? = some (.cells (wc [a, b, c, d, f] 0) 49 (0, 0))) := (by
    show _ = _
    rw [← HV.out, ← zU]
    exact heap_alloc_new U _)
  have B0 : Hid (Below w1.heap.size w1 V) := (by rw [← HV.out]; exact BU.trans ((Below.refl _ _).alloc (by omega) _))
  have z0 : Hid (w1.heap.size + 1 < V.heap.size) := (by rw [← HV.out]; show _ < _; rw [World.size_alloc]; omega)
  clear BU zU
  have PX : Hid (∀ k, k < 5 → 0 ≤ [a, b, c, d, f].getD k 0 ∧ [a, b, c, d, f].getD k 0 ≤ 1000000000000) := (by
    show ∀ k, _
    intro k hk
    have : k = 0 ∨ k = 1 ∨ k = 2 ∨ k = 3 ∨ k = 4 := by omega
    rcases this with rfl | rfl | rfl | rfl | rfl <;> simp <;> omega)
  clear HV c0 c1 c2 c3 c4 p1 p2 p3 p4 p5
  go_loopw [22] (fun i wr => ∃ k : Nat, k ≤ 5 ∧ i = .int .i64 k ∧ Hid (wr.heap[w1.heap.size + 1]? = some (.cells (wc [a, b, c, d, f] k) 49 (0, 0))) ∧ Hid (w1.heap.size + 1 < wr.heap.size) ∧ Hid (Below w1.heap.size w1 wr)) (fun i _ => 5 - (intOf i).toNat)
  case atStart => exact ⟨0, by omega, rfl, R0, z0, B0⟩
  case round =>
    obtain ⟨k, hk, rfl, R, Z, BB⟩ := hrel
    clear R0 B0 z0
    by_cases hlt : k < 5
    · have i2 : (k : Int) < 5 := by omega
      have j1 : (0 : Int) ≤ (k : Int) := by omega
      have hix := pick a b c d f k hlt
      have px := PX.out k hlt
      have F : Hid (∀ w', Below w1.heap.size w1 w' → Calls Tryd.prog 22 #[.int .i64 ([a, b, c, d, f].getD k 0), .int .i64 10] w' fun e w2 => e = .returned (.string ⟨(dd ([a, b, c, d, f].getD k 0)).toArray⟩) ∧ Below w'.heap.size w' w2) := fun w' hb => fmt px.1 px.2 ((HT.out.keep B1.out).keep hb)
      have WS := wc_set [a, b, c, d, f] k
      have HWS : Hid ((wc [a, b, c, d, f] k).setIfInBounds k (.string ⟨(dd ([a, b, c, d, f].getD k 0)).toArray⟩) = wc [a, b, c, d, f] (k + 1)) := WS
      clear WS
      generalize [a, b, c, d, f].getD k 0 = x at *
      go_wp2_with fail
      refine (F.out _ BB.out).mono ?_
      rintro e w2 ⟨rfl, hb⟩
      have R2 : w2.heap[w1.heap.size + 1]? = some (.cells (wc [a, b, c, d, f] k) 49 (0, 0)) := (hb.block _ Z.out).trans R.out
      have q1 : w2.cell? ⟨w1.heap.size + 1, k, none⟩ = some (if k < k then Value.string ⟨(dd ([a, b, c, d, f].getD k 0)).toArray⟩ else Value.string ⟨#[]⟩) := (by
        rw [cell_of_row w2 _ k _ _ _ R2, wc_get _ _ _ hlt])
      rw [if_neg (by omega)] at q1
      have q2 : w2.frozen? ⟨w1.heap.size + 1, k, none⟩ = false := frozen_of_row w2 _ k _ _ R2
      have RN : Hid ((w2.setCell ⟨w1.heap.size + 1, k, none⟩ (.string ⟨(dd x).toArray⟩)).heap[w1.heap.size + 1]? = some (.cells (wc [a, b, c, d, f] (k + 1)) 49 (0, 0))) := (by
        show _ = _
        rw [heap_setCell_same w2 _ k _ _ _ R2, HWS.out])
      have B2 : Below w1.heap.size w1 w2 := BB.out.trans (hb.mono BB.out.size)
      have BN : Hid (Below w1.heap.size w1 (w2.setCell ⟨w1.heap.size + 1, k, none⟩ (.string ⟨(dd x).toArray⟩))) := B2.setCell (p := ⟨w1.heap.size + 1, k, none⟩) (Nat.le_succ _) _
      have ZN : Hid (w1.heap.size + 1 < (w2.setCell ⟨w1.heap.size + 1, k, none⟩ (.string ⟨(dd x).toArray⟩)).heap.size) := (by
        show _ < _
        have := Z.out
        have := hb.size
        simp
        omega)
      clear R2 B2 hb HWS hix
      go_wp2_with fail
      go_roundw
      case rel => exact ⟨k + 1, by omega, by go_num, RN, ZN, BN⟩
      case measure => simp [intOf]; omega
    · have hkn : k = 5 := by omega
      subst hkn
      have J : Hid (Calls Tryd.prog 23 #[.slice (some ⟨w1.heap.size + 1, 0, none⟩) 5 5, .string ⟨#[32]⟩] wr fun e w' => e = .returned (.string ⟨(tx a b c d f).toArray⟩) ∧ Below wr.heap.size wr w') := (by
        have := Tryd.strings_Join (w1.heap.size + 1) 0 5 ([a, b, c, d, f].map fun x => (⟨(dd x).toArray⟩ : ByteArray)) ⟨#[32]⟩ wr (by
          intro j x hx
          have hj : j < 5 := by have := (List.getElem?_eq_some_iff.1 hx).1; simpa using this
          rw [Nat.zero_add, cell_of_row wr _ j _ _ _ R.out, wc_get _ _ _ hj, if_pos hj]
          have : j = 0 ∨ j = 1 ∨ j = 2 ∨ j = 3 ∨ j = 4 := by omega
          rcases this with rfl | rfl | rfl | rfl | rfl <;> simp at hx <;> subst hx <;> rfl) Z.out (by simp) (by simp) (by
            show (Lib.join [dd a, dd b, dd c, dd d, dd f] [32]).length ≤ _
            rw [join5]
            have h0 := PX.out 0 (by omega)
            have h1 := PX.out 1 (by omega)
            have h2 := PX.out 2 (by omega)
            have h3 := PX.out 3 (by omega)
            have h4 := PX.out 4 (by omega)
            have l0 := dd_len (x := a) h0.1 h0.2
            have l1 := dd_len (x := b) h1.1 h1.2
            have l2 := dd_len (x := c) h2.1 h2.2
            have l3 := dd_len (x := d) h3.1 h3.2
            have l4 := dd_len (x := f) h4.1 h4.2
            simp
            omega)
        refine this.mono ?_
        rintro e w' ⟨rfl, hb⟩
        refine ⟨?_, hb⟩
        show Ending.returned (.string ⟨(Lib.join [dd a, dd b, dd c, dd d, dd f] [32]).toArray⟩) = _
        rw [join5]
        rfl)
      have BE : Hid (∀ w', Below wr.heap.size wr w' → Below w.heap.size w w') := fun w' hb => B1.out.trans ((BB.out.trans (hb.mono BB.out.size)).mono B1.out.size)
      go_wp2_with fail
      refine J.out.mono ?_
      rintro e w2 ⟨rfl, hb⟩
      have HE : Hid (Below w.heap.size w w2) := BE.out w2 hb
      clear hb
      go_wp2_with fail
      go_ret
      exact ⟨rfl, HE.out⟩
end Go.Proofs.YtgimdhdioigmiaaDoor.So
