/- RequestText of the program, given what its parts say. -/
import Derived.Test.YtkegllbedejkgaaDoorQf
import Derived.Test.YtkegllbedejkgaaDoorQl
namespace Go.Proofs.YtkegllbedejkgaaDoor.Ix
open Go.ChangeShapes Go.WideShapes Go.ChangeAt Go.RowKit
attribute [local go_sem ↓] Go.wp_at_zero Go.wp_at_succ
theorem lens_le (r : List (List UInt8)) (h : ∀ x, x ∈ r → x.length ≤ 1000) : Lib.lens r ≤ 1000 * r.length := by
  induction r with
  | nil => simp [Lib.lens]
  | cons x r ih =>
    have h1 := h x (by simp)
    have h2 := ih fun y hy => h y (by simp [hy])
    simp only [Lib.lens, List.map_cons, List.sum_cons, List.length_cons] at h2 ⊢
    omega
theorem join_le (r : List (List UInt8)) (h : ∀ x, x ∈ r → x.length ≤ 1000) : (Lib.join r [44]).length ≤ 1001 * r.length := by
  cases r with
  | nil => simp [Lib.join_nil]
  | cons x r =>
    have h1 := h x (by simp)
    have h2 := lens_le r fun y hy => h y (by simp [hy])
    rw [Lib.join_cons, List.length_append, Lib.joinTail_length]
    simp only [List.length_cons, List.length_nil]
    omega
theorem ijoin_any (b c : Nat) (K : List (List UInt8)) (w : World) (hb : b < w.heap.size) (hc : K.length ≤ c) (h4 : K.length ≤ 4) (hl : ∀ x, x ∈ K → x.length ≤ 1000) (hcell : ∀ (j : Nat) x, K[j]? = some x → w.cell? ⟨b, 0 + j, none⟩ = some (enB x)) :
    Calls Tryd.prog 25 #[.slice (some ⟨b, 0, none⟩) K.length c, .string ⟨#[44]⟩] w fun e w' => e = .returned (.string ⟨(Lib.join K [44]).toArray⟩) ∧ Below w.heap.size w w' := by
  have e : (List.map (fun x : ByteArray => x.data.toList) (K.map fun x => (⟨x.toArray⟩ : ByteArray))) = K := by
    rw [List.map_map]
    conv => rhs; rw [← List.map_id K]
    exact List.map_congr_left fun x _ => by simp
  have hj := Tryd.strings_Join b 0 c (K.map fun x => (⟨x.toArray⟩ : ByteArray)) ⟨#[44]⟩ w (by
    intro j x hx
    rw [List.getElem?_map] at hx
    cases hq : K[j]? with
    | none => rw [hq] at hx; cases hx
    | some y =>
      rw [hq] at hx
      cases hx
      exact hcell j y hq) hb (by simp; omega) (by simpa using hc) (by
        rw [e]
        have := join_le K hl
        show (Lib.join K [44]).length ≤ _
        omega)
  rw [e, List.length_map] at hj
  exact hj
abbrev T4 (P Ti S Lv : List UInt8) : Obj := .cells #[.string ⟨P.toArray⟩, .string ⟨Ti.toArray⟩, .string ⟨S.toArray⟩, .string ⟨Lv.toArray⟩] 9
theorem four (w : World) (P Ti S Lv : List UInt8) : Sort.Holds enB (w.alloc (T4 P Ti S Lv)) w.heap.size 0 [P, Ti, S, Lv].toArray := by
  intro j hj
  simp at hj
  rcases (by omega : j = 0 ∨ j = 1 ∨ j = 2 ∨ j = 3) with rfl | rfl | rfl | rfl
  all_goals
    refine ⟨?_, ?_⟩
    · simp [go_sem, enB]
    · simp [go_sem]
theorem keep4 {w w' : World} {g : Nat} {v0 v1 v2 v3 : Value} (hb : Below w.heap.size w w') (hg : g < w.heap.size) (h0 : w.cell? ⟨g, 0, none⟩ = some v0) (h1 : w.cell? ⟨g, 1, none⟩ = some v1) (h2 : w.cell? ⟨g, 2, none⟩ = some v2) (h3 : w.cell? ⟨g, 3, none⟩ = some v3) :
    w'.cell? ⟨g, 0, none⟩ = some v0 ∧ w'.cell? ⟨g, 1, none⟩ = some v1 ∧ w'.cell? ⟨g, 2, none⟩ = some v2 ∧ w'.cell? ⟨g, 3, none⟩ = some v3 ∧ g < w'.heap.size :=
  ⟨(hb.cell (p := ⟨g, 0, none⟩) hg).trans h0, (hb.cell (p := ⟨g, 1, none⟩) hg).trans h1, (hb.cell (p := ⟨g, 2, none⟩) hg).trans h2, (hb.cell (p := ⟨g, 3, none⟩) hg).trans h3, Nat.lt_of_lt_of_le hg hb.size⟩

set_option maxHeartbeats 2000000 in
theorem ireq_yes (pa ta sa la : Option Addr) (np pc nt tc ns sc nl lc : Nat) (P Ti S Lv : List UInt8) (w : World) (T : World → Prop) (hk : ∀ w w', T w → Below w.heap.size w w' → T w') (hT : T w)
    (C0 : Hid (∀ W, T W → Calls Tryd.prog 17 #[.agg #[.slice pa np pc, .slice ta nt tc, .slice sa ns sc, .slice la nl lc]] W fun e w' => e = .returned (.bool true) ∧ Below W.heap.size W w'))
    (HP : Hid (∀ W, T W → Calls Tryd.prog 18 #[.string ⟨#[112, 97, 114, 97, 109]⟩, .slice pa np pc, .func (.func 19) #[] #[]] W fun e w' => e = .returned (.string ⟨P.toArray⟩) ∧ Below W.heap.size W w'))
    (HT : Hid (∀ W, T W → Calls Tryd.prog 20 #[.string ⟨#[116, 105, 109, 101]⟩, .slice ta nt tc, .func (.func 21) #[] #[]] W fun e w' => e = .returned (.string ⟨Ti.toArray⟩) ∧ Below W.heap.size W w'))
    (HS : Hid (∀ W, T W → Calls Tryd.prog 20 #[.string ⟨#[115, 116, 101, 112]⟩, .slice sa ns sc, .func (.func 22) #[] #[]] W fun e w' => e = .returned (.string ⟨S.toArray⟩) ∧ Below W.heap.size W w'))
    (HL : Hid (∀ W, T W → Calls Tryd.prog 20 #[.string ⟨#[108, 101, 118, 101, 108]⟩, .slice la nl lc, .func (.func 22) #[] #[]] W fun e w' => e = .returned (.string ⟨Lv.toArray⟩) ∧ Below W.heap.size W w'))
    (hl : Hid (∀ x, x ∈ [P, Ti, S, Lv] → x.length ≤ 1000)) :
    Calls Tryd.prog 7 #[.agg #[.slice pa np pc, .slice ta nt tc, .slice sa ns sc, .slice la nl lc]] w fun e w' => e = .returned (.string ⟨(Lib.join (kept [P, Ti, S, Lv]) [44]).toArray⟩) ∧ Below w.heap.size w w' := by
  have B0 : Below w.heap.size w (w.alloc (Obj.cells #[.slice pa np pc, .slice ta nt tc, .slice sa ns sc, .slice la nl lc] 28)) := (Below.refl _ _).alloc (Nat.le_refl _) _
  have hT0 : T (w.alloc (Obj.cells #[.slice pa np pc, .slice ta nt tc, .slice sa ns sc, .slice la nl lc] 28)) := hk w _ hT B0
  have DL : Hid (∀ b wx, b < wx.heap.size → Sort.Holds enB wx b 0 [P, Ti, S, Lv].toArray → Calls Tryd.prog 23 #[.slice (some ⟨b, 0, none⟩) 4 4, .func (.func 24) #[] #[]] wx fun e w' => e = .returned (.slice (some ⟨b, 0, none⟩) (kept [P, Ti, S, Lv]).length 4) ∧ Below b wx w' ∧ b < w'.heap.size ∧ (∀ (j : Nat) x, (kept [P, Ti, S, Lv])[j]? = some x → w'.cell? ⟨b, 0 + j, none⟩ = some (enB x))) := fun b wx h1 h2 => idel_any b [P, Ti, S, Lv] wx (by simp) h1 h2
  have K4 : Hid ((kept [P, Ti, S, Lv]).length ≤ 4 ∧ ∀ x, x ∈ kept [P, Ti, S, Lv] → x.length ≤ 1000) := ⟨List.length_filter_le _ _, fun x hx => hl.out x (List.mem_filter.1 hx).1⟩
  obtain ⟨K, hK⟩ : ∃ K, kept [P, Ti, S, Lv] = K := ⟨_, rfl⟩
  rw [hK] at DL K4 ⊢
  clear hK
  go_enter Tryd.func7, Tryd.ntmps7
  go_wp2_with fail
  refine (C0.out _ hT0).mono ?_
  rintro e w1 ⟨rfl, hb⟩
  have hz : w.heap.size < (w.alloc (Obj.cells #[.slice pa np pc, .slice ta nt tc, .slice sa ns sc, .slice la nl lc] 28)).heap.size := by simp
  obtain ⟨k0, k1, k2, k3, k4⟩ := keep4 (g := w.heap.size) (v0 := .slice pa np pc) (v1 := .slice ta nt tc) (v2 := .slice sa ns sc) (v3 := .slice la nl lc) hb hz (by simp [go_sem]) (by simp [go_sem]) (by simp [go_sem]) (by simp [go_sem])
  have B1 : Below w.heap.size w w1 := B0.trans (hb.mono B0.size)
  have hT1 : T w1.drew := hk w _ hT B1.drew
  clear hb hz hT0 B0 C0

  go_upto_region 3 with fail
  go_cut [3] (fun s wx => ∃ b, s = .slice (some ⟨b, 0, none⟩) 4 4 ∧ Hid (Below w.heap.size w wx ∧ w.heap.size ≤ b ∧ b < wx.heap.size ∧ Sort.Holds enB wx b 0 [P, Ti, S, Lv].toArray))
  case first =>
    go_region_held3 (fun w' => w'.cell? ⟨w.heap.size, 0, none⟩ = some (.slice pa np pc) ∧ w'.cell? ⟨w.heap.size, 1, none⟩ = some (.slice ta nt tc) ∧ w'.cell? ⟨w.heap.size, 2, none⟩ = some (.slice sa ns sc) ∧ w'.cell? ⟨w.heap.size, 3, none⟩ = some (.slice la nl lc))
      (go_keep)
      (first
      | (go_at_call 18; refine (HP.out _ (by assumption)).mono ?_; rintro e w2 ⟨rfl, hb2⟩; (have tk2 : T w2 := hk _ _ (by assumption) hb2); (have tt := keep4 (g := w.heap.size) (v0 := .slice pa np pc) (v1 := .slice ta nt tc) (v2 := .slice sa ns sc) (v3 := .slice la nl lc) hb2 (by first | assumption | (simp; done) | omega | (simp; omega)) (by go_simp) (by go_simp) (by go_simp) (by go_simp)); obtain ⟨a20, a21, a22, a23, a24⟩ := tt)
      | (go_at_call_of 20 (Value.string ⟨#[116, 105, 109, 101]⟩); refine (HT.out _ (by assumption)).mono ?_; rintro e w3 ⟨rfl, hb3⟩; (have tk3 : T w3 := hk _ _ (by assumption) hb3); (have tt := keep4 (g := w.heap.size) (v0 := .slice pa np pc) (v1 := .slice ta nt tc) (v2 := .slice sa ns sc) (v3 := .slice la nl lc) hb3 (by first | assumption | (simp; done) | omega | (simp; omega)) (by go_simp) (by go_simp) (by go_simp) (by go_simp)); obtain ⟨a30, a31, a32, a33, a34⟩ := tt)
      | (go_at_call_of 20 (Value.string ⟨#[115, 116, 101, 112]⟩); refine (HS.out _ (by assumption)).mono ?_; rintro e w4 ⟨rfl, hb4⟩; (have tk4 : T w4 := hk _ _ (by assumption) hb4); (have tt := keep4 (g := w.heap.size) (v0 := .slice pa np pc) (v1 := .slice ta nt tc) (v2 := .slice sa ns sc) (v3 := .slice la nl lc) hb4 (by first | assumption | (simp; done) | omega | (simp; omega)) (by go_simp) (by go_simp) (by go_simp) (by go_simp)); obtain ⟨a40, a41, a42, a43, a44⟩ := tt)
      | (go_at_call_of 20 (Value.string ⟨#[108, 101, 118, 101, 108]⟩); refine (HL.out _ (by assumption)).mono ?_; rintro e w5 ⟨rfl, hb5⟩; (have tk5 : T w5 := hk _ _ (by assumption) hb5); (have tt := keep4 (g := w.heap.size) (v0 := .slice pa np pc) (v1 := .slice ta nt tc) (v2 := .slice sa ns sc) (v3 := .slice la nl lc) hb5 (by first | assumption | (simp; done) | omega | (simp; omega)) (by go_simp) (by go_simp) (by go_simp) (by go_simp)); obtain ⟨a50, a51, a52, a53, a54⟩ := tt))
    have B2 : Below w.heap.size w w2 := B1.drew.trans (hb2.mono (by have := B1.size; simpa using this))
    have z2 := B2.size
    have B3 : Below w.heap.size w w3 := B2.trans (hb3.mono z2)
    have z3 := B3.size
    have B4 : Below w.heap.size w w4 := B3.trans (hb4.mono z3)
    have z4 := B4.size
    have B5 : Below w.heap.size w w5 := B4.trans (hb5.mono z4)
    have z5 := B5.size
    go_wp2_with fail
    go_meet
    exact ⟨_, rfl, B5.alloc z5 _, z5, by simp, four w5 P Ti S Lv⟩
  case rest =>
    obtain ⟨b, rfl, HC⟩ := hcut
    go_wp2_with fail
    refine (DL.out b _ HC.out.2.2.1 HC.out.2.2.2).mono ?_
    rintro e w6 ⟨rfl, hb6, hz6, hc6⟩
    have B6 : Below w.heap.size w w6 := HC.out.1.trans (hb6.mono HC.out.2.1)
    have HJ : Hid (Calls Tryd.prog 25 #[.slice (some ⟨b, 0, none⟩) K.length 4, .string ⟨#[44]⟩] w6 fun e w' => e = .returned (.string ⟨(Lib.join K [44]).toArray⟩) ∧ Below w6.heap.size w6 w') := ijoin_any b 4 K w6 hz6 K4.out.1 K4.out.1 K4.out.2 hc6
    clear hc6 HC hb6
    go_wp2_with fail
    refine HJ.out.mono ?_
    rintro e w7 ⟨rfl, hb7⟩
    have B7 : Below w.heap.size w w7 := B6.trans (hb7.mono B6.size)
    go_wp2_with fail
    go_ret
    exact ⟨rfl, B7⟩
end Go.Proofs.YtkegllbedejkgaaDoor.Ix
