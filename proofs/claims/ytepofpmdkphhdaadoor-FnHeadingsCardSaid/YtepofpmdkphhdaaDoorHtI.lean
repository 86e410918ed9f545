/- The program's text of a heading that is right. -/
import Derived.Test.YtepofpmdkphhdaaDoorHtS
import Derived.Test.YtepofpmdkphhdaaDoorPadI
namespace Go.Proofs.YtepofpmdkphhdaaDoor.Head
open Go.ChangeShapes Go.WideShapes Go.ChangeAt Go.RowKit Mk Fig Dec
attribute [local go_sem ↓] Go.wp_at_zero Go.wp_at_succ

abbrev T9 (a b c d e f g h i : List UInt8) : Obj := .cells #[.string ⟨a.toArray⟩, .string ⟨b.toArray⟩, .string ⟨c.toArray⟩, .string ⟨d.toArray⟩, .string ⟨e.toArray⟩, .string ⟨f.toArray⟩, .string ⟨g.toArray⟩, .string ⟨h.toArray⟩, .string ⟨i.toArray⟩] 9
theorem nine (w : World) (a b c d e f g h i : List UInt8) : ∀ (j : Nat) x, [a, b, c, d, e, f, g, h, i][j]? = some x → (w.alloc (T9 a b c d e f g h i)).cell? ⟨w.heap.size, j, none⟩ = some (.string ⟨x.toArray⟩) := by
  intro j x hj
  have hj' := (List.getElem?_eq_some_iff.1 hj).1
  simp at hj'
  rcases (by omega : j = 0 ∨ j = 1 ∨ j = 2 ∨ j = 3 ∨ j = 4 ∨ j = 5 ∨ j = 6 ∨ j = 7 ∨ j = 8) with rfl | rfl | rfl | rfl | rfl | rfl | rfl | rfl | rfl
  all_goals (simp at hj; subst hj; simp [go_sem])
abbrev T3 (a b c : List UInt8) : Obj := .cells #[.string ⟨a.toArray⟩, .string ⟨b.toArray⟩, .string ⟨c.toArray⟩] 9
theorem three' (w : World) (a b c : List UInt8) : ∀ (j : Nat) x, [a, b, c][j]? = some x → (w.alloc (T3 a b c)).cell? ⟨w.heap.size, j, none⟩ = some (.string ⟨x.toArray⟩) := by
  intro j x hj
  have hj' := (List.getElem?_eq_some_iff.1 hj).1
  simp at hj'
  rcases (by omega : j = 0 ∨ j = 1 ∨ j = 2) with rfl | rfl | rfl
  all_goals (simp at hj; subst hj; simp [go_sem])

theorem keep8a {w w' : World} {o : Obj} {g : Nat} {v0 v1 v2 v3 v4 v5 v6 v7 : Value} (hb : Below (w.alloc o).heap.size (w.alloc o) w') (hg : g < w.heap.size) (h0 : w.cell? ⟨g, 0, none⟩ = some v0) (h1 : w.cell? ⟨g, 1, none⟩ = some v1) (h2 : w.cell? ⟨g, 2, none⟩ = some v2) (h3 : w.cell? ⟨g, 3, none⟩ = some v3) (h4 : w.cell? ⟨g, 4, none⟩ = some v4) (h5 : w.cell? ⟨g, 5, none⟩ = some v5) (h6 : w.cell? ⟨g, 6, none⟩ = some v6) (h7 : w.cell? ⟨g, 7, none⟩ = some v7) :
    w'.cell? ⟨g, 0, none⟩ = some v0 ∧ w'.cell? ⟨g, 1, none⟩ = some v1 ∧ w'.cell? ⟨g, 2, none⟩ = some v2 ∧ w'.cell? ⟨g, 3, none⟩ = some v3 ∧ w'.cell? ⟨g, 4, none⟩ = some v4 ∧ w'.cell? ⟨g, 5, none⟩ = some v5 ∧ w'.cell? ⟨g, 6, none⟩ = some v6 ∧ w'.cell? ⟨g, 7, none⟩ = some v7 ∧ g < w'.heap.size := by
  have hb' : Below w.heap.size w w' := ((Below.refl w.heap.size w).alloc (Nat.le_refl _) o).trans (hb.mono (by simp))
  exact keep8 hb' hg h0 h1 h2 h3 h4 h5 h6 h7

set_option maxHeartbeats 4000000 in
theorem itext_yes {T : World → Prop} (X : LibC T) (LK LA : List UInt8) (n : Nat) (LC : List UInt8) (d h m : Nat) (LM : List UInt8) (w : World) (hT : T w) (hK : LK.length = 2) (hA : LA.length = 2) (hn : n ≤ 99) (hC : LC.length = 4) (hd : d ≤ 99) (hh : h ≤ 99) (hm : m ≤ 99) (hM : LM.length ≤ 3)
    (hok : ∀ w, Calls Tryd.prog 16 #[.agg #[.string ⟨LK.toArray⟩, .string ⟨LA.toArray⟩, .int .i64 n, .string ⟨LC.toArray⟩, .int .i64 d, .int .i64 h, .int .i64 m, .string ⟨LM.toArray⟩]] w fun e w' => e = .returned (.int .i64 0) ∧ Below w.heap.size w w') :
    Calls Tryd.prog 7 #[.agg #[.string ⟨LK.toArray⟩, .string ⟨LA.toArray⟩, .int .i64 n, .string ⟨LC.toArray⟩, .int .i64 d, .int .i64 h, .int .i64 m, .string ⟨LM.toArray⟩]] w fun e w' => e = sb (text LK LA n LC d h m LM) true ∧ Below w.heap.size w w' := by
  obtain ⟨Pn, lPn, hPn⟩ : ∃ L, pad 2 (Lib.decDigits n) = L ∧ L.length = 2 := ⟨_, rfl, pad_len 2 _ (dec_len2 n hn)⟩
  obtain ⟨Pd, lPd, hPd⟩ : ∃ L, pad 2 (Lib.decDigits d) = L ∧ L.length = 2 := ⟨_, rfl, pad_len 2 _ (dec_len2 d hd)⟩
  obtain ⟨Ph, lPh, hPh⟩ : ∃ L, pad 2 (Lib.decDigits h) = L ∧ L.length = 2 := ⟨_, rfl, pad_len 2 _ (dec_len2 h hh)⟩
  obtain ⟨Pm, lPm, hPm⟩ : ∃ L, pad 2 (Lib.decDigits m) = L ∧ L.length = 2 := ⟨_, rfl, pad_len 2 _ (dec_len2 m hm)⟩
  have eF : front LK LA n LC d h m = LK ++ LA ++ Pn ++ [32] ++ LC ++ [32] ++ Pd ++ Ph ++ Pm := by unfold front q2; rw [lPn, lPd, lPh, lPm]
  have Hn : Hid (∀ w, T w → Calls Tryd.prog 18 #[.int .i64 n, .int .i64 2] w fun e w' => e = .returned (.string ⟨Pn.toArray⟩) ∧ Below w.heap.size w w') := fun w ht => by rw [← lPn]; exact padded_any X n 2 w ht (by omega) (by omega)
  have Hd : Hid (∀ w, T w → Calls Tryd.prog 18 #[.int .i64 d, .int .i64 2] w fun e w' => e = .returned (.string ⟨Pd.toArray⟩) ∧ Below w.heap.size w w') := fun w ht => by rw [← lPd]; exact padded_any X d 2 w ht (by omega) (by omega)
  have Hh : Hid (∀ w, T w → Calls Tryd.prog 18 #[.int .i64 h, .int .i64 2] w fun e w' => e = .returned (.string ⟨Ph.toArray⟩) ∧ Below w.heap.size w w') := fun w ht => by rw [← lPh]; exact padded_any X h 2 w ht (by omega) (by omega)
  have Hm : Hid (∀ w, T w → Calls Tryd.prog 18 #[.int .i64 m, .int .i64 2] w fun e w' => e = .returned (.string ⟨Pm.toArray⟩) ∧ Below w.heap.size w w') := fun w ht => by rw [← lPm]; exact padded_any X m 2 w ht (by omega) (by omega)
  have HO : Hid _ := hok
  have eT : text LK LA n LC d h m LM = if LM = [] then front LK LA n LC d h m else front LK LA n LC d h m ++ [32] ++ LM := rfl
  rw [eF] at eT
  obtain ⟨F, hF⟩ : ∃ F, F = LK ++ LA ++ Pn ++ [32] ++ LC ++ [32] ++ Pd ++ Ph ++ Pm := ⟨_, rfl⟩
  have lF : F.length = 18 := by rw [hF]; simp; omega
  rw [← hF] at eT
  have HJ : Hid (∀ w : World, Calls Tryd.prog 17 #[.slice (some ⟨w.heap.size, 0, none⟩) 9 9] (w.alloc (T9 LK LA Pn [32] LC [32] Pd Ph Pm)) fun e w' => e = .returned (.string ⟨F.toArray⟩) ∧ Below (w.alloc (T9 LK LA Pn [32] LC [32] Pd Ph Pm)).heap.size (w.alloc (T9 LK LA Pn [32] LC [32] Pd Ph Pm)) w') := fun w => by
    refine (joined_any X w.heap.size 9 9 [LK, LA, Pn, [32], LC, [32], Pd, Ph, Pm] _ rfl (nine w LK LA Pn [32] LC [32] Pd Ph Pm) (by simp) (by simp) (by simp) (by simp; omega)).mono ?_
    rintro e w' ⟨rfl, hb⟩
    exact ⟨by rw [hF]; simp, hb⟩
  have HJ3 : Hid (∀ w : World, Calls Tryd.prog 17 #[.slice (some ⟨w.heap.size, 0, none⟩) 3 3] (w.alloc (T3 F [32] LM)) fun e w' => e = .returned (.string ⟨(F ++ [32] ++ LM).toArray⟩) ∧ Below (w.alloc (T3 F [32] LM)).heap.size (w.alloc (T3 F [32] LM)) w') := fun w => by
    refine (joined_any X w.heap.size 3 3 [F, [32], LM] _ rfl (three' w F [32] LM) (by simp) (by simp) (by simp) (by simp; omega)).mono ?_
    rintro e w' ⟨rfl, hb⟩
    exact ⟨by simp, hb⟩
  have ET : Hid (text LK LA n LC d h m LM = if LM = [] then F else F ++ [32] ++ LM) := eT
  clear lPn lPd lPh lPm eF hF eT hn hd hh hm hok
  go_enter Tryd.func7, Tryd.ntmps7
  go_wp2_with fail
  refine (HO.out _).mono ?_
  rintro e w1 ⟨rfl, hb1⟩
  have tt := keep8 (g := w.heap.size) (v0 := .string ⟨LK.toArray⟩) (v1 := .string ⟨LA.toArray⟩) (v2 := .int .i64 n) (v3 := .string ⟨LC.toArray⟩) (v4 := .int .i64 d) (v5 := .int .i64 h) (v6 := .int .i64 m) (v7 := .string ⟨LM.toArray⟩) hb1 (by simp) (by simp [go_sem]) (by simp [go_sem]) (by simp [go_sem]) (by simp [go_sem]) (by simp [go_sem]) (by simp [go_sem]) (by simp [go_sem]) (by simp [go_sem])
  obtain ⟨a10, a11, a12, a13, a14, a15, a16, a17, a18⟩ := tt
  have B1 : Below w.heap.size w w1 := ((Below.refl _ _).alloc (Nat.le_refl _) _).trans (hb1.mono (by simp))
  have hT1 : T w1.drew := X.keep w _ hT B1.drew
  go_upto_region 3 with fail
  go_cut [4] (fun s wx => s = .string ⟨F.toArray⟩ ∧ Below w.heap.size w wx ∧ wx.cell? ⟨w.heap.size, 7, none⟩ = some (.string ⟨LM.toArray⟩))
  case first =>
    go_region_held3 (fun w' => w'.cell? ⟨w.heap.size, 0, none⟩ = some (.string ⟨LK.toArray⟩) ∧ w'.cell? ⟨w.heap.size, 1, none⟩ = some (.string ⟨LA.toArray⟩) ∧ w'.cell? ⟨w.heap.size, 2, none⟩ = some (.int .i64 n) ∧ w'.cell? ⟨w.heap.size, 3, none⟩ = some (.string ⟨LC.toArray⟩) ∧ w'.cell? ⟨w.heap.size, 4, none⟩ = some (.int .i64 d) ∧ w'.cell? ⟨w.heap.size, 5, none⟩ = some (.int .i64 h) ∧ w'.cell? ⟨w.heap.size, 6, none⟩ = some (.int .i64 m) ∧ w'.cell? ⟨w.heap.size, 7, none⟩ = some (.string ⟨LM.toArray⟩))
      (go_keep)
      (first
      | (go_at_call_of 18 (Value.int IntKind.i64 ((n : Nat) : Int)); refine (Hn.out _ (by assumption)).mono ?_; rintro e w2 ⟨rfl, hb2⟩; (have tk2 : T w2 := X.keep _ _ (by assumption) hb2); (have tt := keep8 (g := w.heap.size) (v0 := .string ⟨LK.toArray⟩) (v1 := .string ⟨LA.toArray⟩) (v2 := .int .i64 n) (v3 := .string ⟨LC.toArray⟩) (v4 := .int .i64 d) (v5 := .int .i64 h) (v6 := .int .i64 m) (v7 := .string ⟨LM.toArray⟩) hb2 (by first | (simp; done) | omega | (simp; omega)) (by go_simp) (by go_simp) (by go_simp) (by go_simp) (by go_simp) (by go_simp) (by go_simp) (by go_simp)); obtain ⟨a20, a21, a22, a23, a24, a25, a26, a27, a28⟩ := tt)
      | (go_at_call_of 18 (Value.int IntKind.i64 ((d : Nat) : Int)); refine (Hd.out _ (by assumption)).mono ?_; rintro e w3 ⟨rfl, hb3⟩; (have tk3 : T w3 := X.keep _ _ (by assumption) hb3); (have tt := keep8 (g := w.heap.size) (v0 := .string ⟨LK.toArray⟩) (v1 := .string ⟨LA.toArray⟩) (v2 := .int .i64 n) (v3 := .string ⟨LC.toArray⟩) (v4 := .int .i64 d) (v5 := .int .i64 h) (v6 := .int .i64 m) (v7 := .string ⟨LM.toArray⟩) hb3 (by first | (simp; done) | omega | (simp; omega)) (by go_simp) (by go_simp) (by go_simp) (by go_simp) (by go_simp) (by go_simp) (by go_simp) (by go_simp)); obtain ⟨a30, a31, a32, a33, a34, a35, a36, a37, a38⟩ := tt)
      | (go_at_call_of 18 (Value.int IntKind.i64 ((h : Nat) : Int)); refine (Hh.out _ (by assumption)).mono ?_; rintro e w4 ⟨rfl, hb4⟩; (have tk4 : T w4 := X.keep _ _ (by assumption) hb4); (have tt := keep8 (g := w.heap.size) (v0 := .string ⟨LK.toArray⟩) (v1 := .string ⟨LA.toArray⟩) (v2 := .int .i64 n) (v3 := .string ⟨LC.toArray⟩) (v4 := .int .i64 d) (v5 := .int .i64 h) (v6 := .int .i64 m) (v7 := .string ⟨LM.toArray⟩) hb4 (by first | (simp; done) | omega | (simp; omega)) (by go_simp) (by go_simp) (by go_simp) (by go_simp) (by go_simp) (by go_simp) (by go_simp) (by go_simp)); obtain ⟨a40, a41, a42, a43, a44, a45, a46, a47, a48⟩ := tt)
      | (go_at_call_of 18 (Value.int IntKind.i64 ((m : Nat) : Int)); refine (Hm.out _ (by assumption)).mono ?_; rintro e w5 ⟨rfl, hb5⟩; (have tk5 : T w5 := X.keep _ _ (by assumption) hb5); (have tt := keep8 (g := w.heap.size) (v0 := .string ⟨LK.toArray⟩) (v1 := .string ⟨LA.toArray⟩) (v2 := .int .i64 n) (v3 := .string ⟨LC.toArray⟩) (v4 := .int .i64 d) (v5 := .int .i64 h) (v6 := .int .i64 m) (v7 := .string ⟨LM.toArray⟩) hb5 (by first | (simp; done) | omega | (simp; omega)) (by go_simp) (by go_simp) (by go_simp) (by go_simp) (by go_simp) (by go_simp) (by go_simp) (by go_simp)); obtain ⟨a50, a51, a52, a53, a54, a55, a56, a57, a58⟩ := tt)
      | (go_at_call 17; refine (HJ.out _).mono ?_; rintro e w6 ⟨rfl, hb6⟩; (have tt := keep8a (g := w.heap.size) (v0 := .string ⟨LK.toArray⟩) (v1 := .string ⟨LA.toArray⟩) (v2 := .int .i64 n) (v3 := .string ⟨LC.toArray⟩) (v4 := .int .i64 d) (v5 := .int .i64 h) (v6 := .int .i64 m) (v7 := .string ⟨LM.toArray⟩) hb6 (by assumption) (by assumption) (by assumption) (by assumption) (by assumption) (by assumption) (by assumption) (by assumption) (by assumption)); obtain ⟨a60, a61, a62, a63, a64, a65, a66, a67, a68⟩ := tt))
    have B2 : Below w.heap.size w w2 := (B1.drew).trans (hb2.mono (B1.drew).size)
    have B3 : Below w.heap.size w w3 := B2.trans (hb3.mono B2.size)
    have B4 : Below w.heap.size w w4 := B3.trans (hb4.mono B3.size)
    have B5 : Below w.heap.size w w5 := B4.trans (hb5.mono B4.size)
    have B6 : Below w.heap.size w w6 := (B5.alloc B5.size _).trans (hb6.mono (B5.alloc B5.size _).size)
    go_wp2_with fail
    go_meet
    exact ⟨rfl, B6, a67⟩
  case rest =>
    obtain ⟨rfl, hbc, hc7⟩ := hcut
    have BC : Hid (Below w.heap.size w wc) := hbc
    clear hbc B1 hb1 a10 a11 a12 a13 a14 a15 a16 a17 a18
    cases LM with
    | nil =>
      have E : Hid (text LK LA n LC d h m [] = F) := (by show _ = F; rw [ET.out, if_pos rfl])
      have hne : ((⟨([] : List UInt8).toArray⟩ : ByteArray).toList).isEmpty = true := by simp
      go_wp2_with fail
      go_ret2
      exact ⟨by rw [E.out]; rfl, BC.out⟩
    | cons x r =>
      have E : Hid (text LK LA n LC d h m (x :: r) = F ++ [32] ++ (x :: r)) := (by show _ = _; rw [ET.out, if_neg (by simp)])
      obtain ⟨R, hR⟩ : ∃ R, R = x :: r := ⟨_, rfl⟩
      have hne : R.isEmpty = false := by rw [hR]; rfl
      rw [← hR] at E hc7 hM HJ3
      have HR : Hid (R = x :: r) := hR
      clear hR
      go_wp2_with fail
      refine (HJ3.out _).mono ?_
      rintro e w3 ⟨rfl, hb3⟩
      have B3 : Hid (Below w.heap.size w w3) := (BC.out.alloc BC.out.size _).trans (hb3.mono (BC.out.alloc BC.out.size _).size)
      clear hb3
      go_wp2_with fail
      go_ret2
      refine ⟨?_, B3.out⟩
      show Ending.returned (.tuple #[.string ⟨(F ++ 32 :: R).toArray⟩, .bool true]) = _
      rw [← HR.out, E.out]
      simp
end Go.Proofs.YtepofpmdkphhdaaDoor.Head
