/- The model's text of a heading that is right. -/
import Derived.Test.YtepofpmdkphhdaaDoorHok
import Derived.Test.YtepofpmdkphhdaaDoorPad
import Derived.Deep.RegionWith
import Derived.Deep.RegionHeld3
import Derived.Deep.DrawnRows
import Derived.Deep.Cut
import Derived.Deep.DeepCutAuto
import Derived.Deep.DeepMust
namespace Go.Proofs.YtepofpmdkphhdaaDoor.Head
open Go.ChangeShapes Go.WideShapes Go.ChangeAt Go.RowKit Mk Fig Dec
attribute [local go_sem ↓] Go.wp_at_zero Go.wp_at_succ

theorem keep8 {w w' : World} {g : Nat} {v0 v1 v2 v3 v4 v5 v6 v7 : Value} (hb : Below w.heap.size w w') (hg : g < w.heap.size) (h0 : w.cell? ⟨g, 0, none⟩ = some v0) (h1 : w.cell? ⟨g, 1, none⟩ = some v1) (h2 : w.cell? ⟨g, 2, none⟩ = some v2) (h3 : w.cell? ⟨g, 3, none⟩ = some v3) (h4 : w.cell? ⟨g, 4, none⟩ = some v4) (h5 : w.cell? ⟨g, 5, none⟩ = some v5) (h6 : w.cell? ⟨g, 6, none⟩ = some v6) (h7 : w.cell? ⟨g, 7, none⟩ = some v7) :
    w'.cell? ⟨g, 0, none⟩ = some v0 ∧ w'.cell? ⟨g, 1, none⟩ = some v1 ∧ w'.cell? ⟨g, 2, none⟩ = some v2 ∧ w'.cell? ⟨g, 3, none⟩ = some v3 ∧ w'.cell? ⟨g, 4, none⟩ = some v4 ∧ w'.cell? ⟨g, 5, none⟩ = some v5 ∧ w'.cell? ⟨g, 6, none⟩ = some v6 ∧ w'.cell? ⟨g, 7, none⟩ = some v7 ∧ g < w'.heap.size :=
  ⟨(hb.cell (p := ⟨g, 0, none⟩) hg).trans h0, (hb.cell (p := ⟨g, 1, none⟩) hg).trans h1, (hb.cell (p := ⟨g, 2, none⟩) hg).trans h2, (hb.cell (p := ⟨g, 3, none⟩) hg).trans h3, (hb.cell (p := ⟨g, 4, none⟩) hg).trans h4, (hb.cell (p := ⟨g, 5, none⟩) hg).trans h5, (hb.cell (p := ⟨g, 6, none⟩) hg).trans h6, (hb.cell (p := ⟨g, 7, none⟩) hg).trans h7, Nat.lt_of_lt_of_le hg hb.size⟩

abbrev q2 (n : Nat) : List UInt8 := pad 2 (Lib.decDigits n)
/-- A heading's text without its mark. -/
def front (LK LA : List UInt8) (n : Nat) (LC : List UInt8) (d h m : Nat) : List UInt8 := LK ++ LA ++ q2 n ++ [32] ++ LC ++ [32] ++ q2 d ++ q2 h ++ q2 m
def text (LK LA : List UInt8) (n : Nat) (LC : List UInt8) (d h m : Nat) (LM : List UInt8) : List UInt8 := if LM = [] then front LK LA n LC d h m else front LK LA n LC d h m ++ [32] ++ LM
abbrev sb (r : List UInt8) (b : Bool) : Ending := .returned (.tuple #[.string ⟨r.toArray⟩, .bool b])
abbrev H8 (LK LA : List UInt8) (n : Nat) (LC : List UInt8) (d h m : Nat) (LM : List UInt8) : Obj := .cells #[.string ⟨LK.toArray⟩, .string ⟨LA.toArray⟩, .int .i64 n, .string ⟨LC.toArray⟩, .int .i64 d, .int .i64 h, .int .i64 m, .string ⟨LM.toArray⟩] 25

set_option maxHeartbeats 4000000 in
theorem stext_yes (LK LA : List UInt8) (n : Nat) (LC : List UInt8) (d h m : Nat) (LM : List UInt8) (w : World) (hK : LK.length = 2) (hA : LA.length = 2) (hn : n ≤ 99) (hC : LC.length = 4) (hd : d ≤ 99) (hh : h ≤ 99) (hm : m ≤ 99) (hM : LM.length ≤ 3)
    (hok : ∀ w, Calls Tryd.prog 14 #[.agg #[.string ⟨LK.toArray⟩, .string ⟨LA.toArray⟩, .int .i64 n, .string ⟨LC.toArray⟩, .int .i64 d, .int .i64 h, .int .i64 m, .string ⟨LM.toArray⟩]] w fun e w' => e = .returned (.bool true) ∧ Below w.heap.size w w') :
    Calls Tryd.prog 6 #[.agg #[.string ⟨LK.toArray⟩, .string ⟨LA.toArray⟩, .int .i64 n, .string ⟨LC.toArray⟩, .int .i64 d, .int .i64 h, .int .i64 m, .string ⟨LM.toArray⟩]] w fun e w' => e = sb (text LK LA n LC d h m LM) true ∧ Below w.heap.size w w' := by
  obtain ⟨Pn, lPn, hPn⟩ : ∃ L, pad 2 (Lib.decDigits n) = L ∧ L.length = 2 := ⟨_, rfl, pad_len 2 _ (dec_len2 n hn)⟩
  obtain ⟨Pd, lPd, hPd⟩ : ∃ L, pad 2 (Lib.decDigits d) = L ∧ L.length = 2 := ⟨_, rfl, pad_len 2 _ (dec_len2 d hd)⟩
  obtain ⟨Ph, lPh, hPh⟩ : ∃ L, pad 2 (Lib.decDigits h) = L ∧ L.length = 2 := ⟨_, rfl, pad_len 2 _ (dec_len2 h hh)⟩
  obtain ⟨Pm, lPm, hPm⟩ : ∃ L, pad 2 (Lib.decDigits m) = L ∧ L.length = 2 := ⟨_, rfl, pad_len 2 _ (dec_len2 m hm)⟩
  have eF : front LK LA n LC d h m = LK ++ LA ++ Pn ++ [32] ++ LC ++ [32] ++ Pd ++ Ph ++ Pm := by unfold front q2; rw [lPn, lPd, lPh, lPm]
  have Hn : Hid (∀ w, Calls Tryd.prog 15 #[.int .i64 n, .int .i64 2] w fun e w' => e = .returned (.string ⟨Pn.toArray⟩) ∧ Below w.heap.size w w') := fun w => by rw [← lPn]; exact pad_any n 2 w (by omega) (by omega)
  have Hd : Hid (∀ w, Calls Tryd.prog 15 #[.int .i64 d, .int .i64 2] w fun e w' => e = .returned (.string ⟨Pd.toArray⟩) ∧ Below w.heap.size w w') := fun w => by rw [← lPd]; exact pad_any d 2 w (by omega) (by omega)
  have Hh : Hid (∀ w, Calls Tryd.prog 15 #[.int .i64 h, .int .i64 2] w fun e w' => e = .returned (.string ⟨Ph.toArray⟩) ∧ Below w.heap.size w w') := fun w => by rw [← lPh]; exact pad_any h 2 w (by omega) (by omega)
  have Hm : Hid (∀ w, Calls Tryd.prog 15 #[.int .i64 m, .int .i64 2] w fun e w' => e = .returned (.string ⟨Pm.toArray⟩) ∧ Below w.heap.size w w') := fun w => by rw [← lPm]; exact pad_any m 2 w (by omega) (by omega)
  have HO : Hid _ := hok
  have eT : text LK LA n LC d h m LM = if LM = [] then front LK LA n LC d h m else front LK LA n LC d h m ++ [32] ++ LM := rfl
  rw [eF] at eT
  obtain ⟨F, hF⟩ : ∃ F, F = LK ++ LA ++ Pn ++ [32] ++ LC ++ [32] ++ Pd ++ Ph ++ Pm := ⟨_, rfl⟩
  have lF : F.length = 18 := by rw [hF]; simp; omega
  rw [← hF] at eT
  have HF : Hid (F = LK ++ LA ++ Pn ++ [32] ++ LC ++ [32] ++ Pd ++ Ph ++ Pm) := hF
  have ET : Hid (text LK LA n LC d h m LM = if LM = [] then F else F ++ [32] ++ LM) := eT
  clear lPn lPd lPh lPm eF hF eT hn hd hh hm hok
  go_enter Tryd.func6, Tryd.ntmps6
  go_wp2_with fail
  refine (HO.out _).mono ?_
  rintro e w1 ⟨rfl, hb1⟩
  have tt := keep8 (g := w.heap.size) (v0 := .string ⟨LK.toArray⟩) (v1 := .string ⟨LA.toArray⟩) (v2 := .int .i64 n) (v3 := .string ⟨LC.toArray⟩) (v4 := .int .i64 d) (v5 := .int .i64 h) (v6 := .int .i64 m) (v7 := .string ⟨LM.toArray⟩) hb1 (by simp) (by simp [go_sem]) (by simp [go_sem]) (by simp [go_sem]) (by simp [go_sem]) (by simp [go_sem]) (by simp [go_sem]) (by simp [go_sem]) (by simp [go_sem])
  obtain ⟨a10, a11, a12, a13, a14, a15, a16, a17, a18⟩ := tt
  have B1 : Below w.heap.size w w1 := ((Below.refl _ _).alloc (Nat.le_refl _) _).trans (hb1.mono (by simp))
  go_upto_region 3 with fail
  go_cut [4] (fun s wx => s = .string ⟨F.toArray⟩ ∧ Below w.heap.size w wx ∧ wx.cell? ⟨w.heap.size, 7, none⟩ = some (.string ⟨LM.toArray⟩))
  case first =>
    go_region_held3 (fun w' => w'.cell? ⟨w.heap.size, 0, none⟩ = some (.string ⟨LK.toArray⟩) ∧ w'.cell? ⟨w.heap.size, 1, none⟩ = some (.string ⟨LA.toArray⟩) ∧ w'.cell? ⟨w.heap.size, 2, none⟩ = some (.int .i64 n) ∧ w'.cell? ⟨w.heap.size, 3, none⟩ = some (.string ⟨LC.toArray⟩) ∧ w'.cell? ⟨w.heap.size, 4, none⟩ = some (.int .i64 d) ∧ w'.cell? ⟨w.heap.size, 5, none⟩ = some (.int .i64 h) ∧ w'.cell? ⟨w.heap.size, 6, none⟩ = some (.int .i64 m) ∧ w'.cell? ⟨w.heap.size, 7, none⟩ = some (.string ⟨LM.toArray⟩))
      (go_keep)
      (first
      | (go_at_call_of 15 (Value.int IntKind.i64 ((n : Nat) : Int)); refine (Hn.out _).mono ?_; rintro e w2 ⟨rfl, hb2⟩; (have tt := keep8 (g := w.heap.size) (v0 := .string ⟨LK.toArray⟩) (v1 := .string ⟨LA.toArray⟩) (v2 := .int .i64 n) (v3 := .string ⟨LC.toArray⟩) (v4 := .int .i64 d) (v5 := .int .i64 h) (v6 := .int .i64 m) (v7 := .string ⟨LM.toArray⟩) hb2 (by first | (simp; done) | omega | (simp; omega)) (by go_simp) (by go_simp) (by go_simp) (by go_simp) (by go_simp) (by go_simp) (by go_simp) (by go_simp)); obtain ⟨a20, a21, a22, a23, a24, a25, a26, a27, a28⟩ := tt)
      | (go_at_call_of 15 (Value.int IntKind.i64 ((d : Nat) : Int)); refine (Hd.out _).mono ?_; rintro e w3 ⟨rfl, hb3⟩; (have tt := keep8 (g := w.heap.size) (v0 := .string ⟨LK.toArray⟩) (v1 := .string ⟨LA.toArray⟩) (v2 := .int .i64 n) (v3 := .string ⟨LC.toArray⟩) (v4 := .int .i64 d) (v5 := .int .i64 h) (v6 := .int .i64 m) (v7 := .string ⟨LM.toArray⟩) hb3 (by first | (simp; done) | omega | (simp; omega)) (by go_simp) (by go_simp) (by go_simp) (by go_simp) (by go_simp) (by go_simp) (by go_simp) (by go_simp)); obtain ⟨a30, a31, a32, a33, a34, a35, a36, a37, a38⟩ := tt)
      | (go_at_call_of 15 (Value.int IntKind.i64 ((h : Nat) : Int)); refine (Hh.out _).mono ?_; rintro e w4 ⟨rfl, hb4⟩; (have tt := keep8 (g := w.heap.size) (v0 := .string ⟨LK.toArray⟩) (v1 := .string ⟨LA.toArray⟩) (v2 := .int .i64 n) (v3 := .string ⟨LC.toArray⟩) (v4 := .int .i64 d) (v5 := .int .i64 h) (v6 := .int .i64 m) (v7 := .string ⟨LM.toArray⟩) hb4 (by first | (simp; done) | omega | (simp; omega)) (by go_simp) (by go_simp) (by go_simp) (by go_simp) (by go_simp) (by go_simp) (by go_simp) (by go_simp)); obtain ⟨a40, a41, a42, a43, a44, a45, a46, a47, a48⟩ := tt)
      | (go_at_call_of 15 (Value.int IntKind.i64 ((m : Nat) : Int)); refine (Hm.out _).mono ?_; rintro e w5 ⟨rfl, hb5⟩; (have tt := keep8 (g := w.heap.size) (v0 := .string ⟨LK.toArray⟩) (v1 := .string ⟨LA.toArray⟩) (v2 := .int .i64 n) (v3 := .string ⟨LC.toArray⟩) (v4 := .int .i64 d) (v5 := .int .i64 h) (v6 := .int .i64 m) (v7 := .string ⟨LM.toArray⟩) hb5 (by first | (simp; done) | omega | (simp; omega)) (by go_simp) (by go_simp) (by go_simp) (by go_simp) (by go_simp) (by go_simp) (by go_simp) (by go_simp)); obtain ⟨a50, a51, a52, a53, a54, a55, a56, a57, a58⟩ := tt))
    have B2 : Below w.heap.size w w2 := (B1.drew).trans (hb2.mono (B1.drew).size)
    have B3 : Below w.heap.size w w3 := B2.trans (hb3.mono B2.size)
    have B4 : Below w.heap.size w w4 := B3.trans (hb4.mono B3.size)
    have B5 : Below w.heap.size w w5 := B4.trans (hb5.mono B4.size)
    go_wp2_with fail
    go_meet
    refine ⟨?_, B5, a57⟩
    have e1 : (⟨#[32]⟩ : ByteArray) = ⟨[(32 : UInt8)].toArray⟩ := rfl
    rw [e1, HF.out]
    simp only [cat]
  case rest =>
    obtain ⟨rfl, hbc, hc7⟩ := hcut
    have BC : Hid (Below w.heap.size w wc) := hbc
    clear hbc B1 hb1 a10 a11 a12 a13 a14 a15 a16 a17 a18
    cases LM with
    | nil =>
      have E : Hid (text LK LA n LC d h m [] = F) := (by show _ = F; rw [ET.out, if_pos rfl])
      have hne : ((⟨([] : List UInt8).toArray⟩ : ByteArray).toList).isEmpty = true := by simp
      go_wp2_with fail
      go_ret2
      exact ⟨by rw [E.out]; rfl, BC.out⟩
    | cons x r =>
      have E : Hid (text LK LA n LC d h m (x :: r) = F ++ [32] ++ (x :: r)) := (by show _ = _; rw [ET.out, if_neg (by simp)])
      obtain ⟨R, hR⟩ : ∃ R, R = x :: r := ⟨_, rfl⟩
      have hne : R.isEmpty = false := by rw [hR]; rfl
      rw [← hR] at E hc7 hM
      have HR : Hid (R = x :: r) := hR
      clear hR
      go_wp2_with fail
      go_ret2
      refine ⟨?_, BC.out⟩
      show Ending.returned (.tuple #[.string (⟨F.toArray⟩ ++ ⟨#[32]⟩ ++ ⟨R.toArray⟩), .bool true]) = _
      have e1 : (⟨#[32]⟩ : ByteArray) = ⟨[(32 : UInt8)].toArray⟩ := rfl
      rw [← HR.out, E.out, e1]
      simp only [cat]
end Go.Proofs.YtepofpmdkphhdaaDoor.Head
