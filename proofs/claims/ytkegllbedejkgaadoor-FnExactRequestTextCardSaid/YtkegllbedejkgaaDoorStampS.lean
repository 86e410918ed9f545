/- The model's stamp of a date. -/
import Derived.Test.YtkegllbedejkgaaDoorDec
import Derived.Deep.RegionWith
import Derived.Deep.RegionHeld3
import Derived.Deep.DrawnRows
import Derived.Deep.Cut
import Derived.Deep.DeepCutAuto
import Derived.Deep.DeepMust
namespace Go.Proofs.YtkegllbedejkgaaDoor.Dec
open Go.ChangeShapes Go.WideShapes Go.ChangeAt Go.RowKit

abbrev p4 (n : Nat) : List UInt8 := pad 4 (Lib.decDigits n)
abbrev p2 (n : Nat) : List UInt8 := pad 2 (Lib.decDigits n)
/-- The stamp of a date. -/
def stampOf (Y M D h m : Nat) : List UInt8 := p4 Y ++ [45] ++ p2 M ++ [45] ++ p2 D ++ [84] ++ p2 h ++ [58] ++ p2 m ++ [90]

attribute [local go_sem ↓] Go.wp_at_zero Go.wp_at_succ

abbrev D5 (Y M D h m : Nat) : Obj := .cells #[.int .i64 Y, .int .i64 M, .int .i64 D, .int .i64 h, .int .i64 m] 50

theorem keep5 {w w' : World} {g Y M D h m : Nat} (hb : Below w.heap.size w w') (hg : g < w.heap.size) (h0 : w.cell? ⟨g, 0, none⟩ = some (.int .i64 Y)) (h1 : w.cell? ⟨g, 1, none⟩ = some (.int .i64 M)) (h2 : w.cell? ⟨g, 2, none⟩ = some (.int .i64 D)) (h3 : w.cell? ⟨g, 3, none⟩ = some (.int .i64 h)) (h4 : w.cell? ⟨g, 4, none⟩ = some (.int .i64 m)) :
    w'.cell? ⟨g, 0, none⟩ = some (.int .i64 Y) ∧ w'.cell? ⟨g, 1, none⟩ = some (.int .i64 M) ∧ w'.cell? ⟨g, 2, none⟩ = some (.int .i64 D) ∧ w'.cell? ⟨g, 3, none⟩ = some (.int .i64 h) ∧ w'.cell? ⟨g, 4, none⟩ = some (.int .i64 m) ∧ g < w'.heap.size :=
  ⟨(hb.cell (p := ⟨g, 0, none⟩) hg).trans h0, (hb.cell (p := ⟨g, 1, none⟩) hg).trans h1, (hb.cell (p := ⟨g, 2, none⟩) hg).trans h2, (hb.cell (p := ⟨g, 3, none⟩) hg).trans h3, (hb.cell (p := ⟨g, 4, none⟩) hg).trans h4, Nat.lt_of_lt_of_le hg hb.size⟩

theorem dec_len2 (n : Nat) (h : n ≤ 99) : (Lib.decDigits n).length ≤ 2 := by
  by_cases c : n < 10
  · rw [Lib.decDigits_one c]; simp
  · rw [Lib.decDigits_two c (by omega)]; simp
theorem dec_len4 (n : Nat) (h : n ≤ 9999) : (Lib.decDigits n).length ≤ 4 := by
  by_cases c : n < 10
  · rw [Lib.decDigits_one c]; simp
  · rw [Lib.decDigits, dif_neg c]
    by_cases c2 : n / 10 < 10
    · rw [Lib.decDigits_one c2]; simp
    · rw [Lib.decDigits, dif_neg c2]
      have := dec_len2 (n / 10 / 10) (by omega)
      simp
      omega
theorem pad_len (k : Nat) (l : List UInt8) (h : l.length ≤ k) : (pad k l).length = k := by
  unfold pad
  simp
  omega

set_option maxHeartbeats 2000000 in
theorem sstamp_any (t : Int) (Y M D h m : Nat) (w : World) (hY : Y ≤ 9999) (hM : M ≤ 99) (hD : D ≤ 99) (hh : h ≤ 99) (hm : m ≤ 99)
    (hd : ∀ w, Calls Tryd.prog 30 #[.int .i64 t] w fun e w' => e = .returned (.tuple #[.agg #[.int .i64 Y, .int .i64 M, .int .i64 D, .int .i64 h, .int .i64 m], .bool true]) ∧ Below w.heap.size w w') :
    Calls Tryd.prog 12 #[.int .i64 t] w fun e w' => e = .returned (.string ⟨(stampOf Y M D h m).toArray⟩) ∧ Below w.heap.size w w' := by
  have eS : stampOf Y M D h m = pad 4 (Lib.decDigits Y) ++ [45] ++ pad 2 (Lib.decDigits M) ++ [45] ++ pad 2 (Lib.decDigits D) ++ [84] ++ pad 2 (Lib.decDigits h) ++ [58] ++ pad 2 (Lib.decDigits m) ++ [90] := rfl
  obtain ⟨LY, lY, hLY⟩ : ∃ L, pad 4 (Lib.decDigits Y) = L ∧ L.length = 4 := ⟨_, rfl, pad_len 4 _ (dec_len4 Y hY)⟩
  obtain ⟨LM, lM, hLM⟩ : ∃ L, pad 2 (Lib.decDigits M) = L ∧ L.length = 2 := ⟨_, rfl, pad_len 2 _ (dec_len2 M hM)⟩
  obtain ⟨LD, lD, hLD⟩ : ∃ L, pad 2 (Lib.decDigits D) = L ∧ L.length = 2 := ⟨_, rfl, pad_len 2 _ (dec_len2 D hD)⟩
  obtain ⟨Lh, lh, hLh⟩ : ∃ L, pad 2 (Lib.decDigits h) = L ∧ L.length = 2 := ⟨_, rfl, pad_len 2 _ (dec_len2 h hh)⟩
  obtain ⟨Lm, lm, hLm⟩ : ∃ L, pad 2 (Lib.decDigits m) = L ∧ L.length = 2 := ⟨_, rfl, pad_len 2 _ (dec_len2 m hm)⟩
  rw [lY, lM, lD, lh, lm] at eS
  have HY : Hid (∀ w, Calls Tryd.prog 31 #[.int .i64 Y, .int .i64 4] w fun e w' => e = .returned (.string ⟨LY.toArray⟩) ∧ Below w.heap.size w w') := fun w => by rw [← lY]; exact pad_any Y 4 w (by omega) (by omega)
  have HM : Hid (∀ w, Calls Tryd.prog 31 #[.int .i64 M, .int .i64 2] w fun e w' => e = .returned (.string ⟨LM.toArray⟩) ∧ Below w.heap.size w w') := fun w => by rw [← lM]; exact pad_any M 2 w (by omega) (by omega)
  have HD : Hid (∀ w, Calls Tryd.prog 31 #[.int .i64 D, .int .i64 2] w fun e w' => e = .returned (.string ⟨LD.toArray⟩) ∧ Below w.heap.size w w') := fun w => by rw [← lD]; exact pad_any D 2 w (by omega) (by omega)
  have Hh : Hid (∀ w, Calls Tryd.prog 31 #[.int .i64 h, .int .i64 2] w fun e w' => e = .returned (.string ⟨Lh.toArray⟩) ∧ Below w.heap.size w w') := fun w => by rw [← lh]; exact pad_any h 2 w (by omega) (by omega)
  have Hm : Hid (∀ w, Calls Tryd.prog 31 #[.int .i64 m, .int .i64 2] w fun e w' => e = .returned (.string ⟨Lm.toArray⟩) ∧ Below w.heap.size w w') := fun w => by rw [← lm]; exact pad_any m 2 w (by omega) (by omega)
  rw [eS]
  clear lY lM lD lh lm eS hY hM hD hh hm
  go_enter Tryd.func12, Tryd.ntmps12
  go_wp2_with fail
  refine (hd _).mono ?_
  rintro e w1 ⟨rfl, hb⟩
  clear hd
  go_upto_region 4 with fail
  go_cut [2] (fun s wx => s = .string ⟨(LY ++ [45] ++ LM ++ [45] ++ LD ++ [84] ++ Lh ++ [58] ++ Lm ++ [90]).toArray⟩ ∧ Below w.heap.size w wx)
  case first =>
    go_region_held3 (fun w' => w'.cell? ⟨w1.heap.size, 0, none⟩ = some (.int .i64 Y) ∧ w'.cell? ⟨w1.heap.size, 1, none⟩ = some (.int .i64 M) ∧ w'.cell? ⟨w1.heap.size, 2, none⟩ = some (.int .i64 D) ∧ w'.cell? ⟨w1.heap.size, 3, none⟩ = some (.int .i64 h) ∧ w'.cell? ⟨w1.heap.size, 4, none⟩ = some (.int .i64 m))
      (go_keep)
      (first
      | (go_at_call_of 31 (Value.int IntKind.i64 ((Y : Nat) : Int)); refine (HY.out _).mono ?_; rintro e w2 ⟨rfl, hb2⟩; (have tt := keep5 (g := w1.heap.size) (Y := Y) (M := M) (D := D) (h := h) (m := m) hb2 (by first | (simp; done) | omega | (simp; omega)) (by go_simp) (by go_simp) (by go_simp) (by go_simp) (by go_simp)); obtain ⟨a20, a21, a22, a23, a24, a25⟩ := tt)
      | (go_at_call_of 31 (Value.int IntKind.i64 ((M : Nat) : Int)); refine (HM.out _).mono ?_; rintro e w3 ⟨rfl, hb3⟩; (have tt := keep5 (g := w1.heap.size) (Y := Y) (M := M) (D := D) (h := h) (m := m) hb3 (by first | (simp; done) | omega | (simp; omega)) (by go_simp) (by go_simp) (by go_simp) (by go_simp) (by go_simp)); obtain ⟨a30, a31, a32, a33, a34, a35⟩ := tt)
      | (go_at_call_of 31 (Value.int IntKind.i64 ((D : Nat) : Int)); refine (HD.out _).mono ?_; rintro e w4 ⟨rfl, hb4⟩; (have tt := keep5 (g := w1.heap.size) (Y := Y) (M := M) (D := D) (h := h) (m := m) hb4 (by first | (simp; done) | omega | (simp; omega)) (by go_simp) (by go_simp) (by go_simp) (by go_simp) (by go_simp)); obtain ⟨a40, a41, a42, a43, a44, a45⟩ := tt)
      | (go_at_call_of 31 (Value.int IntKind.i64 ((h : Nat) : Int)); refine (Hh.out _).mono ?_; rintro e w5 ⟨rfl, hb5⟩; (have tt := keep5 (g := w1.heap.size) (Y := Y) (M := M) (D := D) (h := h) (m := m) hb5 (by first | (simp; done) | omega | (simp; omega)) (by go_simp) (by go_simp) (by go_simp) (by go_simp) (by go_simp)); obtain ⟨a50, a51, a52, a53, a54, a55⟩ := tt)
      | (go_at_call_of 31 (Value.int IntKind.i64 ((m : Nat) : Int)); refine (Hm.out _).mono ?_; rintro e w6 ⟨rfl, hb6⟩; (have tt := keep5 (g := w1.heap.size) (Y := Y) (M := M) (D := D) (h := h) (m := m) hb6 (by first | (simp; done) | omega | (simp; omega)) (by go_simp) (by go_simp) (by go_simp) (by go_simp) (by go_simp)); obtain ⟨a60, a61, a62, a63, a64, a65⟩ := tt))
    have B2 : Below w.heap.size w w2 := by
      refine Below.trans ?_ (Below.mono hb2 ?_)
      · first
        | exact (hb.alloc hb.size _).drew
        | exact hb.alloc hb.size _
      · have := hb.size
        simp
        omega
    have z2 := B2.size
    have B3 : Below w.heap.size w w3 := B2.trans (hb3.mono z2)
    have z3 := B3.size
    have B4 : Below w.heap.size w w4 := B3.trans (hb4.mono z3)
    have z4 := B4.size
    have B5 : Below w.heap.size w w5 := B4.trans (hb5.mono z4)
    have z5 := B5.size
    have B6 : Below w.heap.size w w6 := B5.trans (hb6.mono z5)
    go_wp2_with fail
    go_meet
    refine ⟨?_, B6⟩
    have e1 : (⟨#[45]⟩ : ByteArray) = ⟨[(45 : UInt8)].toArray⟩ := rfl
    have e2 : (⟨#[84]⟩ : ByteArray) = ⟨[(84 : UInt8)].toArray⟩ := rfl
    have e3 : (⟨#[58]⟩ : ByteArray) = ⟨[(58 : UInt8)].toArray⟩ := rfl
    have e4 : (⟨#[90]⟩ : ByteArray) = ⟨[(90 : UInt8)].toArray⟩ := rfl
    rw [e1, e2, e3, e4]
    simp only [cat]
  case rest =>
    obtain ⟨rfl, hbc⟩ := hcut
    go_wp2_with fail
    go_ret
    exact ⟨rfl, hbc⟩
end Go.Proofs.YtkegllbedejkgaaDoor.Dec
