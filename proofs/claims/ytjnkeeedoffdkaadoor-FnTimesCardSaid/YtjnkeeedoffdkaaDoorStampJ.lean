/- The program's stamp of a date, under the library's contracts. -/
import Derived.Test.YtjnkeeedoffdkaaDoorStampI
namespace Go.Proofs.YtjnkeeedoffdkaaDoor.Dec
open Go.ChangeShapes Go.WideShapes Go.ChangeAt Go.RowKit

attribute [local go_sem ↓] Go.wp_at_zero Go.wp_at_succ

abbrev T10 (LY LM LD Lh Lm : List UInt8) : Obj := .cells #[.string ⟨LY.toArray⟩, .string ⟨#[45]⟩, .string ⟨LM.toArray⟩, .string ⟨#[45]⟩, .string ⟨LD.toArray⟩, .string ⟨#[84]⟩, .string ⟨Lh.toArray⟩, .string ⟨#[58]⟩, .string ⟨Lm.toArray⟩, .string ⟨#[90]⟩] 9

theorem ten (w : World) (LY LM LD Lh Lm : List UInt8) : ∀ (j : Nat) x, [LY, [45], LM, [45], LD, [84], Lh, [58], Lm, [90]][j]? = some x → (w.alloc (T10 LY LM LD Lh Lm)).cell? ⟨w.heap.size, j, none⟩ = some (.string ⟨x.toArray⟩) := by
  intro j x hj
  have hj' := (List.getElem?_eq_some_iff.1 hj).1
  simp at hj'
  rcases (by omega : j = 0 ∨ j = 1 ∨ j = 2 ∨ j = 3 ∨ j = 4 ∨ j = 5 ∨ j = 6 ∨ j = 7 ∨ j = 8 ∨ j = 9) with rfl | rfl | rfl | rfl | rfl | rfl | rfl | rfl | rfl | rfl
  all_goals
    simp at hj
    subst hj
    simp [go_sem]

theorem keep5a {w w' : World} {o : Obj} {g Y M D h m : Nat} (hb : Below (w.alloc o).heap.size (w.alloc o) w') (hg : g < w.heap.size) (h0 : w.cell? ⟨g, 0, none⟩ = some (.int .i64 Y)) (h1 : w.cell? ⟨g, 1, none⟩ = some (.int .i64 M)) (h2 : w.cell? ⟨g, 2, none⟩ = some (.int .i64 D)) (h3 : w.cell? ⟨g, 3, none⟩ = some (.int .i64 h)) (h4 : w.cell? ⟨g, 4, none⟩ = some (.int .i64 m)) :
    w'.cell? ⟨g, 0, none⟩ = some (.int .i64 Y) ∧ w'.cell? ⟨g, 1, none⟩ = some (.int .i64 M) ∧ w'.cell? ⟨g, 2, none⟩ = some (.int .i64 D) ∧ w'.cell? ⟨g, 3, none⟩ = some (.int .i64 h) ∧ w'.cell? ⟨g, 4, none⟩ = some (.int .i64 m) ∧ g < w'.heap.size := by
  have hb' : Below w.heap.size w w' := ((Below.refl w.heap.size w).alloc (Nat.le_refl _) o).trans (hb.mono (by simp))
  exact keep5 hb' hg h0 h1 h2 h3 h4

set_option maxHeartbeats 2000000 in
theorem istamp_any {T : World → Prop} (X : LibC T) (t : Int) (Y M D h m : Nat) (w : World) (hT : T w) (hY : Y ≤ 9999) (hM : M ≤ 99) (hD : D ≤ 99) (hh : h ≤ 99) (hm : m ≤ 99)
    (hd : Calls Tryd.prog 7 #[.int .i64 t] w fun e w' => e = .returned (.tuple #[.agg #[.int .i64 Y, .int .i64 M, .int .i64 D, .int .i64 h, .int .i64 m], .bool true]) ∧ Below w.heap.size w w') :
    Calls Tryd.prog 8 #[.int .i64 t] w fun e w' => e = .returned (.string ⟨(stampOf Y M D h m).toArray⟩) ∧ Below w.heap.size w w' := by
  have eS : stampOf Y M D h m = pad 4 (Lib.decDigits Y) ++ [45] ++ pad 2 (Lib.decDigits M) ++ [45] ++ pad 2 (Lib.decDigits D) ++ [84] ++ pad 2 (Lib.decDigits h) ++ [58] ++ pad 2 (Lib.decDigits m) ++ [90] := rfl
  obtain ⟨LY, lY, hLY⟩ : ∃ L, pad 4 (Lib.decDigits Y) = L ∧ L.length = 4 := ⟨_, rfl, pad_len 4 _ (dec_len4 Y hY)⟩
  obtain ⟨LM, lM, hLM⟩ : ∃ L, pad 2 (Lib.decDigits M) = L ∧ L.length = 2 := ⟨_, rfl, pad_len 2 _ (dec_len2 M hM)⟩
  obtain ⟨LD, lD, hLD⟩ : ∃ L, pad 2 (Lib.decDigits D) = L ∧ L.length = 2 := ⟨_, rfl, pad_len 2 _ (dec_len2 D hD)⟩
  obtain ⟨Lh, lh, hLh⟩ : ∃ L, pad 2 (Lib.decDigits h) = L ∧ L.length = 2 := ⟨_, rfl, pad_len 2 _ (dec_len2 h hh)⟩
  obtain ⟨Lm, lm, hLm⟩ : ∃ L, pad 2 (Lib.decDigits m) = L ∧ L.length = 2 := ⟨_, rfl, pad_len 2 _ (dec_len2 m hm)⟩
  rw [lY, lM, lD, lh, lm] at eS
  have HY : Hid (∀ w, T w → Calls Tryd.prog 22 #[.int .i64 Y, .int .i64 4] w fun e w' => e = .returned (.string ⟨LY.toArray⟩) ∧ Below w.heap.size w w') := fun w ht => by rw [← lY]; exact padded_any X Y 4 w ht (by omega) (by omega)
  have HM : Hid (∀ w, T w → Calls Tryd.prog 22 #[.int .i64 M, .int .i64 2] w fun e w' => e = .returned (.string ⟨LM.toArray⟩) ∧ Below w.heap.size w w') := fun w ht => by rw [← lM]; exact padded_any X M 2 w ht (by omega) (by omega)
  have HD : Hid (∀ w, T w → Calls Tryd.prog 22 #[.int .i64 D, .int .i64 2] w fun e w' => e = .returned (.string ⟨LD.toArray⟩) ∧ Below w.heap.size w w') := fun w ht => by rw [← lD]; exact padded_any X D 2 w ht (by omega) (by omega)
  have Hh : Hid (∀ w, T w → Calls Tryd.prog 22 #[.int .i64 h, .int .i64 2] w fun e w' => e = .returned (.string ⟨Lh.toArray⟩) ∧ Below w.heap.size w w') := fun w ht => by rw [← lh]; exact padded_any X h 2 w ht (by omega) (by omega)
  have Hm : Hid (∀ w, T w → Calls Tryd.prog 22 #[.int .i64 m, .int .i64 2] w fun e w' => e = .returned (.string ⟨Lm.toArray⟩) ∧ Below w.heap.size w w') := fun w ht => by rw [← lm]; exact padded_any X m 2 w ht (by omega) (by omega)
  rw [eS]
  have HJ : Hid (∀ w : World, Calls Tryd.prog 21 #[.slice (some ⟨w.heap.size, 0, none⟩) 10 10] (w.alloc (T10 LY LM LD Lh Lm)) fun e w' => e = .returned (.string ⟨(LY ++ [45] ++ LM ++ [45] ++ LD ++ [84] ++ Lh ++ [58] ++ Lm ++ [90]).toArray⟩) ∧ Below (w.alloc (T10 LY LM LD Lh Lm)).heap.size (w.alloc (T10 LY LM LD Lh Lm)) w') := fun w => by
    refine (joined_any X w.heap.size 10 10 [LY, [45], LM, [45], LD, [84], Lh, [58], Lm, [90]] _ rfl (ten w LY LM LD Lh Lm) (by simp) (by simp) (by simp) (by simp; omega)).mono ?_
    rintro e w' ⟨rfl, hb⟩
    exact ⟨by simp, hb⟩
  clear lY lM lD lh lm eS hY hM hD hh hm
  go_enter Tryd.func8, Tryd.ntmps8
  go_wp2_with fail
  refine hd.mono ?_
  rintro e w1 ⟨rfl, hb⟩
  clear hd
  have hT1 : T (w1.alloc (D5 Y M D h m)).drew := X.keep w _ hT (hb.alloc hb.size _).drew
  go_upto_region 4 with fail
  go_cut [2] (fun s wx => s = .string ⟨(LY ++ [45] ++ LM ++ [45] ++ LD ++ [84] ++ Lh ++ [58] ++ Lm ++ [90]).toArray⟩ ∧ Below w.heap.size w wx)
  case first =>
    go_region_held3 (fun w' => w'.cell? ⟨w1.heap.size, 0, none⟩ = some (.int .i64 Y) ∧ w'.cell? ⟨w1.heap.size, 1, none⟩ = some (.int .i64 M) ∧ w'.cell? ⟨w1.heap.size, 2, none⟩ = some (.int .i64 D) ∧ w'.cell? ⟨w1.heap.size, 3, none⟩ = some (.int .i64 h) ∧ w'.cell? ⟨w1.heap.size, 4, none⟩ = some (.int .i64 m))
      (go_keep)
      (first
      | (go_at_call_of 22 (Value.int IntKind.i64 ((Y : Nat) : Int)); refine (HY.out _ (by assumption)).mono ?_; rintro e w2 ⟨rfl, hb2⟩; (have tk2 : T w2 := X.keep _ _ (by assumption) hb2); (have tt := keep5 (g := w1.heap.size) (Y := Y) (M := M) (D := D) (h := h) (m := m) hb2 (by first | (simp; done) | omega | (simp; omega)) (by go_simp) (by go_simp) (by go_simp) (by go_simp) (by go_simp)); obtain ⟨a20, a21, a22, a23, a24, a25⟩ := tt)
      | (go_at_call_of 22 (Value.int IntKind.i64 ((M : Nat) : Int)); refine (HM.out _ (by assumption)).mono ?_; rintro e w3 ⟨rfl, hb3⟩; (have tk3 : T w3 := X.keep _ _ (by assumption) hb3); (have tt := keep5 (g := w1.heap.size) (Y := Y) (M := M) (D := D) (h := h) (m := m) hb3 (by first | (simp; done) | omega | (simp; omega)) (by go_simp) (by go_simp) (by go_simp) (by go_simp) (by go_simp)); obtain ⟨a30, a31, a32, a33, a34, a35⟩ := tt)
      | (go_at_call_of 22 (Value.int IntKind.i64 ((D : Nat) : Int)); refine (HD.out _ (by assumption)).mono ?_; rintro e w4 ⟨rfl, hb4⟩; (have tk4 : T w4 := X.keep _ _ (by assumption) hb4); (have tt := keep5 (g := w1.heap.size) (Y := Y) (M := M) (D := D) (h := h) (m := m) hb4 (by first | (simp; done) | omega | (simp; omega)) (by go_simp) (by go_simp) (by go_simp) (by go_simp) (by go_simp)); obtain ⟨a40, a41, a42, a43, a44, a45⟩ := tt)
      | (go_at_call_of 22 (Value.int IntKind.i64 ((h : Nat) : Int)); refine (Hh.out _ (by assumption)).mono ?_; rintro e w5 ⟨rfl, hb5⟩; (have tk5 : T w5 := X.keep _ _ (by assumption) hb5); (have tt := keep5 (g := w1.heap.size) (Y := Y) (M := M) (D := D) (h := h) (m := m) hb5 (by first | (simp; done) | omega | (simp; omega)) (by go_simp) (by go_simp) (by go_simp) (by go_simp) (by go_simp)); obtain ⟨a50, a51, a52, a53, a54, a55⟩ := tt)
      | (go_at_call_of 22 (Value.int IntKind.i64 ((m : Nat) : Int)); refine (Hm.out _ (by assumption)).mono ?_; rintro e w6 ⟨rfl, hb6⟩; (have tk6 : T w6 := X.keep _ _ (by assumption) hb6); (have tt := keep5 (g := w1.heap.size) (Y := Y) (M := M) (D := D) (h := h) (m := m) hb6 (by first | (simp; done) | omega | (simp; omega)) (by go_simp) (by go_simp) (by go_simp) (by go_simp) (by go_simp)); obtain ⟨a60, a61, a62, a63, a64, a65⟩ := tt)
      | (go_at_call 21; refine (HJ.out _).mono ?_; rintro e w7 ⟨rfl, hb7⟩; (have tt := keep5a (g := w1.heap.size) (Y := Y) (M := M) (D := D) (h := h) (m := m) hb7 (by assumption) (by assumption) (by assumption) (by assumption) (by assumption) (by assumption)); obtain ⟨a70, a71, a72, a73, a74, a75⟩ := tt))
    have B2 : Below w.heap.size w w2 := by
      refine Below.trans ?_ (Below.mono hb2 ?_)
      · exact (hb.alloc hb.size _).drew
      · have := hb.size
        simp
        omega
    have z2 := B2.size
    have B3 : Below w.heap.size w w3 := B2.trans (hb3.mono z2)
    have z3 := B3.size
    have B4 : Below w.heap.size w w4 := B3.trans (hb4.mono z3)
    have z4 := B4.size
    have B5 : Below w.heap.size w w5 := B4.trans (hb5.mono z4)
    have z5 := B5.size
    have B6 : Below w.heap.size w w6 := B5.trans (hb6.mono z5)
    have z6 := B6.size
    have B7 : Below w.heap.size w w7 := (B6.alloc z6 _).trans (hb7.mono (by simp; omega))
    go_wp2_with fail
    go_meet
    exact ⟨by simp, B7⟩
  case rest =>
    obtain ⟨rfl, hbc⟩ := hcut
    go_wp2_with fail
    go_ret
    exact ⟨rfl, hbc⟩
end Go.Proofs.YtjnkeeedoffdkaaDoor.Dec
