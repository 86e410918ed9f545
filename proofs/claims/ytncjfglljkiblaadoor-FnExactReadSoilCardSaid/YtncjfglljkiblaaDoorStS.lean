/- The text of a soil: plainly; the model. -/
import Derived.Test.YtncjfglljkiblaaDoorStP
import Derived.Deep.RegionHeld3
import Derived.Deep.DeepCutAuto
namespace Go.Proofs.YtncjfglljkiblaaDoor.So
open Go.ChangeShapes Go.WideShapes Go.ChangeAt Go.RowKit
open Go.Proofs.YtncjfglljkiblaaDoor.Dec

theorem keep5 {w w' : World} {g : Nat} {Y M D h m : Int} (hb : Below w.heap.size w w') (hg : g < w.heap.size) (h0 : w.cell? ⟨g, 0, none⟩ = some (.int .i64 Y)) (h1 : w.cell? ⟨g, 1, none⟩ = some (.int .i64 M)) (h2 : w.cell? ⟨g, 2, none⟩ = some (.int .i64 D)) (h3 : w.cell? ⟨g, 3, none⟩ = some (.int .i64 h)) (h4 : w.cell? ⟨g, 4, none⟩ = some (.int .i64 m)) :
    w'.cell? ⟨g, 0, none⟩ = some (.int .i64 Y) ∧ w'.cell? ⟨g, 1, none⟩ = some (.int .i64 M) ∧ w'.cell? ⟨g, 2, none⟩ = some (.int .i64 D) ∧ w'.cell? ⟨g, 3, none⟩ = some (.int .i64 h) ∧ w'.cell? ⟨g, 4, none⟩ = some (.int .i64 m) ∧ g < w'.heap.size :=
  ⟨(hb.cell (p := ⟨g, 0, none⟩) hg).trans h0, (hb.cell (p := ⟨g, 1, none⟩) hg).trans h1, (hb.cell (p := ⟨g, 2, none⟩) hg).trans h2, (hb.cell (p := ⟨g, 3, none⟩) hg).trans h3, (hb.cell (p := ⟨g, 4, none⟩) hg).trans h4, Nat.lt_of_lt_of_le hg hb.size⟩

set_option maxHeartbeats 1000000 in
theorem stext_no (a b c d f : Int) (w : World) (h : okB a b c d f = false) : Calls Tryd.prog 10 #[sv a b c d f] w fun e w' => e = .returned (.string ⟨#[]⟩) ∧ Below w.heap.size w w' := by
  have C := sok_any a b c d f
  rw [h] at C
  have HC : Hid (∀ w, Calls Tryd.prog 9 #[sv a b c d f] w fun e w' => e = .returned (.bool false) ∧ Below w.heap.size w w') := C
  clear C h
  go_enter Tryd.func10, Tryd.ntmps10
  go_wp2_with fail
  refine (HC.out _).mono ?_
  rintro e w1 ⟨rfl, hb⟩
  have HB : Hid (Below w.heap.size w w1) := ((Below.refl _ _).alloc (Nat.le_refl _) _).trans (hb.mono (by simp))
  clear hb
  go_wp2_with fail
  go_ret
  exact ⟨rfl, HB.out⟩

set_option maxHeartbeats 1000000 in
theorem stext_yes (a b c d f : Int) (w : World) (h : okB a b c d f = true) : Calls Tryd.prog 10 #[sv a b c d f] w fun e w' => e = .returned (.string ⟨(tx a b c d f).toArray⟩) ∧ Below w.heap.size w w' := by
  have C := sok_any a b c d f
  rw [h] at C
  have HC : Hid (∀ w, Calls Tryd.prog 9 #[sv a b c d f] w fun e w' => e = .returned (.bool true) ∧ Below w.heap.size w w') := C
  obtain ⟨p1, p2, p3, p4, p5, p6⟩ := okB_parts h
  clear p6
  have eS : tx a b c d f = dd a ++ [32] ++ dd b ++ [32] ++ dd c ++ [32] ++ dd d ++ [32] ++ dd f := by unfold tx; simp
  obtain ⟨La, la, hLa⟩ : ∃ L, dd a = L ∧ L.length ≤ 13 := ⟨_, rfl, dd_len (by omega) (by omega)⟩
  obtain ⟨Lb, lb, hLb⟩ : ∃ L, dd b = L ∧ L.length ≤ 13 := ⟨_, rfl, dd_len (by omega) (by omega)⟩
  obtain ⟨Lc, lc, hLc⟩ : ∃ L, dd c = L ∧ L.length ≤ 13 := ⟨_, rfl, dd_len (by omega) (by omega)⟩
  obtain ⟨Ld, ld, hLd⟩ : ∃ L, dd d = L ∧ L.length ≤ 13 := ⟨_, rfl, dd_len (by omega) (by omega)⟩
  obtain ⟨Lf, lf, hLf⟩ : ∃ L, dd f = L ∧ L.length ≤ 13 := ⟨_, rfl, dd_len (by omega) (by omega)⟩
  have Ha : Hid (∀ w, Calls Tryd.prog 16 #[.int .i64 a] w fun e w' => e = .returned (.string ⟨La.toArray⟩) ∧ Below w.heap.size w w') := fun w => by rw [← la]; exact dec_int (by omega) (by omega) w
  have Hb : Hid (∀ w, Calls Tryd.prog 16 #[.int .i64 b] w fun e w' => e = .returned (.string ⟨Lb.toArray⟩) ∧ Below w.heap.size w w') := fun w => by rw [← lb]; exact dec_int (by omega) (by omega) w
  have Hc : Hid (∀ w, Calls Tryd.prog 16 #[.int .i64 c] w fun e w' => e = .returned (.string ⟨Lc.toArray⟩) ∧ Below w.heap.size w w') := fun w => by rw [← lc]; exact dec_int (by omega) (by omega) w
  have Hd : Hid (∀ w, Calls Tryd.prog 16 #[.int .i64 d] w fun e w' => e = .returned (.string ⟨Ld.toArray⟩) ∧ Below w.heap.size w w') := fun w => by rw [← ld]; exact dec_int (by omega) (by omega) w
  have Hf : Hid (∀ w, Calls Tryd.prog 16 #[.int .i64 f] w fun e w' => e = .returned (.string ⟨Lf.toArray⟩) ∧ Below w.heap.size w w') := fun w => by rw [← lf]; exact dec_int (by omega) (by omega) w
  rw [la, lb, lc, ld, lf] at eS
  rw [eS]
  have u0 : ¬ 9223372036854775807 < La.length + 1 := by omega
  have u1 : ¬ 9223372036854775807 < La.length + 1 + Lb.length := by omega
  have u2 : ¬ 9223372036854775807 < La.length + 1 + Lb.length + 1 := by omega
  have u3 : ¬ 9223372036854775807 < La.length + 1 + Lb.length + 1 + Lc.length := by omega
  have u4 : ¬ 9223372036854775807 < La.length + 1 + Lb.length + 1 + Lc.length + 1 := by omega
  have u5 : ¬ 9223372036854775807 < La.length + 1 + Lb.length + 1 + Lc.length + 1 + Ld.length := by omega
  have u6 : ¬ 9223372036854775807 < La.length + 1 + Lb.length + 1 + Lc.length + 1 + Ld.length + 1 := by omega
  have u7 : ¬ 9223372036854775807 < La.length + 1 + Lb.length + 1 + Lc.length + 1 + Ld.length + 1 + Lf.length := by omega
  clear la lb lc ld lf eS C h p1 p2 p3 p4 p5
  go_enter Tryd.func10, Tryd.ntmps10
  go_wp2_with fail
  refine (HC.out _).mono ?_
  rintro e w1 ⟨rfl, hb⟩
  have B1 : Below w.heap.size w w1 := ((Below.refl _ _).alloc (Nat.le_refl _) _).trans (hb.mono (by simp))
  have z1 : w.heap.size < w1.heap.size := (by have := hb.size; simp at this; omega)
  have c0 : w1.cell? ⟨w.heap.size, 0, none⟩ = some (.int .i64 a) := (hb.cell (p := ⟨w.heap.size, 0, none⟩) (by simp)).trans (by simp [go_sem])
  have c1 : w1.cell? ⟨w.heap.size, 1, none⟩ = some (.int .i64 b) := (hb.cell (p := ⟨w.heap.size, 1, none⟩) (by simp)).trans (by simp [go_sem])
  have c2 : w1.cell? ⟨w.heap.size, 2, none⟩ = some (.int .i64 c) := (hb.cell (p := ⟨w.heap.size, 2, none⟩) (by simp)).trans (by simp [go_sem])
  have c3 : w1.cell? ⟨w.heap.size, 3, none⟩ = some (.int .i64 d) := (hb.cell (p := ⟨w.heap.size, 3, none⟩) (by simp)).trans (by simp [go_sem])
  have c4 : w1.cell? ⟨w.heap.size, 4, none⟩ = some (.int .i64 f) := (hb.cell (p := ⟨w.heap.size, 4, none⟩) (by simp)).trans (by simp [go_sem])
  clear hb HC
  go_upto_region 3 with fail
  go_cut [2] (fun s wx => s = .string ⟨(La ++ [32] ++ Lb ++ [32] ++ Lc ++ [32] ++ Ld ++ [32] ++ Lf).toArray⟩ ∧ Below w.heap.size w wx)
  case first =>
    go_region_held3 (fun w' => w'.cell? ⟨w.heap.size, 0, none⟩ = some (.int .i64 a) ∧ w'.cell? ⟨w.heap.size, 1, none⟩ = some (.int .i64 b) ∧ w'.cell? ⟨w.heap.size, 2, none⟩ = some (.int .i64 c) ∧ w'.cell? ⟨w.heap.size, 3, none⟩ = some (.int .i64 d) ∧ w'.cell? ⟨w.heap.size, 4, none⟩ = some (.int .i64 f))
      (go_keep)
      (first
      | (go_at_call_of 16 (Value.int IntKind.i64 a); refine (Ha.out _).mono ?_; rintro e w2 ⟨rfl, hb2⟩; (have tt := keep5 (g := w.heap.size) (Y := a) (M := b) (D := c) (h := d) (m := f) hb2 (by first | (simp; done) | omega | (simp; omega)) (by go_simp) (by go_simp) (by go_simp) (by go_simp) (by go_simp)); obtain ⟨a20, a21, a22, a23, a24, a25⟩ := tt)
      | (go_at_call_of 16 (Value.int IntKind.i64 b); refine (Hb.out _).mono ?_; rintro e w3 ⟨rfl, hb3⟩; (have tt := keep5 (g := w.heap.size) (Y := a) (M := b) (D := c) (h := d) (m := f) hb3 (by first | (simp; done) | omega | (simp; omega)) (by go_simp) (by go_simp) (by go_simp) (by go_simp) (by go_simp)); obtain ⟨a30, a31, a32, a33, a34, a35⟩ := tt)
      | (go_at_call_of 16 (Value.int IntKind.i64 c); refine (Hc.out _).mono ?_; rintro e w4 ⟨rfl, hb4⟩; (have tt := keep5 (g := w.heap.size) (Y := a) (M := b) (D := c) (h := d) (m := f) hb4 (by first | (simp; done) | omega | (simp; omega)) (by go_simp) (by go_simp) (by go_simp) (by go_simp) (by go_simp)); obtain ⟨a40, a41, a42, a43, a44, a45⟩ := tt)
      | (go_at_call_of 16 (Value.int IntKind.i64 d); refine (Hd.out _).mono ?_; rintro e w5 ⟨rfl, hb5⟩; (have tt := keep5 (g := w.heap.size) (Y := a) (M := b) (D := c) (h := d) (m := f) hb5 (by first | (simp; done) | omega | (simp; omega)) (by go_simp) (by go_simp) (by go_simp) (by go_simp) (by go_simp)); obtain ⟨a50, a51, a52, a53, a54, a55⟩ := tt)
      | (go_at_call_of 16 (Value.int IntKind.i64 f); refine (Hf.out _).mono ?_; rintro e w6 ⟨rfl, hb6⟩; (have tt := keep5 (g := w.heap.size) (Y := a) (M := b) (D := c) (h := d) (m := f) hb6 (by first | (simp; done) | omega | (simp; omega)) (by go_simp) (by go_simp) (by go_simp) (by go_simp) (by go_simp)); obtain ⟨a60, a61, a62, a63, a64, a65⟩ := tt))
    have B2 : Below w.heap.size w w2 := by
      refine Below.trans ?_ (Below.mono hb2 ?_)
      · first
        | exact B1.drew
        | exact B1
      · have := B1.size
        simp
        omega
    have z2 := B2.size
    have B3 : Below w.heap.size w w3 := B2.trans (hb3.mono z2)
    have z3 := B3.size
    have B4 : Below w.heap.size w w4 := B3.trans (hb4.mono z3)
    have z4 := B4.size
    have B5 : Below w.heap.size w w5 := B4.trans (hb5.mono z4)
    have z5 := B5.size
    have B6 : Below w.heap.size w w6 := B5.trans (hb6.mono z5)
    go_wp2_with fail
    go_meet
    refine ⟨?_, B6⟩
    have e1 : (⟨#[32]⟩ : ByteArray) = ⟨[(32 : UInt8)].toArray⟩ := rfl
    rw [e1]
    simp only [cat]
  case rest =>
    obtain ⟨rfl, hbc⟩ := hcut
    go_wp2_with fail
    go_ret
    exact ⟨rfl, hbc⟩
end Go.Proofs.YtncjfglljkiblaaDoor.So
