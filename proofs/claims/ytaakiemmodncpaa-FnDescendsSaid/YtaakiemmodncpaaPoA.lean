/- ProblemOk: the law, with both answers in it. -/
import Derived.Test.YtaakiemmodncpaaPo
import Derived.Test.YtaakiemmodncpaaPoL
namespace Go.Proofs.Ytaakiemmodncpaa.Po
open Go.ChangeShapes Go.WideShapes Go.ChangeAt Go.RowKit
open Go.Proofs.Ytaakiemmodncpaa.Lists Go.Proofs.Ytaakiemmodncpaa.Al

set_option maxHeartbeats 1000000 in
theorem sok_any (n : Int) (G T : List Int) (R : Rw.Ls) (w : World) (vg vt vr : Value) (h : LawPoL.PR w G T R vg vt vr) :
    Calls Try.prog 24 #[Pb.pv n vg vt vr] w fun e w' => e = .returned (.bool (okP n G T R)) ∧ Below w.heap.size w w' := by
  obtain ⟨hG, hT, hR⟩ := h
  unfold okP
  have FULL : inn n 1 6 = true → nums G n (-500) 500 = true → nums T n 1 5 = true → Calls Try.prog 24 #[Pb.pv n vg vt vr] w fun e w' => e = .returned (.bool (roks n R)) ∧ Below w.heap.size w w' := fun q1 q2 q3 => srows n vg vt R vr w hR G T hG hT q1 q2 q3
  obtain ⟨sg, cg, eg⟩ := hG.form
  obtain ⟨st, ct, et⟩ := hT.form
  obtain ⟨sr, cr, er⟩ := hR.form
  subst eg et er
  obtain ⟨w0, hw0⟩ : ∃ w0, w0 = w.alloc (Obj.cells #[.int .i64 n, .slice sg G.length cg, .slice st T.length ct, .slice sr R.length cr] 32) := ⟨_, rfl⟩
  have HW0 : Hid (w0 = w.alloc (Obj.cells #[.int .i64 n, .slice sg G.length cg, .slice st T.length ct, .slice sr R.length cr] 32)) := hw0
  have B0 : Hid (Below w.heap.size w w0) := (by show Below _ _ _; rw [hw0]; exact (Below.refl _ _).alloc (Nat.le_refl _) _)
  have K0 : Pb.Box w0 w.heap.size (.int .i64 n) (.slice sg G.length cg) (.slice st T.length ct) (.slice sr R.length cr) := by rw [hw0]; unfold Pb.Box; simp [go_sem]
  have C1 : Hid (∀ w, Calls Try.prog 26 #[.int .i64 n, .int .i64 1, .int .i64 6] w fun e w' => e = .returned (.bool (inn n 1 6)) ∧ w' = w) := fun w => s_in _ _ _ w
  have C2 : Hid (Calls Try.prog 25 #[.slice sg G.length cg, .int .i64 n, .int .i64 (-500), .int .i64 500] w0 fun e w' => e = .returned (.bool (nums G n (-500) 500)) ∧ ∃ m, w' = w0.drewN m) := sall_any G _ _ _ _ w0 (hG.on B0.out) (Rw.lfits hG)
  have C3 : Hid (∀ m, Calls Try.prog 25 #[.slice st T.length ct, .int .i64 n, .int .i64 1, .int .i64 5] (w0.drewN m) fun e w' => e = .returned (.bool (nums T n 1 5)) ∧ ∃ m', w' = (w0.drewN m).drewN m') := fun m => sall_any T _ _ _ _ _ (hT.on (below_drewN B0.out m)) (Rw.lfits hT)
  clear hG hT hR hw0
  generalize inn n 1 6 = b1 at *
  generalize nums G n (-500) 500 = b2 at *
  generalize nums T n 1 5 = b3 at *
  generalize roks n R = b4 at *
  generalize G.length = ng at *
  generalize T.length = nt at *
  generalize R.length = nr at *
  obtain ⟨k0, k1, k2, k3⟩ := K0
  cases b1
  · go_enter Try.func24, Try.ntmps24
    go_wp2_with fail
    rw [← HW0.out]
    refine (C1.out _).mono ?_
    rintro e w1 ⟨rfl, hw⟩
    have hw' := hw.symm
    subst hw'
    go_wp2_with fail
    go_ret
    exact ⟨rfl, B0.out⟩
  cases b2
  · go_enter Try.func24, Try.ntmps24
    go_wp2_with fail
    rw [← HW0.out]
    refine (C1.out _).mono ?_
    rintro e w1 ⟨rfl, hw⟩
    have hw' := hw.symm
    subst hw'
    go_wp2_with fail
    refine C2.out.mono ?_
    rintro e w2 ⟨rfl, m2, rfl⟩
    go_wp2_with fail
    go_ret
    exact ⟨rfl, below_drewN B0.out _⟩
  cases b3
  · go_enter Try.func24, Try.ntmps24
    go_wp2_with fail
    rw [← HW0.out]
    refine (C1.out _).mono ?_
    rintro e w1 ⟨rfl, hw⟩
    have hw' := hw.symm
    subst hw'
    go_wp2_with fail
    refine C2.out.mono ?_
    rintro e w2 ⟨rfl, m2, rfl⟩
    go_wp2_with fail
    refine (C3.out _).mono ?_
    rintro e w3 ⟨rfl, m3, rfl⟩
    go_wp2_with fail
    go_ret
    exact ⟨rfl, below_drewN B0.out _⟩
  exact FULL rfl rfl rfl
set_option maxHeartbeats 1000000 in
theorem iok_any (n : Int) (G T : List Int) (R : Rw.Ls) (w : World) (vg vt vr : Value) (h : LawPoL.PR w G T R vg vt vr) :
    Calls Try.prog 30 #[Pb.pv n vg vt vr] w fun e w' => e = .returned (.bool (okP n G T R)) ∧ Below w.heap.size w w' := by
  obtain ⟨hG, hT, hR⟩ := h
  unfold okP
  obtain ⟨sg, cg, eg⟩ := hG.form
  obtain ⟨st, ct, et⟩ := hT.form
  obtain ⟨sr, cr, er⟩ := hR.form
  subst eg et er
  obtain ⟨w0, hw0⟩ : ∃ w0, w0 = w.alloc (Obj.cells #[.int .i64 n, .slice sg G.length cg, .slice st T.length ct, .slice sr R.length cr] 32) := ⟨_, rfl⟩
  have HW0 : Hid (w0 = w.alloc (Obj.cells #[.int .i64 n, .slice sg G.length cg, .slice st T.length ct, .slice sr R.length cr] 32)) := hw0
  have B0 : Hid (Below w.heap.size w w0) := (by show Below _ _ _; rw [hw0]; exact (Below.refl _ _).alloc (Nat.le_refl _) _)
  have K0 : Pb.Box w0 w.heap.size (.int .i64 n) (.slice sg G.length cg) (.slice st T.length ct) (.slice sr R.length cr) := by rw [hw0]; unfold Pb.Box; simp [go_sem]
  have C1 : Hid (∀ w, Calls Try.prog 32 #[.int .i64 n, .int .i64 1, .int .i64 6] w fun e w' => e = .returned (.bool (inn n 1 6)) ∧ w' = w) := fun w => i_in _ _ _ w
  have C2 : Hid (Calls Try.prog 46 #[.slice sg G.length cg, .int .i64 n, .int .i64 (-500), .int .i64 500] w0 fun e w' => e = .returned (.bool (nums G n (-500) 500)) ∧ w' = w0) := inums_any G _ _ _ _ w0 (hG.on B0.out) (Rw.lfits hG)
  have C3 : Hid (Calls Try.prog 46 #[.slice st T.length ct, .int .i64 n, .int .i64 1, .int .i64 5] w0 fun e w' => e = .returned (.bool (nums T n 1 5)) ∧ w' = w0) := inums_any T _ _ _ _ w0 (hT.on B0.out) (Rw.lfits hT)
  have C4 : Hid (Calls Try.prog 47 #[Pb.pv n (.slice sg G.length cg) (.slice st T.length ct) (.slice sr R.length cr)] w0 fun e w' => e = .returned (.bool (roks n R)) ∧ Below w0.heap.size w0 w') := irows n _ _ R _ w0 (hR.on B0.out)
  clear hG hT hR hw0
  generalize inn n 1 6 = b1 at *
  generalize nums G n (-500) 500 = b2 at *
  generalize nums T n 1 5 = b3 at *
  generalize roks n R = b4 at *
  generalize G.length = ng at *
  generalize T.length = nt at *
  generalize R.length = nr at *
  obtain ⟨k0, k1, k2, k3⟩ := K0
  cases b1
  · go_enter Try.func30, Try.ntmps30
    go_wp2_with fail
    rw [← HW0.out]
    refine (C1.out _).mono ?_
    rintro e w1 ⟨rfl, hw⟩
    have hw' := hw.symm
    subst hw'
    go_wp2_with fail
    go_ret
    exact ⟨rfl, B0.out⟩
  cases b2
  · go_enter Try.func30, Try.ntmps30
    go_wp2_with fail
    rw [← HW0.out]
    refine (C1.out _).mono ?_
    rintro e w1 ⟨rfl, hw⟩
    have hw' := hw.symm
    subst hw'
    go_wp2_with fail
    refine C2.out.mono ?_
    rintro e w2 ⟨rfl, hw⟩
    have hw' := hw.symm
    subst hw'
    go_wp2_with fail
    go_ret
    exact ⟨rfl, B0.out⟩
  cases b3
  · go_enter Try.func30, Try.ntmps30
    go_wp2_with fail
    rw [← HW0.out]
    refine (C1.out _).mono ?_
    rintro e w1 ⟨rfl, hw⟩
    have hw' := hw.symm
    subst hw'
    go_wp2_with fail
    refine C2.out.mono ?_
    rintro e w2 ⟨rfl, hw⟩
    have hw' := hw.symm
    subst hw'
    go_wp2_with fail
    refine C3.out.mono ?_
    rintro e w3 ⟨rfl, hw⟩
    have hw' := hw.symm
    subst hw'
    go_wp2_with fail
    go_ret
    exact ⟨rfl, B0.out⟩
  go_enter Try.func30, Try.ntmps30
  go_wp2_with fail
  rw [← HW0.out]
  refine (C1.out _).mono ?_
  rintro e w1 ⟨rfl, hw⟩
  have hw' := hw.symm
  subst hw'
  go_wp2_with fail
  refine C2.out.mono ?_
  rintro e w2 ⟨rfl, hw⟩
  have hw' := hw.symm
  subst hw'
  go_wp2_with fail
  refine C3.out.mono ?_
  rintro e w3 ⟨rfl, hw⟩
  have hw' := hw.symm
  subst hw'
  go_wp2_with fail
  refine C4.out.mono ?_
  rintro e w4 ⟨rfl, hb⟩
  have B4 : Hid (Below w.heap.size w w4) := B0.out.trans (hb.mono B0.out.size)
  clear hb
  go_wp2_with fail
  go_ret
  exact ⟨rfl, B4.out⟩
end Go.Proofs.Ytaakiemmodncpaa.Po
