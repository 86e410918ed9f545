/- Cost: the law, with both answers in it. -/
import Derived.Test.YtaakiemmodncpaaCsS
import Derived.Test.YtaakiemmodncpaaCsK
import Derived.Test.YtaakiemmodncpaaPoA
import Derived.Test.YtaakiemmodncpaaCsL
namespace Go.Proofs.Ytaakiemmodncpaa.Cs
open Go.ChangeShapes Go.WideShapes Go.ChangeAt Go.RowKit
open Go.Proofs.Ytaakiemmodncpaa.Lists Go.Proofs.Ytaakiemmodncpaa.Al Go.Proofs.Ytaakiemmodncpaa.Po

def okC (n : Int) (G T : List Int) (R : Rw.Ls) (X : List Int) : Bool := okP n G T R && nums X n (-200000) 200000
def cv (n : Int) (G T : List Int) (R : Rw.Ls) (X : List Int) : Int := if okC n G T R X then cost G T R X G.length else -1
theorem pt_of {n : Int} {G T : List Int} {R : Rw.Ls} {X : List Int} {M : Int} (hM : M ≤ 1000000) (O : Ok n G T R) (h : nums X n (-M) M = true) : Pt G.length X := by
  have a := nums_parts h
  have b := O.nG
  exact ⟨by omega, fun j hj => by have := a.2 j (by omega); omega⟩

set_option maxHeartbeats 1000000 in
theorem ipt_any (n M : Int) (X : List Int) (vg vt vr vx : Value) (w : World) (hX : Lists.Reads w vx X) (hM : 0 ≤ M) (hM' : M ≤ 1000000) :
    Calls Try.prog 31 #[Pb.pv n vg vt vr, vx, .int .i64 M] w fun e w' => e = .returned (.bool (nums X n (-M) M)) ∧ Below w.heap.size w w' := by
  have b0 : Below w.heap.size w (w.alloc (Obj.cells #[.int .i64 n, vg, vt, vr] 32)) := (Below.refl _ _).alloc (Nat.le_refl _) _
  have C : Hid (Calls Try.prog 46 #[vx, .int .i64 n, .int .i64 (-M), .int .i64 M] (w.alloc (Obj.cells #[.int .i64 n, vg, vt, vr] 32)) fun e w' => e = .returned (.bool (nums X n (-M) M)) ∧ w' = w.alloc (Obj.cells #[.int .i64 n, vg, vt, vr] 32)) := inums_any X _ _ _ _ _ (hX.on b0) (Rw.lfits hX)
  have B0 : Hid (Below w.heap.size w (w.alloc (Obj.cells #[.int .i64 n, vg, vt, vr] 32))) := b0
  have wz : IntKind.i64.wrap (-M) = -M := IntWalk.i64_in _ (by omega)
  obtain ⟨ax, dx, ex⟩ := hX.form
  subst ex
  clear hX b0
  generalize nums X n (-M) M = b at *
  generalize X.length = nx at *
  go_enter Try.func31, Try.ntmps31
  go_wp2_with fail
  refine C.out.mono ?_
  rintro e w1 ⟨rfl, hw⟩
  have B1 : Hid (Below w.heap.size w w1) := (by show Below _ _ _; rw [hw]; exact B0.out)
  clear hw
  go_wp2_with fail
  go_ret
  exact ⟨rfl, B1.out⟩

set_option maxHeartbeats 1000000 in
theorem scost_all (n : Int) (G T : List Int) (R : Rw.Ls) (X : List Int) (w : World) (vg vt vr vx : Value) (h : LawCsL.PR w G T R vg vt vr) (hX : Lists.Reads w vx X) :
    Calls Try.prog 19 #[Pb.pv n vg vt vr, vx] w fun e w' => e = .returned (.int .i64 (cv n G T R X)) ∧ Below w.heap.size w w' := by
  obtain ⟨hG, hT, hR⟩ := h
  obtain ⟨sg, cg, eg⟩ := hG.form
  obtain ⟨st, ct, et⟩ := hT.form
  obtain ⟨sr, cr, er⟩ := hR.form
  obtain ⟨sx, cx, ex⟩ := hX.form
  subst eg et er ex
  obtain ⟨w0, hw0⟩ : ∃ w0, w0 = w.alloc (Obj.cells #[.int .i64 n, .slice sg G.length cg, .slice st T.length ct, .slice sr R.length cr] 32) := ⟨_, rfl⟩
  have HW0 : Hid (w0 = w.alloc (Obj.cells #[.int .i64 n, .slice sg G.length cg, .slice st T.length ct, .slice sr R.length cr] 32)) := hw0
  have B0 : Below w.heap.size w w0 := by rw [hw0]; exact (Below.refl _ _).alloc (Nat.le_refl _) _
  have Z0 : Hid (w0.heap.size = w.heap.size + 1) := (by show _ = _; rw [hw0]; simp)
  have K0 : Hid (Pb.Box w0 w.heap.size (.int .i64 n) (.slice sg G.length cg) (.slice st T.length ct) (.slice sr R.length cr)) := (by show Pb.Box _ _ _ _ _ _; rw [hw0]; unfold Pb.Box; simp [go_sem])
  have HB : Hid (Below w.heap.size w w0) := B0
  have C1 : Hid (Calls Try.prog 24 #[Pb.pv n (.slice sg G.length cg) (.slice st T.length ct) (.slice sr R.length cr)] w0 fun e w' => e = .returned (.bool (okP n G T R)) ∧ Below w0.heap.size w0 w') := sok_any n G T R w0 _ _ _ ⟨hG.on B0, hT.on B0, hR.on B0⟩
  have C2 : Hid (∀ w', Below w.heap.size w w' → Calls Try.prog 25 #[.slice sx X.length cx, .int .i64 n, .int .i64 (-200000), .int .i64 200000] w' fun e w'' => e = .returned (.bool (nums X n (-200000) 200000)) ∧ ∃ m, w'' = w'.drewN m) := fun w' hb => sall_any X _ _ _ _ w' (hX.on hb) (Rw.lfits hX)
  have C3 : Hid (okP n G T R = true → nums X n (-200000) 200000 = true → ∀ w', Below w.heap.size w w' → Calls Try.prog 28 #[Pb.pv n (.slice sg G.length cg) (.slice st T.length ct) (.slice sr R.length cr), .slice sx X.length cx] w' fun e w'' => e = .returned (.int .i64 (cost G T R X G.length)) ∧ Below w'.heap.size w' w'') := fun h1 h2 w' hb => by
    have O := ok_of h1
    have PX := pt_of (by omega) O h2
    have e := O.nG
    rw [← e] at O ⊢
    exact scost_any G T R X G.length O PX _ _ _ _ w' (hG.on hb) (hT.on hb) (hR.on hb) (hX.on hb)
  have HV : Hid (cv n G T R X = if (okP n G T R && nums X n (-200000) 200000) then cost G T R X G.length else -1) := rfl
  generalize cv n G T R X = V at *
  clear hG hT hR hX hw0 B0
  generalize okP n G T R = b1 at *
  generalize nums X n (-200000) 200000 = b2 at *
  generalize cost G T R X G.length = Z at *
  generalize G.length = ng at *
  generalize T.length = nt at *
  generalize R.length = nr at *
  generalize X.length = nx at *
  obtain ⟨k0, k1, k2, k3⟩ := K0.out
  cases b1
  · go_enter Try.func19, Try.ntmps19
    go_wp2_with fail
    rw [← HW0.out]
    refine C1.out.mono ?_
    rintro e w1 ⟨rfl, hb⟩
    have B1 : Hid (Below w.heap.size w w1) := HB.out.trans (hb.mono HB.out.size)
    have S1 : Hid (w0.heap.size ≤ w1.heap.size) := hb.size
    have K1 : Hid (Pb.Box w1 w.heap.size (.int .i64 n) (.slice sg ng cg) (.slice st nt ct) (.slice sr nr cr)) := K0.out.on hb (by have := Z0.out; omega)
    clear hb k0 k1 k2 k3
    obtain ⟨k0, k1, k2, k3⟩ := K1.out
    go_wp2_with fail
    go_ret
    exact ⟨by rw [HV.out]; rfl, B1.out⟩
  cases b2
  · go_enter Try.func19, Try.ntmps19
    go_wp2_with fail
    rw [← HW0.out]
    refine C1.out.mono ?_
    rintro e w1 ⟨rfl, hb⟩
    have B1 : Hid (Below w.heap.size w w1) := HB.out.trans (hb.mono HB.out.size)
    have S1 : Hid (w0.heap.size ≤ w1.heap.size) := hb.size
    have K1 : Hid (Pb.Box w1 w.heap.size (.int .i64 n) (.slice sg ng cg) (.slice st nt ct) (.slice sr nr cr)) := K0.out.on hb (by have := Z0.out; omega)
    clear hb k0 k1 k2 k3
    obtain ⟨k0, k1, k2, k3⟩ := K1.out
    go_wp2_with fail
    refine (C2.out _ B1.out).mono ?_
    rintro e w2 ⟨rfl, m2, hw⟩
    have B2 : Hid (Below w.heap.size w w2) := (by show Below _ _ _; rw [hw]; exact below_drewN B1.out m2)
    have K2 : Hid (Pb.Box w2 w.heap.size (.int .i64 n) (.slice sg ng cg) (.slice st nt ct) (.slice sr nr cr)) := (by show Pb.Box _ _ _ _ _ _; rw [hw]; exact K1.out)
    clear hw k0 k1 k2 k3
    obtain ⟨k0, k1, k2, k3⟩ := K2.out
    go_wp2_with fail
    go_ret
    exact ⟨by rw [HV.out]; rfl, B2.out⟩
  · go_enter Try.func19, Try.ntmps19
    go_wp2_with fail
    rw [← HW0.out]
    refine C1.out.mono ?_
    rintro e w1 ⟨rfl, hb⟩
    have B1 : Hid (Below w.heap.size w w1) := HB.out.trans (hb.mono HB.out.size)
    have S1 : Hid (w0.heap.size ≤ w1.heap.size) := hb.size
    have K1 : Hid (Pb.Box w1 w.heap.size (.int .i64 n) (.slice sg ng cg) (.slice st nt ct) (.slice sr nr cr)) := K0.out.on hb (by have := Z0.out; omega)
    clear hb k0 k1 k2 k3
    obtain ⟨k0, k1, k2, k3⟩ := K1.out
    go_wp2_with fail
    refine (C2.out _ B1.out).mono ?_
    rintro e w2 ⟨rfl, m2, hw⟩
    have B2 : Hid (Below w.heap.size w w2) := (by show Below _ _ _; rw [hw]; exact below_drewN B1.out m2)
    have K2 : Hid (Pb.Box w2 w.heap.size (.int .i64 n) (.slice sg ng cg) (.slice st nt ct) (.slice sr nr cr)) := (by show Pb.Box _ _ _ _ _ _; rw [hw]; exact K1.out)
    clear hw k0 k1 k2 k3
    obtain ⟨k0, k1, k2, k3⟩ := K2.out
    go_wp2_with fail
    refine (C3.out (by trivial) (by trivial) _ B2.out).mono ?_
    rintro e w3 ⟨rfl, hb⟩
    have B3 : Hid (Below w.heap.size w w3) := B2.out.trans (hb.mono B2.out.size)
    clear hb
    go_wp2_with fail
    go_ret
    exact ⟨by rw [HV.out]; rfl, B3.out⟩
set_option maxHeartbeats 1000000 in
theorem icost_all (n : Int) (G T : List Int) (R : Rw.Ls) (X : List Int) (w : World) (vg vt vr vx : Value) (h : LawCsL.PR w G T R vg vt vr) (hX : Lists.Reads w vx X) :
    Calls Try.prog 20 #[Pb.pv n vg vt vr, vx] w fun e w' => e = .returned (.int .i64 (cv n G T R X)) ∧ Below w.heap.size w w' := by
  obtain ⟨hG, hT, hR⟩ := h
  obtain ⟨sg, cg, eg⟩ := hG.form
  obtain ⟨st, ct, et⟩ := hT.form
  obtain ⟨sr, cr, er⟩ := hR.form
  obtain ⟨sx, cx, ex⟩ := hX.form
  subst eg et er ex
  obtain ⟨w0, hw0⟩ : ∃ w0, w0 = w.alloc (Obj.cells #[.int .i64 n, .slice sg G.length cg, .slice st T.length ct, .slice sr R.length cr] 32) := ⟨_, rfl⟩
  have HW0 : Hid (w0 = w.alloc (Obj.cells #[.int .i64 n, .slice sg G.length cg, .slice st T.length ct, .slice sr R.length cr] 32)) := hw0
  have B0 : Below w.heap.size w w0 := by rw [hw0]; exact (Below.refl _ _).alloc (Nat.le_refl _) _
  have Z0 : Hid (w0.heap.size = w.heap.size + 1) := (by show _ = _; rw [hw0]; simp)
  have K0 : Hid (Pb.Box w0 w.heap.size (.int .i64 n) (.slice sg G.length cg) (.slice st T.length ct) (.slice sr R.length cr)) := (by show Pb.Box _ _ _ _ _ _; rw [hw0]; unfold Pb.Box; simp [go_sem])
  have HB : Hid (Below w.heap.size w w0) := B0
  have C1 : Hid (Calls Try.prog 30 #[Pb.pv n (.slice sg G.length cg) (.slice st T.length ct) (.slice sr R.length cr)] w0 fun e w' => e = .returned (.bool (okP n G T R)) ∧ Below w0.heap.size w0 w') := iok_any n G T R w0 _ _ _ ⟨hG.on B0, hT.on B0, hR.on B0⟩
  have C2 : Hid (∀ w', Below w.heap.size w w' → Calls Try.prog 31 #[Pb.pv n (.slice sg G.length cg) (.slice st T.length ct) (.slice sr R.length cr), .slice sx X.length cx, .int .i64 200000] w' fun e w'' => e = .returned (.bool (nums X n (-200000) 200000)) ∧ Below w'.heap.size w' w'') := fun w' hb => ipt_any n 200000 X _ _ _ _ w' (hX.on hb) (by omega) (by omega)
  have C3 : Hid (okP n G T R = true → nums X n (-200000) 200000 = true → ∀ w', Below w.heap.size w w' → Calls Try.prog 35 #[Pb.pv n (.slice sg G.length cg) (.slice st T.length ct) (.slice sr R.length cr), .slice sx X.length cx] w' fun e w'' => e = .returned (.int .i64 (cost G T R X G.length)) ∧ Below w'.heap.size w' w'') := fun h1 h2 w' hb => by
    have O := ok_of h1
    have PX := pt_of (by omega) O h2
    have e := O.nG
    rw [← e] at O ⊢
    exact icost_any G T R X G.length O PX _ _ _ _ w' (hG.on hb) (hT.on hb) (hR.on hb) (hX.on hb)
  have HV : Hid (cv n G T R X = if (okP n G T R && nums X n (-200000) 200000) then cost G T R X G.length else -1) := rfl
  generalize cv n G T R X = V at *
  clear hG hT hR hX hw0 B0
  generalize okP n G T R = b1 at *
  generalize nums X n (-200000) 200000 = b2 at *
  generalize cost G T R X G.length = Z at *
  generalize G.length = ng at *
  generalize T.length = nt at *
  generalize R.length = nr at *
  generalize X.length = nx at *
  obtain ⟨k0, k1, k2, k3⟩ := K0.out
  cases b1
  · go_enter Try.func20, Try.ntmps20
    go_wp2_with fail
    rw [← HW0.out]
    refine C1.out.mono ?_
    rintro e w1 ⟨rfl, hb⟩
    have B1 : Hid (Below w.heap.size w w1) := HB.out.trans (hb.mono HB.out.size)
    have S1 : Hid (w0.heap.size ≤ w1.heap.size) := hb.size
    have K1 : Hid (Pb.Box w1 w.heap.size (.int .i64 n) (.slice sg ng cg) (.slice st nt ct) (.slice sr nr cr)) := K0.out.on hb (by have := Z0.out; omega)
    clear hb k0 k1 k2 k3
    obtain ⟨k0, k1, k2, k3⟩ := K1.out
    go_wp2_with fail
    go_ret
    exact ⟨by rw [HV.out]; rfl, B1.out⟩
  cases b2
  · go_enter Try.func20, Try.ntmps20
    go_wp2_with fail
    rw [← HW0.out]
    refine C1.out.mono ?_
    rintro e w1 ⟨rfl, hb⟩
    have B1 : Hid (Below w.heap.size w w1) := HB.out.trans (hb.mono HB.out.size)
    have S1 : Hid (w0.heap.size ≤ w1.heap.size) := hb.size
    have K1 : Hid (Pb.Box w1 w.heap.size (.int .i64 n) (.slice sg ng cg) (.slice st nt ct) (.slice sr nr cr)) := K0.out.on hb (by have := Z0.out; omega)
    clear hb k0 k1 k2 k3
    obtain ⟨k0, k1, k2, k3⟩ := K1.out
    go_wp2_with fail
    refine (C2.out _ B1.out).mono ?_
    rintro e w2 ⟨rfl, hb⟩
    have B2 : Hid (Below w.heap.size w w2) := B1.out.trans (hb.mono B1.out.size)
    have K2 : Hid (Pb.Box w2 w.heap.size (.int .i64 n) (.slice sg ng cg) (.slice st nt ct) (.slice sr nr cr)) := K1.out.on hb (by have := Z0.out; have := S1.out; omega)
    clear hb k0 k1 k2 k3
    obtain ⟨k0, k1, k2, k3⟩ := K2.out
    go_wp2_with fail
    go_ret
    exact ⟨by rw [HV.out]; rfl, B2.out⟩
  · go_enter Try.func20, Try.ntmps20
    go_wp2_with fail
    rw [← HW0.out]
    refine C1.out.mono ?_
    rintro e w1 ⟨rfl, hb⟩
    have B1 : Hid (Below w.heap.size w w1) := HB.out.trans (hb.mono HB.out.size)
    have S1 : Hid (w0.heap.size ≤ w1.heap.size) := hb.size
    have K1 : Hid (Pb.Box w1 w.heap.size (.int .i64 n) (.slice sg ng cg) (.slice st nt ct) (.slice sr nr cr)) := K0.out.on hb (by have := Z0.out; omega)
    clear hb k0 k1 k2 k3
    obtain ⟨k0, k1, k2, k3⟩ := K1.out
    go_wp2_with fail
    refine (C2.out _ B1.out).mono ?_
    rintro e w2 ⟨rfl, hb⟩
    have B2 : Hid (Below w.heap.size w w2) := B1.out.trans (hb.mono B1.out.size)
    have K2 : Hid (Pb.Box w2 w.heap.size (.int .i64 n) (.slice sg ng cg) (.slice st nt ct) (.slice sr nr cr)) := K1.out.on hb (by have := Z0.out; have := S1.out; omega)
    clear hb k0 k1 k2 k3
    obtain ⟨k0, k1, k2, k3⟩ := K2.out
    go_wp2_with fail
    refine (C3.out (by trivial) (by trivial) _ B2.out).mono ?_
    rintro e w3 ⟨rfl, hb⟩
    have B3 : Hid (Below w.heap.size w w3) := B2.out.trans (hb.mono B2.out.size)
    clear hb
    go_wp2_with fail
    go_ret
    exact ⟨by rw [HV.out]; rfl, B3.out⟩
end Go.Proofs.Ytaakiemmodncpaa.Cs
