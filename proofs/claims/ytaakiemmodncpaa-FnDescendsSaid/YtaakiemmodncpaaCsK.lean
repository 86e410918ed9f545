/- The cost of a point: the program, whole. -/
import Derived.Test.YtaakiemmodncpaaCsJ
namespace Go.Proofs.Ytaakiemmodncpaa.Cs
open Go.ChangeShapes Go.WideShapes Go.ChangeAt Go.RowKit
open Go.Proofs.Ytaakiemmodncpaa.Lists Go.Proofs.Ytaakiemmodncpaa.Al Go.Proofs.Ytaakiemmodncpaa.Su Go.Proofs.Ytaakiemmodncpaa.Po

set_option maxHeartbeats 1000000 in
theorem over51 (G T : List Int) (R : Rw.Ls) (X : List Int) (nn : Nat) (O : Ok nn G T R) (PX : Pt nn X) (b3 : Nat) (n : Int) (vg vt vr vx : Value) (w : World) (hR : Rw.Reads w vr R) (hX : Lists.Reads w vx X)
    (hb3 : b3 < w.heap.size) (q3 : w.cell? ⟨b3, 0, none⟩ = some vx) :
    Calls Try.prog 48 #[Pb.pv n vg vt vr, .func (.func 56) #[] #[.pointer (some ⟨b3, 0, none⟩)]] w fun e w' => e = .returned (.int .i64 (cr R X nn R.length)) ∧ Below w.heap.size w w' := by
  obtain ⟨W, hW⟩ : ∃ W, W = (w.alloc (Obj.cells #[.int .i64 n, vg, vt, vr] 32)).alloc (Obj.cells #[.func (.func 56) #[] #[.pointer (some ⟨b3, 0, none⟩)]] 75) := ⟨_, rfl⟩
  have HW : Hid (W = (w.alloc (Obj.cells #[.int .i64 n, vg, vt, vr] 32)).alloc (Obj.cells #[.func (.func 56) #[] #[.pointer (some ⟨b3, 0, none⟩)]] 75)) := hW
  have B0 : Below w.heap.size w W := (by rw [hW]; exact ((Below.refl _ _).alloc (Nat.le_refl _) _).alloc (by simp) _)
  have zW : W.heap.size = w.heap.size + 2 := by rw [hW]; simp
  have d0 : W.cell? ⟨w.heap.size, 3, none⟩ = some vr := by rw [hW]; simp [go_sem]
  have d1 : W.cell? ⟨w.heap.size + 1, 0, none⟩ = some (.func (.func 56) #[] #[.pointer (some ⟨b3, 0, none⟩)]) := by rw [hW]; simp [go_sem]
  have S : Hid (Calls Try.prog 54 #[.int .i64 (R.length : Int), .func (.func 61) #[] #[.pointer (some ⟨w.heap.size + 1, 0, none⟩), .pointer (some ⟨w.heap.size, 0, none⟩)]] W fun e w' => e = .returned (.int .i64 (cr R X nn R.length)) ∧ Below W.heap.size W w') := by
    refine summed56 (fun x => Below W.heap.size W x) R.length _ _ (crm R X nn) W (Below.refl _ _) (by have := O.nR; omega) (fun k hk w' hw' => ?_) (fun j hj => ?_)
    · have sz := hw'.size
      refine (cl56 G T R X nn k O PX hk (w.heap.size + 1) w.heap.size b3 vr vx w' ((hR.on B0).on hw') ((hX.on B0).on hw') (by omega) (by omega) (by omega) ((hw'.cell (p := ⟨w.heap.size + 1, 0, none⟩) (by show w.heap.size + 1 < _; omega)).trans d1) ((hw'.cell (p := ⟨w.heap.size, 3, none⟩) (by show w.heap.size < _; omega)).trans d0) ((hw'.cell (p := ⟨b3, 0, none⟩) (by show b3 < _; omega)).trans ((B0.cell (p := ⟨b3, 0, none⟩) hb3).trans q3))).mono ?_
      rintro e w'' ⟨rfl, hb⟩
      exact ⟨rfl, hw'.trans (hb.mono sz)⟩
    · have := cr_b O PX j hj
      unfold cr at this
      omega
  obtain ⟨ar, cr', er⟩ := hR.form
  subst er
  have HB : Hid (Below w.heap.size w W) := B0
  clear hR hX q3 hW B0 zW O PX
  generalize cr R X nn R.length = Z at *
  generalize R.length = lr at *
  go_enter Try.func48, Try.ntmps48
  go_wp2_with fail
  rw [← HW.out]
  refine (Calls.mono S.out) ?_
  rintro e w5 ⟨rfl, hb⟩
  have B5 : Hid (Below w.heap.size w w5) := HB.out.trans (hb.mono HB.out.size)
  clear hb
  go_wp2_with fail
  go_ret
  exact ⟨rfl, B5.out⟩

set_option maxHeartbeats 1000000 in
theorem icost_any (G T : List Int) (R : Rw.Ls) (X : List Int) (nn : Nat) (O : Ok nn G T R) (PX : Pt nn X) (vg vt vr vx : Value) (w : World) (hG : Lists.Reads w vg G) (hT : Lists.Reads w vt T) (hR : Rw.Reads w vr R) (hX : Lists.Reads w vx X) :
    Calls Try.prog 35 #[Pb.pv nn vg vt vr, vx] w fun e w' => e = .returned (.int .i64 (cost G T R X nn)) ∧ Below w.heap.size w w' := by
  have n1 := O.n1
  have n6 := O.n6
  have nG := O.nG
  have nT := O.nT
  obtain ⟨bg, og, cg, rfl, bgl, hcg⟩ := at_of hG (show G.length = nn by omega) (by omega)
  obtain ⟨bt, ot, ct', rfl, btl, hct⟩ := at_of hT (show T.length = nn by omega) (by omega)
  obtain ⟨bx, ox, cx, rfl, bxl, hcx⟩ := at_of hX PX.len (by omega)
  obtain ⟨W, hW⟩ : ∃ W, W = (w.alloc (Obj.cells #[.int .i64 (nn : Int), .slice (some ⟨bg, og, none⟩) nn cg, .slice (some ⟨bt, ot, none⟩) nn ct', vr] 32)).alloc (Obj.cells #[.slice (some ⟨bx, ox, none⟩) nn cx] 22) := ⟨_, rfl⟩
  have HW : Hid (W = (w.alloc (Obj.cells #[.int .i64 (nn : Int), .slice (some ⟨bg, og, none⟩) nn cg, .slice (some ⟨bt, ot, none⟩) nn ct', vr] 32)).alloc (Obj.cells #[.slice (some ⟨bx, ox, none⟩) nn cx] 22)) := hW
  have B0 : Below w.heap.size w W := (by rw [hW]; exact ((Below.refl _ _).alloc (Nat.le_refl _) _).alloc (by simp) _)
  have zW : W.heap.size = w.heap.size + 2 := by rw [hW]; simp
  have d0 : W.cell? ⟨w.heap.size, 0, none⟩ = some (.int .i64 (nn : Int)) := by rw [hW]; simp [go_sem]
  have d1 : W.cell? ⟨w.heap.size, 1, none⟩ = some (.slice (some ⟨bg, og, none⟩) nn cg) := by rw [hW]; simp [go_sem]
  have d2 : W.cell? ⟨w.heap.size, 2, none⟩ = some (.slice (some ⟨bt, ot, none⟩) nn ct') := by rw [hW]; simp [go_sem]
  have d3 : W.cell? ⟨w.heap.size, 3, none⟩ = some vr := by rw [hW]; simp [go_sem]
  have d4 : W.cell? ⟨w.heap.size + 1, 0, none⟩ = some (.slice (some ⟨bx, ox, none⟩) nn cx) := by rw [hW]; simp [go_sem]
  have S1 : Hid (∀ m, Calls Try.prog 54 #[.int .i64 (nn : Int), .func (.func 55) #[] #[.pointer (some ⟨w.heap.size, 0, none⟩), .pointer (some ⟨w.heap.size + 1, 0, none⟩)]] (W.drewN m) fun e w' => e = .returned (.int .i64 (ct G T X nn)) ∧ ∃ m', w' = W.drewN m') := fun m => by
    refine summed48 (fun x => ∃ m', x = W.drewN m') nn _ _ (ctm G T X) _ ⟨m, rfl⟩ (by omega) (fun i hi w' hw' => ?_) (fun j hj => ?_)
    · obtain ⟨m', rfl⟩ := hw'
      have a := O.gb i (by omega)
      have b := O.tb i (by omega)
      have c := PX.b i hi
      have d := sq_bound (a := X.getD i 0 - G.getD i 0) (A := 1000500) (by omega)
      have e := ctm_b O PX i hi
      unfold ctm at e
      refine (cl48 w.heap.size (w.heap.size + 1) bt ot bg og bx ox nn cg ct' cx i (T.getD i 0) (G.getD i 0) (X.getD i 0) (W.drewN m') hi d1 d2 d4 ((B0.cell (p := ⟨bt, ot + i, none⟩) btl).trans (hct i hi)) ((B0.cell (p := ⟨bg, og + i, none⟩) bgl).trans (hcg i hi)) ((B0.cell (p := ⟨bx, ox + i, none⟩) bxl).trans (hcx i hi)) (IntWalk.i64_in _ (by omega)) (IntWalk.i64_in _ (by omega)) (IntWalk.i64_in _ (by omega))).mono ?_
      rintro e w' ⟨rfl, m2, rfl⟩
      exact ⟨rfl, m' + m2, by simp⟩
    · have := ct_b O PX j hj
      unfold ct at this
      omega
  have S2 : Hid (∀ m, Calls Try.prog 48 #[Pb.pv nn (.slice (some ⟨bg, og, none⟩) nn cg) (.slice (some ⟨bt, ot, none⟩) nn ct') vr, .func (.func 56) #[] #[.pointer (some ⟨w.heap.size + 1, 0, none⟩)]] (W.drewN m) fun e w' => e = .returned (.int .i64 (cr R X nn R.length)) ∧ Below W.heap.size (W.drewN m) w') := fun m =>
    over51 G T R X nn O PX (w.heap.size + 1) nn _ _ vr _ (W.drewN m) (hR.on (below_drewN B0 m)) (hX.on (below_drewN B0 m)) (by show w.heap.size + 1 < W.heap.size; omega) d4
  have s1 := ct_b O PX nn (Nat.le_refl _)
  have s2 := cr_b O PX R.length (Nat.le_refl _)
  have wz : IntKind.i64.wrap (ct G T X nn + cr R X nn R.length) = ct G T X nn + cr R X nn R.length := IntWalk.i64_in _ (by omega)
  obtain ⟨ar, cr', er⟩ := hR.form
  subst er
  have HB : Hid (Below w.heap.size w W) := B0
  have HC : Hid (cost G T R X nn = ct G T X nn + cr R X nn R.length) := rfl
  rw [HC.out]
  clear hR hX hG hT hW B0 zW O PX s1 s2 hcg hct hcx nG nT HC
  generalize cr R X nn R.length = Z at *
  generalize ct G T X nn = Y at *
  generalize R.length = lr at *
  go_enter Try.func35, Try.ntmps35
  go_wp2_with fail
  rw [← HW.out]
  refine (S1.out 0).mono ?_
  rintro e w5 ⟨rfl, m5, rfl⟩
  go_wp2_with fail
  refine (S2.out m5).mono ?_
  rintro e w6 ⟨rfl, hb⟩
  have B6 : Hid (Below w.heap.size w w6) := (below_drewN HB.out m5).trans (hb.mono HB.out.size)
  clear hb
  go_wp2_with fail
  go_ret
  exact ⟨rfl, B6.out⟩
end Go.Proofs.Ytaakiemmodncpaa.Cs
