/- requestOk. -/
import Derived.Test.YtkegllbedejkgaaDoorWp
namespace Go.Proofs.YtkegllbedejkgaaDoor.Ix
open Go.ChangeShapes Go.WideShapes Go.ChangeAt Go.RowKit
open Al Eo
abbrev Rq := List ByteArray × List Int × List Int × List Int
/-- a request's four lists in memory -/
structure RqR (w : World) (vP vT vS vL : Value) (R : Rq) : Prop where
  p : Reads w vP R.1
  t : Lists.Reads w vT R.2.1
  s : Lists.Reads w vS R.2.2.1
  l : Lists.Reads w vL R.2.2.2
  z : ∀ i, i < R.1.length → (R.1.getD i ⟨#[]⟩).size ≤ 1048576
theorem RqR.on {w w' : World} {vP vT vS vL : Value} {R : Rq} (h : RqR w vP vT vS vL R) (hb : Below w.heap.size w w') : RqR w' vP vT vS vL R := ⟨h.p.on hb, h.t.on hb, h.s.on hb, h.l.on hb, h.z⟩
def okR (R : Rq) : Bool := okP R.1 && (okI (fun n => inn n 0 52596000) R.2.1 && (okI (fun n => inn n 0 360) R.2.2.1 && okI (fun n => inn n 0 1100) R.2.2.2))

set_option maxHeartbeats 1000000 in
theorem requestOk_any (R : Rq) (vP vT vS vL : Value) (w : World) (h : RqR w vP vT vS vL R) : Calls Tryd.prog 17 #[.agg #[vP, vT, vS, vL]] w fun e w' => e = .returned (.bool (okR R)) ∧ Below w.heap.size w w' := by
  have HB : Below w.heap.size w (w.alloc (Obj.cells #[vP, vT, vS, vL] 28)) := (Below.refl _ _).alloc (Nat.le_refl _) _
  have BB : Hid (Below w.heap.size w (w.alloc (Obj.cells #[vP, vT, vS, vL] 28))) := HB
  have h' := h.on HB
  unfold okR
  obtain ⟨w0, hw0⟩ : ∃ w0, w0 = w.alloc (Obj.cells #[vP, vT, vS, vL] 28) := ⟨_, rfl⟩
  obtain ⟨q0, hq0⟩ : ∃ q, q = okP R.1 := ⟨_, rfl⟩
  have C0 : Hid (Calls Tryd.prog 33 #[vP, .func (.func 34) #[] #[]] w0 fun e w' => e = .returned (.bool q0) ∧ w' = w0) := hq0 ▸ wantP_any R.1 h'.z vP w0 (hw0 ▸ h'.p)
  rw [← hq0]
  obtain ⟨q1, hq1⟩ : ∃ q, q = okI (fun n => inn n 0 52596000) R.2.1 := ⟨_, rfl⟩
  have C1 : Hid (Calls Tryd.prog 35 #[vT, .func (.func 36) #[] #[]] w0 fun e w' => e = .returned (.bool q1) ∧ w' = w0) := hq1 ▸ wantT_any _ itime_any R.2.1 vT w0 (hw0 ▸ h'.t)
  rw [← hq1]
  obtain ⟨q2, hq2⟩ : ∃ q, q = okI (fun n => inn n 0 360) R.2.2.1 := ⟨_, rfl⟩
  have C2 : Hid (Calls Tryd.prog 35 #[vS, .func (.func 37) #[] #[]] w0 fun e w' => e = .returned (.bool q2) ∧ w' = w0) := hq2 ▸ wantS_any _ iahead_any R.2.2.1 vS w0 (hw0 ▸ h'.s)
  rw [← hq2]
  obtain ⟨q3, hq3⟩ : ∃ q, q = okI (fun n => inn n 0 1100) R.2.2.2 := ⟨_, rfl⟩
  have C3 : Hid (Calls Tryd.prog 35 #[vL, .func (.func 38) #[] #[]] w0 fun e w' => e = .returned (.bool q3) ∧ w' = w0) := hq3 ▸ wantL_any _ ilevel_any R.2.2.2 vL w0 (hw0 ▸ h'.l)
  rw [← hq3]
  obtain ⟨pa, pc, hp⟩ := h.p.form
  obtain ⟨ta, tc, ht⟩ := h.t.form
  obtain ⟨sa, sc, hs⟩ := h.s.form
  obtain ⟨la, lc, hl⟩ := h.l.form
  generalize R.1.length = np at *
  generalize R.2.1.length = nt at *
  generalize R.2.2.1.length = ns at *
  generalize R.2.2.2.length = nl at *
  subst hp ht hs hl
  have k0 : w0.cell? ⟨w.heap.size, 0, none⟩ = some (.slice pa np pc) := by rw [hw0]; simp [go_sem]
  have k1 : w0.cell? ⟨w.heap.size, 1, none⟩ = some (.slice ta nt tc) := by rw [hw0]; simp [go_sem]
  have k2 : w0.cell? ⟨w.heap.size, 2, none⟩ = some (.slice sa ns sc) := by rw [hw0]; simp [go_sem]
  have k3 : w0.cell? ⟨w.heap.size, 3, none⟩ = some (.slice la nl lc) := by rw [hw0]; simp [go_sem]
  have HW : Hid (w0 = w.alloc (Obj.cells #[.slice pa np pc, .slice ta nt tc, .slice sa ns sc, .slice la nl lc] 28)) := hw0
  rw [← hw0] at BB
  clear hq0 hq1 hq2 hq3 h h' HB hw0
  go_enter Tryd.func17, Tryd.ntmps17
  go_wp2_with fail
  rw [← HW.out]
  refine C0.out.mono ?_
  rintro e w1 ⟨rfl, hw⟩
  subst hw
  cases q0
  · go_wp2_with fail
    go_ret
    exact ⟨rfl, BB.out⟩
  go_wp2_with fail
  refine C1.out.mono ?_
  rintro e w1 ⟨rfl, hw⟩
  subst hw
  cases q1
  · go_wp2_with fail
    go_ret
    exact ⟨rfl, BB.out⟩
  go_wp2_with fail
  refine C2.out.mono ?_
  rintro e w1 ⟨rfl, hw⟩
  subst hw
  cases q2
  · go_wp2_with fail
    go_ret
    exact ⟨rfl, BB.out⟩
  go_wp2_with fail
  refine C3.out.mono ?_
  rintro e w1 ⟨rfl, hw⟩
  subst hw
  go_wp2_with fail
  go_ret
  exact ⟨rfl, BB.out⟩
end Go.Proofs.YtkegllbedejkgaaDoor.Ix
