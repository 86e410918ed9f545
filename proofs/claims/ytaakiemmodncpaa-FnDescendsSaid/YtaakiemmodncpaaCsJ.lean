/- The cost of a point: the program, the rows. -/
import Derived.Test.YtaakiemmodncpaaCsI
namespace Go.Proofs.Ytaakiemmodncpaa.Cs
open Go.ChangeShapes Go.WideShapes Go.ChangeAt Go.RowKit
open Go.Proofs.Ytaakiemmodncpaa.Lists Go.Proofs.Ytaakiemmodncpaa.Al Go.Proofs.Ytaakiemmodncpaa.Su Go.Proofs.Ytaakiemmodncpaa.Po

set_option maxHeartbeats 1000000 in
theorem cl51 (b0 : Nat) (H X : List Int) (y wt : Int) (n : Nat) (vh vx : Value) (w : World) (hH : Lists.Reads w vh H) (hX : Lists.Reads w vx X) (lH : H.length = n) (lX : X.length = n) (n1 : 1 ≤ n) (n6 : n ≤ 6)
    (hb : ∀ j, j < n → -5000000 ≤ H.getD j 0 * X.getD j 0 ∧ H.getD j 0 * X.getD j 0 ≤ 5000000) (hy : -500 ≤ y ∧ y ≤ 500) (hw : 1 ≤ wt ∧ wt ≤ 5) (hb0 : b0 < w.heap.size) (q0 : w.cell? ⟨b0, 0, none⟩ = some vx) :
    Calls Try.prog 56 #[.agg #[vh, .int .i64 y, .int .i64 wt], .pointer (some ⟨b0, 0, none⟩)] w fun e w' => e = .returned (.int .i64 (wt * ((hx H X n - y) * (hx H X n - y)))) ∧ Below w.heap.size w w' := by
  have sb := sm_bound (n := n) (f := fun i => H.getD i 0 * X.getD i 0) (M := 5000000) hb n (Nat.le_refl _)
  have e0 : hx H X n = sm n (fun i => H.getD i 0 * X.getD i 0) := rfl
  rw [← e0] at sb
  have s1 : -30000500 ≤ hx H X n - y ∧ hx H X n - y ≤ 30000500 := by omega
  have s2 := sq_bound s1
  have s3 := mul_abs (a := wt) (b := (hx H X n - y) * (hx H X n - y)) (A := 5) (B := 900030000250000) (by omega) (by omega)
  obtain ⟨W, hW⟩ : ∃ W, W = w.alloc (Obj.cells #[vh, .int .i64 y, .int .i64 wt] 51) := ⟨_, rfl⟩
  have HW : Hid (W = w.alloc (Obj.cells #[vh, .int .i64 y, .int .i64 wt] 51)) := hW
  have B0 : Below w.heap.size w W := (by rw [hW]; exact (Below.refl _ _).alloc (Nat.le_refl _) _)
  have zW : W.heap.size = w.heap.size + 1 := by rw [hW]; simp
  have M1 : Hid (Calls Try.prog 52 #[.agg #[vh, .int .i64 y, .int .i64 wt], vx] W.drew fun e w' => e = .returned (.int .i64 (hx H X n - y)) ∧ Below W.drew.heap.size W.drew w') := missed_any H X y wt n vh vx W.drew (hH.on (below_drewN B0 1)) (hX.on (below_drewN B0 1)) lH lX n1 n6 hb hy
  have M2 : Hid (∀ w, Calls Try.prog 50 #[.int .i64 (hx H X n - y)] w fun e w' => e = .returned (.int .i64 ((hx H X n - y) * (hx H X n - y))) ∧ w' = w) := fun w => sq_any _ w (IntWalk.i64_in _ (by omega))
  have wz : IntKind.i64.wrap (wt * ((hx H X n - y) * (hx H X n - y))) = wt * ((hx H X n - y) * (hx H X n - y)) := IntWalk.i64_in _ (by omega)
  have d0 : W.cell? ⟨w.heap.size, 0, none⟩ = some vh := by rw [hW]; simp [go_sem]
  have d1 : W.cell? ⟨w.heap.size, 1, none⟩ = some (.int .i64 y) := by rw [hW]; simp [go_sem]
  have d2 : W.cell? ⟨w.heap.size, 2, none⟩ = some (.int .i64 wt) := by rw [hW]; simp [go_sem]
  have d3 : W.cell? ⟨b0, 0, none⟩ = some vx := (B0.cell (p := ⟨b0, 0, none⟩) hb0).trans q0
  have HL : Hid (w.heap.size < W.drew.heap.size ∧ b0 < W.drew.heap.size) := (by show _ ∧ _; constructor <;> (show _ < W.heap.size; omega))
  have HB : Hid (Below w.heap.size w W.drew) := below_drewN B0 1
  obtain ⟨ah, dh, eh⟩ := hH.form
  obtain ⟨ax, dx, ex⟩ := hX.form
  subst eh ex
  clear hH hX lH lX hb sb e0 s1 s2 s3 hW B0 zW q0
  generalize H.length = nh at *
  generalize X.length = nx at *
  generalize hx H X n - y = d at *
  generalize hz : d * d = dd at *
  have HZ : Hid (d * d = dd) := hz
  clear hz
  go_enter Try.func56, Try.ntmps56
  go_wp2_with fail
  rw [← HW.out]
  go_region_held3 (fun w' => w'.cell? ⟨w.heap.size, 0, none⟩ = some (.slice ah nh dh) ∧ w'.cell? ⟨w.heap.size, 1, none⟩ = some (.int .i64 y) ∧ w'.cell? ⟨w.heap.size, 2, none⟩ = some (.int .i64 wt) ∧ w'.cell? ⟨b0, 0, none⟩ = some (.slice ax nx dx)) (go_keep)
    (first
    | (go_at_call 52; refine (Calls.mono M1.out) ?_; rintro e w5 ⟨rfl, hb⟩; have B5 : Hid (Below w.heap.size w w5) := HB.out.trans (hb.mono HB.out.size); have p0 := (hb.cell (p := ⟨w.heap.size, 0, none⟩) HL.out.1).trans d0; have p1 := (hb.cell (p := ⟨w.heap.size, 1, none⟩) HL.out.1).trans d1; have p2 := (hb.cell (p := ⟨w.heap.size, 2, none⟩) HL.out.1).trans d2; have p3 := (hb.cell (p := ⟨b0, 0, none⟩) HL.out.2).trans d3; clear hb)
    | (go_at_call 50; refine (M2.out _).mono ?_; rintro e w6 ⟨rfl, hw6⟩; have hw6' := hw6.symm; subst hw6'))
  go_wp2_with fail
  go_ret
  exact ⟨rfl, B5.out⟩

set_option maxHeartbeats 1000000 in
theorem cl56 (G T : List Int) (R : Rw.Ls) (X : List Int) (nn k : Nat) (O : Ok nn G T R) (PX : Pt nn X) (hk : k < R.length) (b1 b2 b3 : Nat) (vr vx : Value) (w : World) (hR : Rw.Reads w vr R) (hX : Lists.Reads w vx X)
    (hb1 : b1 < w.heap.size) (hb2 : b2 < w.heap.size) (hb3 : b3 < w.heap.size) (q1 : w.cell? ⟨b1, 0, none⟩ = some (.func (.func 56) #[] #[.pointer (some ⟨b3, 0, none⟩)])) (q2 : w.cell? ⟨b2, 3, none⟩ = some vr) (q3 : w.cell? ⟨b3, 0, none⟩ = some vx) :
    Calls Try.prog 61 #[.int .i64 (k : Int), .pointer (some ⟨b1, 0, none⟩), .pointer (some ⟨b2, 0, none⟩)] w fun e w' => e = .returned (.int .i64 (crm R X nn k)) ∧ Below w.heap.size w w' := by
  obtain ⟨br, or, hcr, hvr⟩ := rows_at hR
  obtain ⟨brl, cr, rfl⟩ := hvr (by omega)
  obtain ⟨c1, c2, u, c0, ru⟩ := hcr k hk
  have e1 := O.nH k hk
  have n6 := O.n6
  have n1 := O.n1
  have M : Hid (Calls Try.prog 56 #[.agg #[u, .int .i64 (Rw.cz R k 1), .int .i64 (Rw.cz R k 2)], .pointer (some ⟨b3, 0, none⟩)] w.drew fun e w' => e = .returned (.int .i64 (crm R X nn k)) ∧ Below w.drew.heap.size w.drew w') := cl51 b3 (Rw.cl R k) X (Rw.cz R k 1) (Rw.cz R k 2) nn u vx w.drew (ru.on (below_drewN (Below.refl _ _) 1)) (hX.on (below_drewN (Below.refl _ _) 1)) (by omega) PX.len (by omega) (by omega) (fun j hj => hx_b O PX hk j hj) (O.yb k hk) (O.wb k hk) hb3 q3
  obtain ⟨au, du, eu⟩ := ru.form
  subst eu
  have i1 : (0 : Int) ≤ (k : Int) := by omega
  have i2 : (k : Int) < (R.length : Int) := by omega
  have HL : Hid (b1 < w.drew.heap.size ∧ b2 < w.drew.heap.size ∧ br < w.drew.heap.size) := ⟨hb1, hb2, brl⟩
  clear hcr hvr ru hX hR e1 n6 n1 PX O q3
  generalize (Rw.cl R k).length = lh at *
  generalize Rw.cz R k 1 = y at *
  generalize Rw.cz R k 2 = wt at *
  generalize crm R X nn k = Z at *
  generalize R.length = lr at *
  go_enter Try.func61, Try.ntmps61
  go_wp2_with fail
  go_region_held3 (fun w' => w'.cell? ⟨b1, 0, none⟩ = some (.func (.func 56) #[] #[.pointer (some ⟨b3, 0, none⟩)]) ∧ w'.cell? ⟨b2, 3, none⟩ = some (.slice (some ⟨br, or, none⟩) lr cr) ∧ w'.cell? ⟨br, or + k * 3, none⟩ = some (.slice au lh du) ∧ w'.cell? ⟨br, or + k * 3 + 1, none⟩ = some (.int .i64 y) ∧ w'.cell? ⟨br, or + k * 3 + 2, none⟩ = some (.int .i64 wt)) (go_keep)
    ((go_at_call 56; refine (Calls.mono M.out) ?_; rintro e w5 ⟨rfl, hb⟩; have B5 : Hid (Below w.heap.size w w5) := (below_drewN (Below.refl _ _) 1 : Below w.heap.size w w.drew).trans hb; have p0 := (hb.cell (p := ⟨b1, 0, none⟩) HL.out.1).trans q1; have p1 := (hb.cell (p := ⟨b2, 3, none⟩) HL.out.2.1).trans q2; have p2 := (hb.cell (p := ⟨br, or + k * 3, none⟩) HL.out.2.2).trans c0; have p3 := (hb.cell (p := ⟨br, or + k * 3 + 1, none⟩) HL.out.2.2).trans c1; have p4 := (hb.cell (p := ⟨br, or + k * 3 + 2, none⟩) HL.out.2.2).trans c2; clear hb))
  go_wp2_with fail
  go_ret
  exact ⟨rfl, B5.out⟩
end Go.Proofs.Ytaakiemmodncpaa.Cs
