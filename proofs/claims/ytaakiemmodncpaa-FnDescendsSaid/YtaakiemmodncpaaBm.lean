/- The best move: the two sums over the rows, the program. -/
import Derived.Test.YtaakiemmodncpaaDp
namespace Go.Proofs.Ytaakiemmodncpaa.Bm
open Go.ChangeShapes Go.WideShapes Go.ChangeAt Go.RowKit
open Go.Proofs.Ytaakiemmodncpaa.Lists Go.Proofs.Ytaakiemmodncpaa.Al Go.Proofs.Ytaakiemmodncpaa.Su Go.Proofs.Ytaakiemmodncpaa.Po Go.Proofs.Ytaakiemmodncpaa.Cs Go.Proofs.Ytaakiemmodncpaa.Cf Go.Proofs.Ytaakiemmodncpaa.Dp

theorem bt_b {n : Nat} {G T : List Int} {R : Rw.Ls} (O : Ok n G T R) {k i : Nat} (hk : k < R.length) (hi : i < n) : 0 ≤ (Rw.cl R k).getD i 0 * (Rw.cl R k).getD i 0 ∧ (Rw.cl R k).getD i 0 * (Rw.cl R k).getD i 0 ≤ 25 ∧ 0 ≤ Rw.cz R k 2 * ((Rw.cl R k).getD i 0 * (Rw.cl R k).getD i 0) ∧ Rw.cz R k 2 * ((Rw.cl R k).getD i 0 * (Rw.cl R k).getD i 0) ≤ 125 := by
  have h := O.hb k hk i (by have := O.nH k hk; omega)
  have w := O.wb k hk
  have a := sq_bound h
  have b := mul_abs (a := Rw.cz R k 2) (b := (Rw.cl R k).getD i 0 * (Rw.cl R k).getD i 0) (A := 5) (B := 25) (by omega) (by omega)
  have c : 0 ≤ Rw.cz R k 2 * ((Rw.cl R k).getD i 0 * (Rw.cl R k).getD i 0) := Int.mul_nonneg (by omega) a.1
  omega
theorem st_b {n : Nat} {G T : List Int} {R : Rw.Ls} {X : List Int} (O : Ok n G T R) (P : Pt n X) {k i : Nat} (hk : k < R.length) (hi : i < n) : -25 ≤ Rw.cz R k 2 * (Rw.cl R k).getD i 0 ∧ Rw.cz R k 2 * (Rw.cl R k).getD i 0 ≤ 25 ∧ -750012500 ≤ Rw.cz R k 2 * (Rw.cl R k).getD i 0 * dev R X n k ∧ Rw.cz R k 2 * (Rw.cl R k).getD i 0 * dev R X n k ≤ 750012500 := by
  have h := O.hb k hk i (by have := O.nH k hk; omega)
  have w := O.wb k hk
  have b := mul_abs (a := Rw.cz R k 2) (b := (Rw.cl R k).getD i 0) (A := 5) (B := 5) (by omega) h
  have d := dev_b O P hk
  have e := mul_abs (a := Rw.cz R k 2 * (Rw.cl R k).getD i 0) (b := dev R X n k) (A := 25) (B := 30000500) (by omega) d
  omega

set_option maxHeartbeats 1000000 in
theorem cl49 (bi : Nat) (i : Nat) (H : List Int) (y wt : Int) (n : Nat) (vh : Value) (w : World) (hH : Lists.Reads w vh H) (lH : H.length = n) (hi : i < n) (hbi : bi < w.heap.size) (qi : w.cell? ⟨bi, 0, none⟩ = some (.int .i64 (i : Int)))
    (h1 : IntKind.i64.wrap (H.getD i 0 * H.getD i 0) = H.getD i 0 * H.getD i 0) (h2 : IntKind.i64.wrap (wt * (H.getD i 0 * H.getD i 0)) = wt * (H.getD i 0 * H.getD i 0)) :
    Calls Try.prog 49 #[.agg #[vh, .int .i64 y, .int .i64 wt], .pointer (some ⟨bi, 0, none⟩)] w fun e w' => e = .returned (.int .i64 (wt * (H.getD i 0 * H.getD i 0))) ∧ Below w.heap.size w w' := by
  obtain ⟨bh, oh, ch, rfl, bhl, hch⟩ := at_of hH lH (by omega)
  obtain ⟨W, hW⟩ : ∃ W, W = w.alloc (Obj.cells #[.slice (some ⟨bh, oh, none⟩) n ch, .int .i64 y, .int .i64 wt] 51) := ⟨_, rfl⟩
  have HW : Hid (W = w.alloc (Obj.cells #[.slice (some ⟨bh, oh, none⟩) n ch, .int .i64 y, .int .i64 wt] 51)) := hW
  have B0 : Below w.heap.size w W := (by rw [hW]; exact (Below.refl _ _).alloc (Nat.le_refl _) _)
  have d0 : W.cell? ⟨w.heap.size, 0, none⟩ = some (.slice (some ⟨bh, oh, none⟩) n ch) := by rw [hW]; simp [go_sem]
  have d2 : W.cell? ⟨w.heap.size, 2, none⟩ = some (.int .i64 wt) := by rw [hW]; simp [go_sem]
  have d3 : W.cell? ⟨bi, 0, none⟩ = some (.int .i64 (i : Int)) := (B0.cell (p := ⟨bi, 0, none⟩) hbi).trans qi
  have d4 : W.cell? ⟨bh, oh + i, none⟩ = some (.int .i64 (H.getD i 0)) := (B0.cell (p := ⟨bh, oh + i, none⟩) bhl).trans (hch i hi)
  have i1 : (0 : Int) ≤ (i : Int) := by omega
  have i2 : (i : Int) < (n : Int) := by omega
  have C : Hid (∀ w, Calls Try.prog 50 #[.int .i64 (H.getD i 0)] w fun e w' => e = .returned (.int .i64 (H.getD i 0 * H.getD i 0)) ∧ w' = w) := fun w => sq_any _ w h1
  have HB : Hid (∀ m, Below w.heap.size w (W.drewN m)) := fun m => below_drewN B0 m
  clear hH lH hch hW B0 h1 qi
  generalize H.getD i 0 = h at *
  generalize hz : h * h = z at *
  clear hz
  go_enter Try.func49, Try.ntmps49
  go_wp2_with fail
  rw [← HW.out]
  go_quiet ((go_at_call 50; exact Calls.quiet_of_same (C.out _)))
  go_wp2_with fail
  go_ret
  exact ⟨rfl, HB.out _⟩

set_option maxHeartbeats 1000000 in
theorem cl51m (bi b0 : Nat) (i : Nat) (H X : List Int) (y wt : Int) (n : Nat) (vh vx : Value) (w : World) (hH : Lists.Reads w vh H) (hX : Lists.Reads w vx X) (lH : H.length = n) (lX : X.length = n) (hi : i < n) (n6 : n ≤ 6) (hb : ∀ j, j < n → -5000000 ≤ H.getD j 0 * X.getD j 0 ∧ H.getD j 0 * X.getD j 0 ≤ 5000000) (hy : -500 ≤ y ∧ y ≤ 500)
    (hbi : bi < w.heap.size) (qi : w.cell? ⟨bi, 0, none⟩ = some (.int .i64 (i : Int))) (hb0 : b0 < w.heap.size) (q0 : w.cell? ⟨b0, 0, none⟩ = some vx)
    (h1 : IntKind.i64.wrap (wt * H.getD i 0) = wt * H.getD i 0) (h2 : IntKind.i64.wrap (wt * H.getD i 0 * (hx H X n - y)) = wt * H.getD i 0 * (hx H X n - y)) :
    Calls Try.prog 51 #[.agg #[vh, .int .i64 y, .int .i64 wt], .pointer (some ⟨bi, 0, none⟩), .pointer (some ⟨b0, 0, none⟩)] w fun e w' => e = .returned (.int .i64 (wt * H.getD i 0 * (hx H X n - y))) ∧ Below w.heap.size w w' := by
  have hH0 := hH
  obtain ⟨bh, oh, ch, rfl, bhl, hch⟩ := at_of hH lH (by omega)
  obtain ⟨W, hW⟩ : ∃ W, W = w.alloc (Obj.cells #[.slice (some ⟨bh, oh, none⟩) n ch, .int .i64 y, .int .i64 wt] 51) := ⟨_, rfl⟩
  have HW : Hid (W = w.alloc (Obj.cells #[.slice (some ⟨bh, oh, none⟩) n ch, .int .i64 y, .int .i64 wt] 51)) := hW
  have B0 : Below w.heap.size w W := (by rw [hW]; exact (Below.refl _ _).alloc (Nat.le_refl _) _)
  have zW : W.heap.size = w.heap.size + 1 := by rw [hW]; simp
  have d0 : W.cell? ⟨w.heap.size, 0, none⟩ = some (.slice (some ⟨bh, oh, none⟩) n ch) := by rw [hW]; simp [go_sem]
  have d1 : W.cell? ⟨w.heap.size, 1, none⟩ = some (.int .i64 y) := by rw [hW]; simp [go_sem]
  have d2 : W.cell? ⟨w.heap.size, 2, none⟩ = some (.int .i64 wt) := by rw [hW]; simp [go_sem]
  have d3 : W.cell? ⟨bi, 0, none⟩ = some (.int .i64 (i : Int)) := (B0.cell (p := ⟨bi, 0, none⟩) hbi).trans qi
  have d4 : W.cell? ⟨bh, oh + i, none⟩ = some (.int .i64 (H.getD i 0)) := (B0.cell (p := ⟨bh, oh + i, none⟩) bhl).trans (hch i hi)
  have d5 : W.cell? ⟨b0, 0, none⟩ = some vx := (B0.cell (p := ⟨b0, 0, none⟩) hb0).trans q0
  have i1 : (0 : Int) ≤ (i : Int) := by omega
  have i2 : (i : Int) < (n : Int) := by omega
  have M1 : Hid (Calls Try.prog 52 #[.agg #[.slice (some ⟨bh, oh, none⟩) n ch, .int .i64 y, .int .i64 wt], vx] W.drew fun e w' => e = .returned (.int .i64 (hx H X n - y)) ∧ Below W.drew.heap.size W.drew w') := missed_any H X y wt n _ vx W.drew (hH0.on (below_drewN B0 1)) (hX.on (below_drewN B0 1)) lH lX (by omega) n6 hb hy
  have HL : Hid (w.heap.size < W.drew.heap.size ∧ b0 < W.drew.heap.size ∧ bi < W.drew.heap.size ∧ bh < W.drew.heap.size) := (by show _ ∧ _; refine ⟨?_, ?_, ?_, ?_⟩ <;> (show _ < W.heap.size; omega))
  have HB : Hid (Below w.heap.size w W.drew) := below_drewN B0 1
  obtain ⟨ax, dx, ex⟩ := hX.form
  subst ex
  clear hH hH0 hX lH lX hb hW B0 zW q0 qi hch
  generalize H.getD i 0 = h at *
  generalize X.length = nx at *
  generalize hx H X n - y = d at *
  go_enter Try.func51, Try.ntmps51
  go_wp2_with fail
  rw [← HW.out]
  go_region_held3 (fun w' => w'.cell? ⟨w.heap.size, 0, none⟩ = some (.slice (some ⟨bh, oh, none⟩) n ch) ∧ w'.cell? ⟨w.heap.size, 1, none⟩ = some (.int .i64 y) ∧ w'.cell? ⟨w.heap.size, 2, none⟩ = some (.int .i64 wt) ∧ w'.cell? ⟨b0, 0, none⟩ = some (.slice ax nx dx) ∧ w'.cell? ⟨bi, 0, none⟩ = some (.int .i64 (i : Int)) ∧ w'.cell? ⟨bh, oh + i, none⟩ = some (.int .i64 h)) (go_keep)
    ((go_at_call 52; refine (Calls.mono M1.out) ?_; rintro e w5 ⟨rfl, hb⟩; have B5 : Hid (Below w.heap.size w w5) := HB.out.trans (hb.mono HB.out.size); have p0 := (hb.cell (p := ⟨w.heap.size, 0, none⟩) HL.out.1).trans d0; have p1 := (hb.cell (p := ⟨w.heap.size, 1, none⟩) HL.out.1).trans d1; have p2 := (hb.cell (p := ⟨w.heap.size, 2, none⟩) HL.out.1).trans d2; have p3 := (hb.cell (p := ⟨b0, 0, none⟩) HL.out.2.1).trans d5; have p4 := (hb.cell (p := ⟨bi, 0, none⟩) HL.out.2.2.1).trans d3; have p5 := (hb.cell (p := ⟨bh, oh + i, none⟩) HL.out.2.2.2).trans d4; clear hb))
  go_wp2_with fail
  go_ret
  exact ⟨rfl, B5.out⟩

set_option maxHeartbeats 1000000 in
theorem row49 (G T : List Int) (R : Rw.Ls) (nn i k : Nat) (O : Ok nn G T R) (hi : i < nn) (hk : k < R.length) (b1 b2 bi : Nat) (vr : Value) (w : World) (hR : Rw.Reads w vr R) 
    (hb1 : b1 < w.heap.size) (hb2 : b2 < w.heap.size) (hbi : bi < w.heap.size) (q1 : w.cell? ⟨b1, 0, none⟩ = some (.func (.func 49) #[] #[.pointer (some ⟨bi, 0, none⟩)])) (q2 : w.cell? ⟨b2, 3, none⟩ = some vr) (qi : w.cell? ⟨bi, 0, none⟩ = some (.int .i64 (i : Int))) :
    Calls Try.prog 61 #[.int .i64 (k : Int), .pointer (some ⟨b1, 0, none⟩), .pointer (some ⟨b2, 0, none⟩)] w fun e w' => e = .returned (.int .i64 (Rw.cz R k 2 * ((Rw.cl R k).getD i 0 * (Rw.cl R k).getD i 0))) ∧ Below w.heap.size w w' := by
  obtain ⟨br, or, hcr, hvr⟩ := rows_at hR
  obtain ⟨brl, cr, rfl⟩ := hvr (by omega)
  obtain ⟨c1, c2, u, c0, ru⟩ := hcr k hk
  have e1 := O.nH k hk
  have n6 : nn ≤ 6 := by have := O.n6; omega
  have sb := bt_b O hk hi
  have M : Hid (Calls Try.prog 49 #[.agg #[u, .int .i64 (Rw.cz R k 1), .int .i64 (Rw.cz R k 2)], .pointer (some ⟨bi, 0, none⟩)] w.drew fun e w' => e = .returned (.int .i64 (Rw.cz R k 2 * ((Rw.cl R k).getD i 0 * (Rw.cl R k).getD i 0))) ∧ Below w.drew.heap.size w.drew w') := cl49 bi i (Rw.cl R k) (Rw.cz R k 1) (Rw.cz R k 2) nn u w.drew (ru.on (below_drewN (Below.refl _ _) 1)) (by omega) hi hbi qi (IntWalk.i64_in _ (by omega)) (IntWalk.i64_in _ (by omega))
  obtain ⟨au, du, eu⟩ := ru.form
  subst eu
  have i1 : (0 : Int) ≤ (k : Int) := by omega
  have i2 : (k : Int) < (R.length : Int) := by omega
  have HL : Hid (b1 < w.drew.heap.size ∧ b2 < w.drew.heap.size ∧ br < w.drew.heap.size) := ⟨hb1, hb2, brl⟩
  clear hcr hvr ru hR e1 n6 O qi sb hi
  generalize (Rw.cz R k 2 * ((Rw.cl R k).getD i 0 * (Rw.cl R k).getD i 0)) = Z at *
  generalize (Rw.cl R k).length = lh at *
  generalize Rw.cz R k 1 = y at *
  generalize Rw.cz R k 2 = wt at *
  generalize R.length = lr at *
  go_enter Try.func61, Try.ntmps61
  go_wp2_with fail
  go_region_held3 (fun w' => w'.cell? ⟨b1, 0, none⟩ = some (.func (.func 49) #[] #[.pointer (some ⟨bi, 0, none⟩)]) ∧ w'.cell? ⟨b2, 3, none⟩ = some (.slice (some ⟨br, or, none⟩) lr cr) ∧ w'.cell? ⟨br, or + k * 3, none⟩ = some (.slice au lh du) ∧ w'.cell? ⟨br, or + k * 3 + 1, none⟩ = some (.int .i64 y) ∧ w'.cell? ⟨br, or + k * 3 + 2, none⟩ = some (.int .i64 wt)) (go_keep)
    ((go_at_call 49; refine (Calls.mono M.out) ?_; rintro e w5 ⟨rfl, hb⟩; have B5 : Hid (Below w.heap.size w w5) := (below_drewN (Below.refl _ _) 1 : Below w.heap.size w w.drew).trans hb; have p0 := (hb.cell (p := ⟨b1, 0, none⟩) HL.out.1).trans q1; have p1 := (hb.cell (p := ⟨b2, 3, none⟩) HL.out.2.1).trans q2; have p2 := (hb.cell (p := ⟨br, or + k * 3, none⟩) HL.out.2.2).trans c0; have p3 := (hb.cell (p := ⟨br, or + k * 3 + 1, none⟩) HL.out.2.2).trans c1; have p4 := (hb.cell (p := ⟨br, or + k * 3 + 2, none⟩) HL.out.2.2).trans c2; clear hb))
  go_wp2_with fail
  go_ret
  exact ⟨rfl, B5.out⟩

set_option maxHeartbeats 1000000 in
theorem over49 (G T : List Int) (R : Rw.Ls) (nn i : Nat) (O : Ok nn G T R) (hi : i < nn) (bi : Nat) (n : Int) (vg vt vr : Value) (w : World) (hR : Rw.Reads w vr R) 
    (hbi : bi < w.heap.size) (qi : w.cell? ⟨bi, 0, none⟩ = some (.int .i64 (i : Int))) :
    Calls Try.prog 48 #[Pb.pv n vg vt vr, .func (.func 49) #[] #[.pointer (some ⟨bi, 0, none⟩)]] w fun e w' => e = .returned (.int .i64 (sm R.length (fun k => Rw.cz R k 2 * ((Rw.cl R k).getD i 0 * (Rw.cl R k).getD i 0)))) ∧ Below w.heap.size w w' := by
  obtain ⟨W, hW⟩ : ∃ W, W = (w.alloc (Obj.cells #[.int .i64 n, vg, vt, vr] 32)).alloc (Obj.cells #[.func (.func 49) #[] #[.pointer (some ⟨bi, 0, none⟩)]] 75) := ⟨_, rfl⟩
  have HW : Hid (W = (w.alloc (Obj.cells #[.int .i64 n, vg, vt, vr] 32)).alloc (Obj.cells #[.func (.func 49) #[] #[.pointer (some ⟨bi, 0, none⟩)]] 75)) := hW
  have B0 : Below w.heap.size w W := (by rw [hW]; exact ((Below.refl _ _).alloc (Nat.le_refl _) _).alloc (by simp) _)
  have zW : W.heap.size = w.heap.size + 2 := by rw [hW]; simp
  have d0 : W.cell? ⟨w.heap.size, 3, none⟩ = some vr := by rw [hW]; simp [go_sem]
  have d1 : W.cell? ⟨w.heap.size + 1, 0, none⟩ = some (.func (.func 49) #[] #[.pointer (some ⟨bi, 0, none⟩)]) := by rw [hW]; simp [go_sem]
  have S : Hid (Calls Try.prog 54 #[.int .i64 (R.length : Int), .func (.func 61) #[] #[.pointer (some ⟨w.heap.size + 1, 0, none⟩), .pointer (some ⟨w.heap.size, 0, none⟩)]] W fun e w' => e = .returned (.int .i64 (sm R.length (fun k => Rw.cz R k 2 * ((Rw.cl R k).getD i 0 * (Rw.cl R k).getD i 0)))) ∧ Below W.heap.size W w') := by
    refine summed56 (fun x => Below W.heap.size W x) R.length _ _ (fun k => Rw.cz R k 2 * ((Rw.cl R k).getD i 0 * (Rw.cl R k).getD i 0)) W (Below.refl _ _) (by have := O.nR; omega) (fun k hk w' hw' => ?_) (fun j hj => ?_)
    · have sz := hw'.size
      refine (row49 G T R nn i k O hi hk (w.heap.size + 1) w.heap.size bi vr w' ((hR.on B0).on hw') (by omega) (by omega) (by omega) ((hw'.cell (p := ⟨w.heap.size + 1, 0, none⟩) (by show w.heap.size + 1 < _; omega)).trans d1) ((hw'.cell (p := ⟨w.heap.size, 3, none⟩) (by show w.heap.size < _; omega)).trans d0) ((hw'.cell (p := ⟨bi, 0, none⟩) (by show bi < _; omega)).trans ((B0.cell (p := ⟨bi, 0, none⟩) hbi).trans qi))).mono ?_
      rintro e w'' ⟨rfl, hb⟩
      exact ⟨rfl, hw'.trans (hb.mono sz)⟩
    · have := sm_bound (n := R.length) (f := (fun k => Rw.cz R k 2 * ((Rw.cl R k).getD i 0 * (Rw.cl R k).getD i 0))) (M := 750012500) (fun k hk => by have := bt_b O hk hi; omega) j hj
      have := O.nR
      omega
  obtain ⟨ar, cr', er⟩ := hR.form
  subst er
  have HB : Hid (Below w.heap.size w W) := B0
  clear hR qi hW B0 zW O
  generalize sm R.length (fun k => Rw.cz R k 2 * ((Rw.cl R k).getD i 0 * (Rw.cl R k).getD i 0)) = Z at *
  generalize R.length = lr at *
  go_enter Try.func48, Try.ntmps48
  go_wp2_with fail
  rw [← HW.out]
  refine (Calls.mono S.out) ?_
  rintro e w5 ⟨rfl, hb⟩
  have B5 : Hid (Below w.heap.size w w5) := HB.out.trans (hb.mono HB.out.size)
  clear hb
  go_wp2_with fail
  go_ret
  exact ⟨rfl, B5.out⟩

set_option maxHeartbeats 1000000 in
theorem row51 (G T : List Int) (R : Rw.Ls) (nn i k : Nat) (O : Ok nn G T R) (hi : i < nn) (hk : k < R.length) (b1 b2 bi : Nat) (X : List Int) (PX : Pt nn X) (b3 : Nat) (vx : Value) (vr : Value) (w : World) (hR : Rw.Reads w vr R) (hX : Lists.Reads w vx X) (hb3 : b3 < w.heap.size) (q3 : w.cell? ⟨b3, 0, none⟩ = some vx) 
    (hb1 : b1 < w.heap.size) (hb2 : b2 < w.heap.size) (hbi : bi < w.heap.size) (q1 : w.cell? ⟨b1, 0, none⟩ = some (.func (.func 51) #[] #[.pointer (some ⟨bi, 0, none⟩), .pointer (some ⟨b3, 0, none⟩)])) (q2 : w.cell? ⟨b2, 3, none⟩ = some vr) (qi : w.cell? ⟨bi, 0, none⟩ = some (.int .i64 (i : Int))) :
    Calls Try.prog 61 #[.int .i64 (k : Int), .pointer (some ⟨b1, 0, none⟩), .pointer (some ⟨b2, 0, none⟩)] w fun e w' => e = .returned (.int .i64 (Rw.cz R k 2 * (Rw.cl R k).getD i 0 * dev R X nn k)) ∧ Below w.heap.size w w' := by
  obtain ⟨br, or, hcr, hvr⟩ := rows_at hR
  obtain ⟨brl, cr, rfl⟩ := hvr (by omega)
  obtain ⟨c1, c2, u, c0, ru⟩ := hcr k hk
  have e1 := O.nH k hk
  have n6 : nn ≤ 6 := by have := O.n6; omega
  have sb := st_b O PX hk hi
  have M : Hid (Calls Try.prog 51 #[.agg #[u, .int .i64 (Rw.cz R k 1), .int .i64 (Rw.cz R k 2)], .pointer (some ⟨bi, 0, none⟩), .pointer (some ⟨b3, 0, none⟩)] w.drew fun e w' => e = .returned (.int .i64 (Rw.cz R k 2 * (Rw.cl R k).getD i 0 * dev R X nn k)) ∧ Below w.drew.heap.size w.drew w') := cl51m bi b3 i (Rw.cl R k) X (Rw.cz R k 1) (Rw.cz R k 2) nn u vx w.drew (ru.on (below_drewN (Below.refl _ _) 1)) (hX.on (below_drewN (Below.refl _ _) 1)) (by omega) PX.len hi n6 (fun j hj => hx_b O PX hk j hj) (O.yb k hk) hbi qi hb3 q3 (IntWalk.i64_in _ (by omega)) (IntWalk.i64_in _ (by unfold dev at sb; omega))
  obtain ⟨au, du, eu⟩ := ru.form
  subst eu
  have i1 : (0 : Int) ≤ (k : Int) := by omega
  have i2 : (k : Int) < (R.length : Int) := by omega
  have HL : Hid (b1 < w.drew.heap.size ∧ b2 < w.drew.heap.size ∧ br < w.drew.heap.size) := ⟨hb1, hb2, brl⟩
  clear hcr hvr ru hR e1 n6 O qi sb hi hX q3 PX
  generalize (Rw.cz R k 2 * (Rw.cl R k).getD i 0 * dev R X nn k) = Z at *
  generalize (Rw.cl R k).length = lh at *
  generalize Rw.cz R k 1 = y at *
  generalize Rw.cz R k 2 = wt at *
  generalize R.length = lr at *
  go_enter Try.func61, Try.ntmps61
  go_wp2_with fail
  go_region_held3 (fun w' => w'.cell? ⟨b1, 0, none⟩ = some (.func (.func 51) #[] #[.pointer (some ⟨bi, 0, none⟩), .pointer (some ⟨b3, 0, none⟩)]) ∧ w'.cell? ⟨b2, 3, none⟩ = some (.slice (some ⟨br, or, none⟩) lr cr) ∧ w'.cell? ⟨br, or + k * 3, none⟩ = some (.slice au lh du) ∧ w'.cell? ⟨br, or + k * 3 + 1, none⟩ = some (.int .i64 y) ∧ w'.cell? ⟨br, or + k * 3 + 2, none⟩ = some (.int .i64 wt)) (go_keep)
    ((go_at_call 51; refine (Calls.mono M.out) ?_; rintro e w5 ⟨rfl, hb⟩; have B5 : Hid (Below w.heap.size w w5) := (below_drewN (Below.refl _ _) 1 : Below w.heap.size w w.drew).trans hb; have p0 := (hb.cell (p := ⟨b1, 0, none⟩) HL.out.1).trans q1; have p1 := (hb.cell (p := ⟨b2, 3, none⟩) HL.out.2.1).trans q2; have p2 := (hb.cell (p := ⟨br, or + k * 3, none⟩) HL.out.2.2).trans c0; have p3 := (hb.cell (p := ⟨br, or + k * 3 + 1, none⟩) HL.out.2.2).trans c1; have p4 := (hb.cell (p := ⟨br, or + k * 3 + 2, none⟩) HL.out.2.2).trans c2; clear hb))
  go_wp2_with fail
  go_ret
  exact ⟨rfl, B5.out⟩

set_option maxHeartbeats 1000000 in
theorem over51 (G T : List Int) (R : Rw.Ls) (nn i : Nat) (O : Ok nn G T R) (hi : i < nn) (bi : Nat) (X : List Int) (PX : Pt nn X) (b3 : Nat) (vx : Value) (n : Int) (vg vt vr : Value) (w : World) (hR : Rw.Reads w vr R) (hX : Lists.Reads w vx X) (hb3 : b3 < w.heap.size) (q3 : w.cell? ⟨b3, 0, none⟩ = some vx) 
    (hbi : bi < w.heap.size) (qi : w.cell? ⟨bi, 0, none⟩ = some (.int .i64 (i : Int))) :
    Calls Try.prog 48 #[Pb.pv n vg vt vr, .func (.func 51) #[] #[.pointer (some ⟨bi, 0, none⟩), .pointer (some ⟨b3, 0, none⟩)]] w fun e w' => e = .returned (.int .i64 (sm R.length (fun k => Rw.cz R k 2 * (Rw.cl R k).getD i 0 * dev R X nn k))) ∧ Below w.heap.size w w' := by
  obtain ⟨W, hW⟩ : ∃ W, W = (w.alloc (Obj.cells #[.int .i64 n, vg, vt, vr] 32)).alloc (Obj.cells #[.func (.func 51) #[] #[.pointer (some ⟨bi, 0, none⟩), .pointer (some ⟨b3, 0, none⟩)]] 75) := ⟨_, rfl⟩
  have HW : Hid (W = (w.alloc (Obj.cells #[.int .i64 n, vg, vt, vr] 32)).alloc (Obj.cells #[.func (.func 51) #[] #[.pointer (some ⟨bi, 0, none⟩), .pointer (some ⟨b3, 0, none⟩)]] 75)) := hW
  have B0 : Below w.heap.size w W := (by rw [hW]; exact ((Below.refl _ _).alloc (Nat.le_refl _) _).alloc (by simp) _)
  have zW : W.heap.size = w.heap.size + 2 := by rw [hW]; simp
  have d0 : W.cell? ⟨w.heap.size, 3, none⟩ = some vr := by rw [hW]; simp [go_sem]
  have d1 : W.cell? ⟨w.heap.size + 1, 0, none⟩ = some (.func (.func 51) #[] #[.pointer (some ⟨bi, 0, none⟩), .pointer (some ⟨b3, 0, none⟩)]) := by rw [hW]; simp [go_sem]
  have S : Hid (Calls Try.prog 54 #[.int .i64 (R.length : Int), .func (.func 61) #[] #[.pointer (some ⟨w.heap.size + 1, 0, none⟩), .pointer (some ⟨w.heap.size, 0, none⟩)]] W fun e w' => e = .returned (.int .i64 (sm R.length (fun k => Rw.cz R k 2 * (Rw.cl R k).getD i 0 * dev R X nn k))) ∧ Below W.heap.size W w') := by
    refine summed56 (fun x => Below W.heap.size W x) R.length _ _ (fun k => Rw.cz R k 2 * (Rw.cl R k).getD i 0 * dev R X nn k) W (Below.refl _ _) (by have := O.nR; omega) (fun k hk w' hw' => ?_) (fun j hj => ?_)
    · have sz := hw'.size
      refine (row51 G T R nn i k O hi hk (w.heap.size + 1) w.heap.size bi X PX b3 vx vr w' ((hR.on B0).on hw') ((hX.on B0).on hw') (by omega) ((hw'.cell (p := ⟨b3, 0, none⟩) (by show b3 < _; omega)).trans ((B0.cell (p := ⟨b3, 0, none⟩) hb3).trans q3)) (by omega) (by omega) (by omega) ((hw'.cell (p := ⟨w.heap.size + 1, 0, none⟩) (by show w.heap.size + 1 < _; omega)).trans d1) ((hw'.cell (p := ⟨w.heap.size, 3, none⟩) (by show w.heap.size < _; omega)).trans d0) ((hw'.cell (p := ⟨bi, 0, none⟩) (by show bi < _; omega)).trans ((B0.cell (p := ⟨bi, 0, none⟩) hbi).trans qi))).mono ?_
      rintro e w'' ⟨rfl, hb⟩
      exact ⟨rfl, hw'.trans (hb.mono sz)⟩
    · have := sm_bound (n := R.length) (f := (fun k => Rw.cz R k 2 * (Rw.cl R k).getD i 0 * dev R X nn k)) (M := 750012500) (fun k hk => by have := st_b O PX hk hi; omega) j hj
      have := O.nR
      omega
  obtain ⟨ar, cr', er⟩ := hR.form
  subst er
  have HB : Hid (Below w.heap.size w W) := B0
  clear hR qi hW B0 zW O hX q3 PX
  generalize sm R.length (fun k => Rw.cz R k 2 * (Rw.cl R k).getD i 0 * dev R X nn k) = Z at *
  generalize R.length = lr at *
  go_enter Try.func48, Try.ntmps48
  go_wp2_with fail
  rw [← HW.out]
  refine (Calls.mono S.out) ?_
  rintro e w5 ⟨rfl, hb⟩
  have B5 : Hid (Below w.heap.size w w5) := HB.out.trans (hb.mono HB.out.size)
  clear hb
  go_wp2_with fail
  go_ret
  exact ⟨rfl, B5.out⟩

end Go.Proofs.Ytaakiemmodncpaa.Bm
