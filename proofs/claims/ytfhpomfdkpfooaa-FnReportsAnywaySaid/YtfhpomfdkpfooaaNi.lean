/- NewRun: the program, of a right suite. -/
import Derived.Test.YtfhpomfdkpfooaaNh
namespace Go.Proofs.Ytfhpomfdkpfooaa.Nr
open Go.ChangeShapes Go.WideShapes Go.ChangeAt Go.RowKit
open Go.Proofs.Ytfhpomfdkpfooaa.Lists Go.Proofs.Ytfhpomfdkpfooaa.Tm Go.Proofs.Ytfhpomfdkpfooaa.Ru Go.Proofs.Ytfhpomfdkpfooaa.Cp

set_option maxHeartbeats 4000000 in
set_option maxRecDepth 20000 in
theorem inew_yes (R : Tk.Ls) (X : List Int) (vr vx : Value) (w : World) (hR : Tk.Reads w vr R) (hX : Lists.Reads w vx X) (h : So.okS R X = true) :
    Calls Try.prog 17 #[Su.pv vr vx] w fun e w' => ∃ r x j xs, e = .returned (.tuple #[rv r x 0 j, .bool true]) ∧ RO w' w.heap.size r x j xs R X (zs R.length) ∧ Below w.heap.size w w' := by
  obtain ⟨p1, p2, p3, p4, p5⟩ := ok_parts h
  obtain ⟨i0, hi, hz0, hz1, hz2⟩ := info_parts Try.infoJ
  obtain ⟨w0, hw0⟩ : ∃ w0, w0 = (w.alloc (Obj.cells #[vr, vx] 27)).alloc (Obj.cells #[.slice none 0 0, .slice none 0 0, .int .i64 0, .slice none 0 0] 30) := ⟨_, rfl⟩
  have HW0 : Hid (w0 = (w.alloc (Obj.cells #[vr, vx] 27)).alloc (Obj.cells #[.slice none 0 0, .slice none 0 0, .int .i64 0, .slice none 0 0] 30)) := hw0
  have B0 : Hid (Below w.heap.size w w0) := (by show Below _ _ _; rw [hw0]; exact ((Below.refl _ _).alloc (Nat.le_refl _) _).alloc (by simp) _)
  have Z0 : Hid (w0.heap.size = w.heap.size + 2) := (by show _ = _; rw [hw0]; simp)
  have X0 : Hid (Su.Box w0 w.heap.size vr vx) := (by show Su.Box _ _ _ _; rw [hw0]; unfold Su.Box; simp [go_sem])
  have Y0 : Hid (Ru.Box w0 (w.heap.size + 1) (.slice none 0 0) (.slice none 0 0) (.int .i64 0) (.slice none 0 0)) := (by show Ru.Box _ _ _ _ _ _; rw [hw0]; unfold Ru.Box; simp [go_sem])
  have F0 : Hid (∀ j, w0.frozen? ⟨w.heap.size + 1, j, none⟩ = false) := fun j => (by rw [hw0]; simp [go_sem])
  have C1 : Hid (Calls Try.prog 35 #[Su.pv vr vx] w0 fun e w' => e = .returned (.bool true) ∧ Below w0.heap.size w0 w') := (by rw [← h]; exact So.isuite R X vr vx w0 (hR.on B0.out) (hX.on B0.out))
  have C2 : Hid (∀ W, Below w.heap.size w W → Calls Try.prog 36 #[Su.pv vr vx] W fun e w' => ∃ ra rc xa xc xs, e = .returned (Su.pv (.slice ra R.length rc) (.slice xa X.length xc)) ∧ (SO w' W.heap.size (.slice ra R.length rc) (.slice xa X.length xc) xs R X) ∧ Below W.heap.size W w') := fun W hb => (icopy_any R X vr vx W (hR.on hb) (hX.on hb) (by omega) (by omega) (fun i hi => by have := p5 i hi; omega) (by omega)).mono (by
    rintro e w' ⟨r, x, xs, rfl, h1, h3⟩
    obtain ⟨ra, rc, rfl⟩ := h1.reads.1.form
    obtain ⟨xa, xc, rfl⟩ := h1.reads.2.form
    exact ⟨ra, rc, xa, xc, xs, rfl, h1, h3⟩)
  obtain ⟨ar, cr, er⟩ := hR.form
  obtain ⟨ax, cx, ex⟩ := hX.form
  subst er ex
  clear hR hX hw0 h p5
  obtain ⟨n, hn⟩ : ∃ n, n = R.length := ⟨_, rfl⟩
  have HN : Hid (n = R.length) := hn
  rw [← hn] at HW0 X0 C1 C2 p1 p2 ⊢
  clear hn
  obtain ⟨ZC, hZC⟩ : ∃ ZC, ZC = madeCells (Value.agg #[.int .i64 0, .int .i64 0]).cells (n * 2) := ⟨_, rfl⟩
  have HZ : Hid (ZC = madeCells (Value.agg #[.int .i64 0, .int .i64 0]).cells (n * 2)) := hZC
  have hmk : ∀ w, (Instr.makeSlice 28 (.int .i64 (n : Int)) (.int .i64 (n : Int))).run Try.prog w = .ok (.slice (some ⟨w.heap.size, 0, none⟩) n n) (w.alloc (.cells ZC 34)) := fun w => by
    have := run_make (P := Try.prog) w 28 34 i0 (.agg #[.int .i64 0, .int .i64 0]) Try.underlying28 hi hz0 .i64 .i64 (n : Int) (n : Int) (by omega) (Int.le_refl _) (by rw [hz2]; omega) (by omega)
    rw [hz1] at this
    simp only [Int.toNat_natCast] at this
    rw [hZC]
    exact this
  have MR : Hid (∀ W : World, Jb.Row (W.alloc (.cells ZC 34)) W.heap.size (.slice (some ⟨W.heap.size, 0, none⟩) n n) (zs n)) := fun W => by rw [hZC]; exact made_row W n (by omega)
  clear hZC
  obtain ⟨m, hm⟩ : ∃ m, m = X.length := ⟨_, rfl⟩
  have HM : Hid (X.length = m) := hm.symm
  rw [← hm] at HW0 X0 C1 C2 p3 p4 ⊢
  clear hm
  obtain ⟨x0, x1⟩ := X0.out
  go_enter Try.func17, Try.ntmps17
  go_wp2_with fail
  rw [← HW0.out]
  refine C1.out.mono ?_
  rintro e w1 ⟨rfl, hb⟩
  have B1 : Hid (Below w.heap.size w w1) := B0.out.trans (hb.mono B0.out.size)
  have Z1 : Hid (w.heap.size + 2 ≤ w1.heap.size) := (by have := Z0.out; have := hb.size; show _ ≤ _; omega)
  have X1 : Hid (Su.Box w1 w.heap.size (.slice ar n cr) (.slice ax m cx)) := X0.out.on hb (by have := Z0.out; omega)
  have Y1 : Hid (Ru.Box w1 (w.heap.size + 1) (.slice none 0 0) (.slice none 0 0) (.int .i64 0) (.slice none 0 0)) := Y0.out.on hb (by have := Z0.out; omega)
  have F1 : Hid (∀ j, w1.frozen? ⟨w.heap.size + 1, j, none⟩ = false) := fun j => (hb.frozen (p := ⟨w.heap.size + 1, j, none⟩) (by have := Z0.out; show w.heap.size + 1 < _; omega)).trans (F0.out j)
  clear x0 x1 hb HW0
  obtain ⟨x0, x1⟩ := X1.out
  have hs0 : w.heap.size < w1.heap.size := by have := Z1.out; omega
  have hs1 : w.heap.size + 1 < w1.heap.size := by have := Z1.out; omega
  have hs2 : ¬ w.heap.size = w1.heap.size := by omega
  have hs3 : ¬ w.heap.size + 1 = w1.heap.size := by omega
  go_upto_region 3 with fail
  go_region_with (go_at_call 36; refine (C2.out _ (by first | exact B1.out.drew | exact (B1.out.alloc B1.out.size _).drew)).mono ?_; rintro e w2 ⟨ra, rc, xa, xc, xs, rfl, h1, hb2⟩; have b2 : Below w1.heap.size w1 w2 := (by first | exact (Below.refl _ _).drew.trans (hb2.mono (by simp)) | exact ((Below.refl _ _).alloc (Nat.le_refl _) _).drew.trans (hb2.mono (by simp))); have z2 := b2.size; have X2 := X1.out.on b2 hs0; obtain ⟨u0, u1⟩ := X2; have Y2 := Y1.out.on b2 hs1; obtain ⟨y0, y1, y2, y3⟩ := Y2; have f0 := (b2.frozen (p := ⟨w.heap.size + 1, 0, none⟩) hs1).trans (F1.out 0); have f1 := (b2.frozen (p := ⟨w.heap.size + 1, 1, none⟩) hs1).trans (F1.out 1); have f2 := (b2.frozen (p := ⟨w.heap.size + 1, 2, none⟩) hs1).trans (F1.out 2); have f3 := (b2.frozen (p := ⟨w.heap.size + 1, 3, none⟩) hs1).trans (F1.out 3); have ht0 : w.heap.size < w2.heap.size := (by omega); have ht1 : w.heap.size + 1 < w2.heap.size := (by omega); have ht2 : ¬ w.heap.size = w2.heap.size := (by omega); have ht3 : ¬ w.heap.size + 1 = w2.heap.size := (by omega))
  all_goals go_wp2_with fail
  all_goals
    first
    | (have JR : Jb.Row w2 w1.heap.size (.slice (some ⟨w1.heap.size, 0, none⟩) n n) (zs n) := (MR.out w1).on ⟨hb2.os, hb2.tape, hb2.output, hb2.size, hb2.block⟩
       have K4 : KB (fun b => b = w.heap.size + 1) w2 ((((w2.setCell ⟨w.heap.size + 1, 0, none⟩ (.slice ra n rc)).setCell ⟨w.heap.size + 1, 1, none⟩ (.slice xa m xc)).setCell ⟨w.heap.size + 1, 2, none⟩ (.int .i64 0)).setCell ⟨w.heap.size + 1, 3, none⟩ (.slice (some ⟨w1.heap.size, 0, none⟩) n n)) := (((KB.of_set (S := fun b => b = w.heap.size + 1) w2 (w.heap.size + 1) _ _ rfl).trans (KB.of_set (S := fun b => b = w.heap.size + 1) _ (w.heap.size + 1) _ _ rfl)).trans (KB.of_set (S := fun b => b = w.heap.size + 1) _ (w.heap.size + 1) _ _ rfl)).trans (KB.of_set (S := fun b => b = w.heap.size + 1) _ (w.heap.size + 1) _ _ rfl)
       refine bodyPost_ret (v := .tuple #[rv (.slice ra n rc) (.slice xa m xc) 0 (.slice (some ⟨w1.heap.size, 0, none⟩) n n), .bool true]) (by simp [results, Try.results17, go_sem, y0, y1, y2, y3]) rfl ⟨_, _, _, xs, rfl, ?_, (((((B1.out.trans (b2.mono B1.out.size)).setCell (p := ⟨w.heap.size + 1, 0, none⟩) (Nat.le_succ _) _).setCell (p := ⟨w.heap.size + 1, 1, none⟩) (Nat.le_succ _) _).setCell (p := ⟨w.heap.size + 1, 2, none⟩) (Nat.le_succ _) _).setCell (p := ⟨w.heap.size + 1, 3, none⟩) (Nat.le_succ _) _)⟩
       have q1 := SO.down (B' := w.heap.size + 2) h1 (by first | (simp; omega) | omega)
       have a1 := q1.kb K4 (fun b hb e => by have := (q1.bs b hb).1; omega)
       exact ⟨SO.down a1 (by omega), jrow_down (jrow_kb JR K4 (fun b hb e => by simp [Value.ownBlock] at hb; omega)) (by omega)⟩)
    | (have K4 : KB (fun b => b = w.heap.size + 1) w2 ((((w2.setCell ⟨w.heap.size + 1, 0, none⟩ (.slice ra n rc)).setCell ⟨w.heap.size + 1, 1, none⟩ (.slice xa m xc)).setCell ⟨w.heap.size + 1, 2, none⟩ (.int .i64 0)).setCell ⟨w.heap.size + 1, 3, none⟩ (.slice (some ⟨w2.heap.size, 0, none⟩) n n)) := (((KB.of_set (S := fun b => b = w.heap.size + 1) w2 (w.heap.size + 1) _ _ rfl).trans (KB.of_set (S := fun b => b = w.heap.size + 1) _ (w.heap.size + 1) _ _ rfl)).trans (KB.of_set (S := fun b => b = w.heap.size + 1) _ (w.heap.size + 1) _ _ rfl)).trans (KB.of_set (S := fun b => b = w.heap.size + 1) _ (w.heap.size + 1) _ _ rfl)
       have BW : Below w.heap.size w ((((w2.setCell ⟨w.heap.size + 1, 0, none⟩ (.slice ra n rc)).setCell ⟨w.heap.size + 1, 1, none⟩ (.slice xa m xc)).setCell ⟨w.heap.size + 1, 2, none⟩ (.int .i64 0)).setCell ⟨w.heap.size + 1, 3, none⟩ (.slice (some ⟨w2.heap.size, 0, none⟩) n n)) := (((((B1.out.trans (b2.mono B1.out.size)).setCell (p := ⟨w.heap.size + 1, 0, none⟩) (Nat.le_succ _) _).setCell (p := ⟨w.heap.size + 1, 1, none⟩) (Nat.le_succ _) _).setCell (p := ⟨w.heap.size + 1, 2, none⟩) (Nat.le_succ _) _).setCell (p := ⟨w.heap.size + 1, 3, none⟩) (Nat.le_succ _) _)
       have SZ4 : ((((w2.setCell ⟨w.heap.size + 1, 0, none⟩ (.slice ra n rc)).setCell ⟨w.heap.size + 1, 1, none⟩ (.slice xa m xc)).setCell ⟨w.heap.size + 1, 2, none⟩ (.int .i64 0)).setCell ⟨w.heap.size + 1, 3, none⟩ (.slice (some ⟨w2.heap.size, 0, none⟩) n n)).heap.size = w2.heap.size := by simp
       have JR := MR.out ((((w2.setCell ⟨w.heap.size + 1, 0, none⟩ (.slice ra n rc)).setCell ⟨w.heap.size + 1, 1, none⟩ (.slice xa m xc)).setCell ⟨w.heap.size + 1, 2, none⟩ (.int .i64 0)).setCell ⟨w.heap.size + 1, 3, none⟩ (.slice (some ⟨w2.heap.size, 0, none⟩) n n))
       rw [SZ4] at JR
       refine bodyPost_ret (v := .tuple #[rv (.slice ra n rc) (.slice xa m xc) 0 (.slice (some ⟨w2.heap.size, 0, none⟩) n n), .bool true]) (by simp [results, Try.results17, go_sem, y0, y1, y2, y3, ht1]) rfl ⟨_, _, _, xs, rfl, ?_, BW.alloc BW.size _⟩
       have q1 := SO.down (B' := w.heap.size + 2) h1 (by first | (simp; omega) | omega)
       have a1 := (q1.kb K4 (fun b hb e => by have := (q1.bs b hb).1; omega)).on ((Below.refl _ _).alloc (Nat.le_refl _) (Obj.cells ZC 34))
       exact ⟨SO.down a1 (by omega), jrow_down JR (by omega)⟩)
end Go.Proofs.Ytfhpomfdkpfooaa.Nr
