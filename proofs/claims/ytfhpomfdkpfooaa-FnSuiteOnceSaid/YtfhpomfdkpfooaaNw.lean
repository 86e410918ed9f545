/- Nh, Ns, Ni, Nt -/
import Derived.Test.YtfhpomfdkpfooaaCq
import Derived.Test.YtfhpomfdkpfooaaCr
import Derived.Test.YtfhpomfdkpfooaaBa
import Derived.Deep.RegionWith
/- NewRun: the model and the program. -/
namespace Go.Proofs.Ytfhpomfdkpfooaa.Nr
open Go.ChangeShapes Go.WideShapes Go.ChangeAt Go.RowKit
open Go.Proofs.Ytfhpomfdkpfooaa.Lists Go.Proofs.Ytfhpomfdkpfooaa.Tm Go.Proofs.Ytfhpomfdkpfooaa.Ru Go.Proofs.Ytfhpomfdkpfooaa.Cp

def zs (n : Nat) : Jb.Ls := List.replicate n (0, 0)
theorem zs_len (n : Nat) : (zs n).length = n := by simp [zs]
theorem Try.infoJ : (Try.prog.info? 34).map (fun i => (i.zero, i.size, i.bytes)) = some (some (.agg #[.int .i64 0, .int .i64 0]), 2, 16) := by kernel_rfl
theorem made_at (n p : Nat) (hp : p < n * 2) : (madeCells (Value.agg #[.int .i64 0, .int .i64 0]).cells (n * 2))[p]? = some (.int .i64 0) := by
  unfold madeCells
  rw [Array.getElem?_map, Array.getElem?_range, if_pos hp]
  have : p % 2 = 0 ∨ p % 2 = 1 := by omega
  rcases this with h | h <;> simp [Value.cells, h]
theorem made_row (W : World) (n : Nat) (hn : n ≤ 1048576) : Jb.Row (W.alloc (.cells (madeCells (Value.agg #[.int .i64 0, .int .i64 0]).cells (n * 2)) 34)) W.heap.size (.slice (some ⟨W.heap.size, 0, none⟩) n n) (zs n) := by
  refine ⟨(madeCells (Value.agg #[.int .i64 0, .int .i64 0]).cells (n * 2)).toList, ?_, fun i hi => ?_⟩
  · rw [zs_len]
    refine ⟨by simp [size_madeCells], .inr ⟨W.heap.size, n, madeCells (Value.agg #[.int .i64 0, .int .i64 0]).cells (n * 2), rfl, Nat.le_refl _, heap_alloc_new W _, Nat.le_refl _, by unfold maxLen; omega, size_madeCells _ _, ?_⟩⟩
    rw [List.take_of_length_le (by simp [size_madeCells])]
  · rw [zs_len] at hi
    have e : Jb.c0 (zs n) i = 0 ∧ Jb.c1 (zs n) i = 0 := by
      unfold Jb.c0 Jb.c1 zs
      rw [List.getD_eq_getElem?_getD, List.getElem?_replicate, if_pos hi]
      exact ⟨rfl, rfl⟩
    rw [e.1, e.2, Array.getElem?_toList, Array.getElem?_toList]
    exact ⟨made_at n _ (by omega), made_at n _ (by omega)⟩
theorem jrow_down {w : World} {B B' : Nat} {v : Value} {L : Jb.Ls} (h : Jb.Row w B v L) (hb : B' ≤ B) : Jb.Row w B' v L := by
  obtain ⟨xs, h, hh⟩ := h
  refine ⟨xs, ⟨h.1, ?_⟩, hh⟩
  rcases h.2 with h | ⟨gx, cap, cur, h1, h2, h3⟩
  · exact .inl h
  · exact .inr ⟨gx, cap, cur, h1, by omega, h3⟩
theorem SO.down {w : World} {B B' : Nat} {r x : Value} {xs : List Value} {R : Tk.Ls} {X : List Int} (h : SO w B r x xs R X) (hb : B' ≤ B) : SO w B' r x xs R X := ⟨h.1.down hb, Tk1.own_down h.2.1 hb, h.2.2⟩
theorem srow_kb {S : Nat → Prop} {w w' : World} {base : Nat} {v : Value} {R : Tk.Ls} (h : Tk.Row w base v R) (hb : KB S w w') (hs : ∀ b, base ≤ b → ¬ S b) : Tk.Row w' base v R := by
  obtain ⟨ys, h1, h2⟩ := h
  exact ⟨ys, row_kb h1 hb (fun b hb => hs b (h1.lt b hb).1), good_kb h2 hb (fun b hr hb => hs b (hr.lt b hb).1)⟩
theorem reads_row' {w : World} {base m : Nat} {v : Value} {X : List Int} (h : w.ownsRow base 2 1 v m (ints X)) (hm : X.length = m) : Lists.Reads w v X := by
  subst hm
  exact Lists.reads_row h
theorem ok_parts {R : Tk.Ls} {X : List Int} (h : So.okS R X = true) : 1 ≤ R.length ∧ R.length ≤ 60 ∧ 1 ≤ X.length ∧ X.length ≤ 6 ∧ ∀ i, i < R.length → (Tk.cl R i).length ≤ 60 := by
  unfold So.okS at h
  rw [Bool.and_eq_true, Bool.and_eq_true, Bool.and_eq_true, Al.inn_iff, Al.inn_iff] at h
  obtain ⟨⟨a1, a2⟩, ⟨b1, b2⟩, _, h⟩ := h
  refine ⟨by omega, by omega, by omega, by omega, fun i hi => ?_⟩
  unfold So.oks at h
  rw [List.all_eq_true] at h
  have := h i (List.mem_range.2 hi)
  unfold So.okT So.tok at this
  rw [Bool.and_eq_true] at this
  have := So.eAs_len (by omega) this.1
  omega

set_option maxHeartbeats 2000000 in
set_option maxRecDepth 20000 in
theorem snew_no (R : Tk.Ls) (X : List Int) (vr vx : Value) (w : World) (hR : Tk.Reads w vr R) (hX : Lists.Reads w vx X) (h : So.okS R X = false) :
    Calls Try.prog 16 #[Su.pv vr vx] w fun e w' => e = .returned (.tuple #[rv (.slice none 0 0) (.slice none 0 0) 0 (.slice none 0 0), .bool false]) ∧ Below w.heap.size w w' := by
  obtain ⟨w0, hw0⟩ : ∃ w0, w0 = (w.alloc (Obj.cells #[vr, vx] 27)).alloc (Obj.cells #[.slice none 0 0, .slice none 0 0, .int .i64 0, .slice none 0 0] 30) := ⟨_, rfl⟩
  have HW0 : Hid (w0 = (w.alloc (Obj.cells #[vr, vx] 27)).alloc (Obj.cells #[.slice none 0 0, .slice none 0 0, .int .i64 0, .slice none 0 0] 30)) := hw0
  have B0 : Hid (Below w.heap.size w w0) := (by show Below _ _ _; rw [hw0]; exact ((Below.refl _ _).alloc (Nat.le_refl _) _).alloc (by simp) _)
  have Z0 : Hid (w0.heap.size = w.heap.size + 2) := (by show _ = _; rw [hw0]; simp)
  have X0 : Hid (Su.Box w0 w.heap.size vr vx) := (by show Su.Box _ _ _ _; rw [hw0]; unfold Su.Box; simp [go_sem])
  have Y0 : Hid (Ru.Box w0 (w.heap.size + 1) (.slice none 0 0) (.slice none 0 0) (.int .i64 0) (.slice none 0 0)) := (by show Ru.Box _ _ _ _ _ _; rw [hw0]; unfold Ru.Box; simp [go_sem])
  have F0 : Hid (∀ j, w0.frozen? ⟨w.heap.size + 1, j, none⟩ = false) := fun j => (by rw [hw0]; simp [go_sem])
  have C1 : Hid (Calls Try.prog 33 #[Su.pv vr vx] w0 fun e w' => e = .returned (.bool false) ∧ Below w0.heap.size w0 w') := (by rw [← h]; exact So.ssuite R X vr vx w0 (hR.on B0.out) (hX.on B0.out))
  obtain ⟨ar, cr, er⟩ := hR.form
  obtain ⟨ax, cx, ex⟩ := hX.form
  subst er ex
  clear hR hX hw0 h
  generalize R.length = n at *
  generalize X.length = m at *
  obtain ⟨x0, x1⟩ := X0.out
  go_enter Try.func16, Try.ntmps16
  go_wp2_with fail
  rw [← HW0.out]
  refine C1.out.mono ?_
  rintro e w1 ⟨rfl, hb⟩
  have B1 : Hid (Below w.heap.size w w1) := B0.out.trans (hb.mono B0.out.size)
  have Y1 := Y0.out.on hb (by have := Z0.out; omega)
  have F1 : ∀ j, w1.frozen? ⟨w.heap.size + 1, j, none⟩ = false := fun j => (hb.frozen (p := ⟨w.heap.size + 1, j, none⟩) (by have := Z0.out; show w.heap.size + 1 < _; omega)).trans (F0.out j)
  have f0 := F1 0
  have f1 := F1 1
  have f2 := F1 2
  have f3 := F1 3
  obtain ⟨y0, y1, y2, y3⟩ := Y1
  clear x0 x1 hb F1 HW0
  go_wp2_with fail
  refine bodyPost_ret (v := .tuple #[rv (.slice none 0 0) (.slice none 0 0) 0 (.slice none 0 0), .bool false]) (by simp [results, Try.results16, go_sem, y0, y1, y2, y3]) rfl ⟨rfl, ?_⟩
  exact (((B1.out.setCell (p := ⟨w.heap.size + 1, 0, none⟩) (Nat.le_succ _) _).setCell (p := ⟨w.heap.size + 1, 1, none⟩) (Nat.le_succ _) _).setCell (p := ⟨w.heap.size + 1, 2, none⟩) (Nat.le_succ _) _).setCell (p := ⟨w.heap.size + 1, 3, none⟩) (Nat.le_succ _) _
set_option maxHeartbeats 2000000 in
set_option maxRecDepth 20000 in
theorem inew_no (R : Tk.Ls) (X : List Int) (vr vx : Value) (w : World) (hR : Tk.Reads w vr R) (hX : Lists.Reads w vx X) (h : So.okS R X = false) :
    Calls Try.prog 17 #[Su.pv vr vx] w fun e w' => e = .returned (.tuple #[rv (.slice none 0 0) (.slice none 0 0) 0 (.slice none 0 0), .bool false]) ∧ Below w.heap.size w w' := by
  obtain ⟨w0, hw0⟩ : ∃ w0, w0 = (w.alloc (Obj.cells #[vr, vx] 27)).alloc (Obj.cells #[.slice none 0 0, .slice none 0 0, .int .i64 0, .slice none 0 0] 30) := ⟨_, rfl⟩
  have HW0 : Hid (w0 = (w.alloc (Obj.cells #[vr, vx] 27)).alloc (Obj.cells #[.slice none 0 0, .slice none 0 0, .int .i64 0, .slice none 0 0] 30)) := hw0
  have B0 : Hid (Below w.heap.size w w0) := (by show Below _ _ _; rw [hw0]; exact ((Below.refl _ _).alloc (Nat.le_refl _) _).alloc (by simp) _)
  have Z0 : Hid (w0.heap.size = w.heap.size + 2) := (by show _ = _; rw [hw0]; simp)
  have X0 : Hid (Su.Box w0 w.heap.size vr vx) := (by show Su.Box _ _ _ _; rw [hw0]; unfold Su.Box; simp [go_sem])
  have Y0 : Hid (Ru.Box w0 (w.heap.size + 1) (.slice none 0 0) (.slice none 0 0) (.int .i64 0) (.slice none 0 0)) := (by show Ru.Box _ _ _ _ _ _; rw [hw0]; unfold Ru.Box; simp [go_sem])
  have F0 : Hid (∀ j, w0.frozen? ⟨w.heap.size + 1, j, none⟩ = false) := fun j => (by rw [hw0]; simp [go_sem])
  have C1 : Hid (Calls Try.prog 35 #[Su.pv vr vx] w0 fun e w' => e = .returned (.bool false) ∧ Below w0.heap.size w0 w') := (by rw [← h]; exact So.isuite R X vr vx w0 (hR.on B0.out) (hX.on B0.out))
  obtain ⟨ar, cr, er⟩ := hR.form
  obtain ⟨ax, cx, ex⟩ := hX.form
  subst er ex
  clear hR hX hw0 h
  generalize R.length = n at *
  generalize X.length = m at *
  obtain ⟨x0, x1⟩ := X0.out
  go_enter Try.func17, Try.ntmps17
  go_wp2_with fail
  rw [← HW0.out]
  refine C1.out.mono ?_
  rintro e w1 ⟨rfl, hb⟩
  have B1 : Hid (Below w.heap.size w w1) := B0.out.trans (hb.mono B0.out.size)
  have Y1 := Y0.out.on hb (by have := Z0.out; omega)
  have F1 : ∀ j, w1.frozen? ⟨w.heap.size + 1, j, none⟩ = false := fun j => (hb.frozen (p := ⟨w.heap.size + 1, j, none⟩) (by have := Z0.out; show w.heap.size + 1 < _; omega)).trans (F0.out j)
  have f0 := F1 0
  have f1 := F1 1
  have f2 := F1 2
  have f3 := F1 3
  obtain ⟨y0, y1, y2, y3⟩ := Y1
  clear x0 x1 hb F1 HW0
  go_wp2_with fail
  refine bodyPost_ret (v := .tuple #[rv (.slice none 0 0) (.slice none 0 0) 0 (.slice none 0 0), .bool false]) (by simp [results, Try.results17, go_sem, y0, y1, y2, y3]) rfl ⟨rfl, ?_⟩
  exact (((B1.out.setCell (p := ⟨w.heap.size + 1, 0, none⟩) (Nat.le_succ _) _).setCell (p := ⟨w.heap.size + 1, 1, none⟩) (Nat.le_succ _) _).setCell (p := ⟨w.heap.size + 1, 2, none⟩) (Nat.le_succ _) _).setCell (p := ⟨w.heap.size + 1, 3, none⟩) (Nat.le_succ _) _
end Go.Proofs.Ytfhpomfdkpfooaa.Nr

/- NewRun: the model, of a right suite. -/
namespace Go.Proofs.Ytfhpomfdkpfooaa.Nr
open Go.ChangeShapes Go.WideShapes Go.ChangeAt Go.RowKit
open Go.Proofs.Ytfhpomfdkpfooaa.Lists Go.Proofs.Ytfhpomfdkpfooaa.Tm Go.Proofs.Ytfhpomfdkpfooaa.Ru Go.Proofs.Ytfhpomfdkpfooaa.Cp

set_option maxHeartbeats 4000000 in
set_option maxRecDepth 20000 in
theorem snew_yes (R : Tk.Ls) (X : List Int) (vr vx : Value) (w : World) (hR : Tk.Reads w vr R) (hX : Lists.Reads w vx X) (h : So.okS R X = true) :
    Calls Try.prog 16 #[Su.pv vr vx] w fun e w' => ∃ r x j, e = .returned (.tuple #[rv r x 0 j, .bool true]) ∧ (Tk.Row w' w.heap.size r R ∧ w'.ownsRow w.heap.size 2 1 x X.length (ints X) ∧ Jb.Row w' w.heap.size j (zs R.length)) ∧ Below w.heap.size w w' := by
  obtain ⟨p1, p2, p3, p4, p5⟩ := ok_parts h
  obtain ⟨i0, hi, hz0, hz1, hz2⟩ := info_parts Try.infoJ
  obtain ⟨w0, hw0⟩ : ∃ w0, w0 = (w.alloc (Obj.cells #[vr, vx] 27)).alloc (Obj.cells #[.slice none 0 0, .slice none 0 0, .int .i64 0, .slice none 0 0] 30) := ⟨_, rfl⟩
  have HW0 : Hid (w0 = (w.alloc (Obj.cells #[vr, vx] 27)).alloc (Obj.cells #[.slice none 0 0, .slice none 0 0, .int .i64 0, .slice none 0 0] 30)) := hw0
  have B0 : Hid (Below w.heap.size w w0) := (by show Below _ _ _; rw [hw0]; exact ((Below.refl _ _).alloc (Nat.le_refl _) _).alloc (by simp) _)
  have Z0 : Hid (w0.heap.size = w.heap.size + 2) := (by show _ = _; rw [hw0]; simp)
  have X0 : Hid (Su.Box w0 w.heap.size vr vx) := (by show Su.Box _ _ _ _; rw [hw0]; unfold Su.Box; simp [go_sem])
  have Y0 : Hid (Ru.Box w0 (w.heap.size + 1) (.slice none 0 0) (.slice none 0 0) (.int .i64 0) (.slice none 0 0)) := (by show Ru.Box _ _ _ _ _ _; rw [hw0]; unfold Ru.Box; simp [go_sem])
  have F0 : Hid (∀ j, w0.frozen? ⟨w.heap.size + 1, j, none⟩ = false) := fun j => (by rw [hw0]; simp [go_sem])
  have C1 : Hid (Calls Try.prog 33 #[Su.pv vr vx] w0 fun e w' => e = .returned (.bool true) ∧ Below w0.heap.size w0 w') := (by rw [← h]; exact So.ssuite R X vr vx w0 (hR.on B0.out) (hX.on B0.out))
  have C2 : Hid (∀ W, Below w.heap.size w W → Calls Try.prog 34 #[Su.pv vr vx] W fun e w' => ∃ ra rc xa xc, e = .returned (Su.pv (.slice ra R.length rc) (.slice xa X.length xc)) ∧ (Tk.Row w' W.heap.size (.slice ra R.length rc) R ∧ w'.ownsRow W.heap.size 2 1 (.slice xa X.length xc) X.length (ints X)) ∧ Below W.heap.size W w') := fun W hb => (scopy_any R X vr vx W (hR.on hb) (hX.on hb) (by omega) (by omega) (fun i hi => by have := p5 i hi; omega) (by omega)).mono (by
    rintro e w' ⟨r, x, rfl, h1, h2, h3⟩
    obtain ⟨ra, rc, rfl⟩ := h1.reads.form
    obtain ⟨xa, xc, rfl⟩ := (Lists.reads_row h2).form
    exact ⟨ra, rc, xa, xc, rfl, ⟨h1, h2⟩, h3⟩)
  obtain ⟨ar, cr, er⟩ := hR.form
  obtain ⟨ax, cx, ex⟩ := hX.form
  subst er ex
  clear hR hX hw0 h p5
  obtain ⟨n, hn⟩ : ∃ n, n = R.length := ⟨_, rfl⟩
  have HN : Hid (n = R.length) := hn
  rw [← hn] at HW0 X0 C1 C2 p1 p2 ⊢
  clear hn
  obtain ⟨ZC, hZC⟩ : ∃ ZC, ZC = madeCells (Value.agg #[.int .i64 0, .int .i64 0]).cells (n * 2) := ⟨_, rfl⟩
  have HZ : Hid (ZC = madeCells (Value.agg #[.int .i64 0, .int .i64 0]).cells (n * 2)) := hZC
  have hmk : ∀ w, (Instr.makeSlice 28 (.int .i64 (n : Int)) (.int .i64 (n : Int))).run Try.prog w = .ok (.slice (some ⟨w.heap.size, 0, none⟩) n n) (w.alloc (.cells ZC 34)) := fun w => by
    have := run_make (P := Try.prog) w 28 34 i0 (.agg #[.int .i64 0, .int .i64 0]) Try.underlying28 hi hz0 .i64 .i64 (n : Int) (n : Int) (by omega) (Int.le_refl _) (by rw [hz2]; omega) (by omega)
    rw [hz1] at this
    simp only [Int.toNat_natCast] at this
    rw [hZC]
    exact this
  have MR : Hid (∀ W : World, Jb.Row (W.alloc (.cells ZC 34)) W.heap.size (.slice (some ⟨W.heap.size, 0, none⟩) n n) (zs n)) := fun W => by rw [hZC]; exact made_row W n (by omega)
  clear hZC
  obtain ⟨m, hm⟩ : ∃ m, m = X.length := ⟨_, rfl⟩
  have HM : Hid (X.length = m) := hm.symm
  rw [← hm] at HW0 X0 C1 C2 p3 p4 ⊢
  clear hm
  obtain ⟨x0, x1⟩ := X0.out
  go_enter Try.func16, Try.ntmps16
  go_wp2_with fail
  rw [← HW0.out]
  refine C1.out.mono ?_
  rintro e w1 ⟨rfl, hb⟩
  have B1 : Hid (Below w.heap.size w w1) := B0.out.trans (hb.mono B0.out.size)
  have Z1 : Hid (w.heap.size + 2 ≤ w1.heap.size) := (by have := Z0.out; have := hb.size; show _ ≤ _; omega)
  have X1 : Hid (Su.Box w1 w.heap.size (.slice ar n cr) (.slice ax m cx)) := X0.out.on hb (by have := Z0.out; omega)
  have Y1 : Hid (Ru.Box w1 (w.heap.size + 1) (.slice none 0 0) (.slice none 0 0) (.int .i64 0) (.slice none 0 0)) := Y0.out.on hb (by have := Z0.out; omega)
  have F1 : Hid (∀ j, w1.frozen? ⟨w.heap.size + 1, j, none⟩ = false) := fun j => (hb.frozen (p := ⟨w.heap.size + 1, j, none⟩) (by have := Z0.out; show w.heap.size + 1 < _; omega)).trans (F0.out j)
  clear x0 x1 hb HW0
  obtain ⟨x0, x1⟩ := X1.out
  have hs0 : w.heap.size < w1.heap.size := by have := Z1.out; omega
  have hs1 : w.heap.size + 1 < w1.heap.size := by have := Z1.out; omega
  have hs2 : ¬ w.heap.size = w1.heap.size := by omega
  have hs3 : ¬ w.heap.size + 1 = w1.heap.size := by omega
  go_upto_region 3 with fail
  go_region_with (go_at_call 34; refine (C2.out _ (by first | exact B1.out.drew | exact (B1.out.alloc B1.out.size _).drew)).mono ?_; rintro e w2 ⟨ra, rc, xa, xc, rfl, h1, hb2⟩; have b2 : Below w1.heap.size w1 w2 := (by first | exact (Below.refl _ _).drew.trans (hb2.mono (by simp)) | exact ((Below.refl _ _).alloc (Nat.le_refl _) _).drew.trans (hb2.mono (by simp))); have z2 := b2.size; have X2 := X1.out.on b2 hs0; obtain ⟨u0, u1⟩ := X2; have Y2 := Y1.out.on b2 hs1; obtain ⟨y0, y1, y2, y3⟩ := Y2; have f0 := (b2.frozen (p := ⟨w.heap.size + 1, 0, none⟩) hs1).trans (F1.out 0); have f1 := (b2.frozen (p := ⟨w.heap.size + 1, 1, none⟩) hs1).trans (F1.out 1); have f2 := (b2.frozen (p := ⟨w.heap.size + 1, 2, none⟩) hs1).trans (F1.out 2); have f3 := (b2.frozen (p := ⟨w.heap.size + 1, 3, none⟩) hs1).trans (F1.out 3); have ht0 : w.heap.size < w2.heap.size := (by omega); have ht1 : w.heap.size + 1 < w2.heap.size := (by omega); have ht2 : ¬ w.heap.size = w2.heap.size := (by omega); have ht3 : ¬ w.heap.size + 1 = w2.heap.size := (by omega))
  all_goals go_wp2_with fail
  all_goals
    first
    | (have JR : Jb.Row w2 w1.heap.size (.slice (some ⟨w1.heap.size, 0, none⟩) n n) (zs n) := (MR.out w1).on ⟨hb2.os, hb2.tape, hb2.output, hb2.size, hb2.block⟩
       have K4 : KB (fun b => b = w.heap.size + 1) w2 ((((w2.setCell ⟨w.heap.size + 1, 0, none⟩ (.slice ra n rc)).setCell ⟨w.heap.size + 1, 1, none⟩ (.slice xa m xc)).setCell ⟨w.heap.size + 1, 2, none⟩ (.int .i64 0)).setCell ⟨w.heap.size + 1, 3, none⟩ (.slice (some ⟨w1.heap.size, 0, none⟩) n n)) := (((KB.of_set (S := fun b => b = w.heap.size + 1) w2 (w.heap.size + 1) _ _ rfl).trans (KB.of_set (S := fun b => b = w.heap.size + 1) _ (w.heap.size + 1) _ _ rfl)).trans (KB.of_set (S := fun b => b = w.heap.size + 1) _ (w.heap.size + 1) _ _ rfl)).trans (KB.of_set (S := fun b => b = w.heap.size + 1) _ (w.heap.size + 1) _ _ rfl)
       refine bodyPost_ret (v := .tuple #[rv (.slice ra n rc) (.slice xa m xc) 0 (.slice (some ⟨w1.heap.size, 0, none⟩) n n), .bool true]) (by simp [results, Try.results16, go_sem, y0, y1, y2, y3]) rfl ⟨_, _, _, rfl, ?_, (((((B1.out.trans (b2.mono B1.out.size)).setCell (p := ⟨w.heap.size + 1, 0, none⟩) (Nat.le_succ _) _).setCell (p := ⟨w.heap.size + 1, 1, none⟩) (Nat.le_succ _) _).setCell (p := ⟨w.heap.size + 1, 2, none⟩) (Nat.le_succ _) _).setCell (p := ⟨w.heap.size + 1, 3, none⟩) (Nat.le_succ _) _)⟩
       have q1 := Su.row_down (B' := w.heap.size + 2) h1.1 (by first | (simp; omega) | omega)
       have q2 := Tk1.own_down (B' := w.heap.size + 2) h1.2 (by first | (simp; omega) | omega)
       have a1 := srow_kb q1 K4 (fun b hb e => by omega)
       have a2 := row_kb q2 K4 (fun b hb e => by have := (q2.lt b hb).1; omega)
       exact ⟨Su.row_down a1 (by omega), Tk1.own_down (by first | exact a2 | (rw [HM.out]; exact a2)) (by omega), jrow_down (jrow_kb JR K4 (fun b hb e => by simp [Value.ownBlock] at hb; omega)) B1.out.size⟩)
    | (have K4 : KB (fun b => b = w.heap.size + 1) w2 ((((w2.setCell ⟨w.heap.size + 1, 0, none⟩ (.slice ra n rc)).setCell ⟨w.heap.size + 1, 1, none⟩ (.slice xa m xc)).setCell ⟨w.heap.size + 1, 2, none⟩ (.int .i64 0)).setCell ⟨w.heap.size + 1, 3, none⟩ (.slice (some ⟨w2.heap.size, 0, none⟩) n n)) := (((KB.of_set (S := fun b => b = w.heap.size + 1) w2 (w.heap.size + 1) _ _ rfl).trans (KB.of_set (S := fun b => b = w.heap.size + 1) _ (w.heap.size + 1) _ _ rfl)).trans (KB.of_set (S := fun b => b = w.heap.size + 1) _ (w.heap.size + 1) _ _ rfl)).trans (KB.of_set (S := fun b => b = w.heap.size + 1) _ (w.heap.size + 1) _ _ rfl)
       have BW : Below w.heap.size w ((((w2.setCell ⟨w.heap.size + 1, 0, none⟩ (.slice ra n rc)).setCell ⟨w.heap.size + 1, 1, none⟩ (.slice xa m xc)).setCell ⟨w.heap.size + 1, 2, none⟩ (.int .i64 0)).setCell ⟨w.heap.size + 1, 3, none⟩ (.slice (some ⟨w2.heap.size, 0, none⟩) n n)) := (((((B1.out.trans (b2.mono B1.out.size)).setCell (p := ⟨w.heap.size + 1, 0, none⟩) (Nat.le_succ _) _).setCell (p := ⟨w.heap.size + 1, 1, none⟩) (Nat.le_succ _) _).setCell (p := ⟨w.heap.size + 1, 2, none⟩) (Nat.le_succ _) _).setCell (p := ⟨w.heap.size + 1, 3, none⟩) (Nat.le_succ _) _)
       have SZ4 : ((((w2.setCell ⟨w.heap.size + 1, 0, none⟩ (.slice ra n rc)).setCell ⟨w.heap.size + 1, 1, none⟩ (.slice xa m xc)).setCell ⟨w.heap.size + 1, 2, none⟩ (.int .i64 0)).setCell ⟨w.heap.size + 1, 3, none⟩ (.slice (some ⟨w2.heap.size, 0, none⟩) n n)).heap.size = w2.heap.size := by simp
       have JR := MR.out ((((w2.setCell ⟨w.heap.size + 1, 0, none⟩ (.slice ra n rc)).setCell ⟨w.heap.size + 1, 1, none⟩ (.slice xa m xc)).setCell ⟨w.heap.size + 1, 2, none⟩ (.int .i64 0)).setCell ⟨w.heap.size + 1, 3, none⟩ (.slice (some ⟨w2.heap.size, 0, none⟩) n n))
       rw [SZ4] at JR
       refine bodyPost_ret (v := .tuple #[rv (.slice ra n rc) (.slice xa m xc) 0 (.slice (some ⟨w2.heap.size, 0, none⟩) n n), .bool true]) (by simp [results, Try.results16, go_sem, y0, y1, y2, y3, ht1]) rfl ⟨_, _, _, rfl, ?_, BW.alloc BW.size _⟩
       have q1 := Su.row_down (B' := w.heap.size + 2) h1.1 (by first | (simp; omega) | omega)
       have q2 := Tk1.own_down (B' := w.heap.size + 2) h1.2 (by first | (simp; omega) | omega)
       have a1 := (srow_kb q1 K4 (fun b hb e => by omega)).on ((Below.refl _ _).alloc (Nat.le_refl _) (Obj.cells ZC 34))
       have a2 := Tk.row_below (row_kb q2 K4 (fun b hb e => by have := (q2.lt b hb).1; omega)) ((Below.refl _ _).alloc (Nat.le_refl _) (Obj.cells ZC 34))
       exact ⟨Su.row_down a1 (by omega), Tk1.own_down (by first | exact a2 | (rw [HM.out]; exact a2)) (by omega), jrow_down JR (by omega)⟩)
end Go.Proofs.Ytfhpomfdkpfooaa.Nr

/- NewRun: the program, of a right suite. -/
namespace Go.Proofs.Ytfhpomfdkpfooaa.Nr
open Go.ChangeShapes Go.WideShapes Go.ChangeAt Go.RowKit
open Go.Proofs.Ytfhpomfdkpfooaa.Lists Go.Proofs.Ytfhpomfdkpfooaa.Tm Go.Proofs.Ytfhpomfdkpfooaa.Ru Go.Proofs.Ytfhpomfdkpfooaa.Cp

set_option maxHeartbeats 4000000 in
set_option maxRecDepth 20000 in
theorem inew_yes (R : Tk.Ls) (X : List Int) (vr vx : Value) (w : World) (hR : Tk.Reads w vr R) (hX : Lists.Reads w vx X) (h : So.okS R X = true) :
    Calls Try.prog 17 #[Su.pv vr vx] w fun e w' => ∃ r x j xs, e = .returned (.tuple #[rv r x 0 j, .bool true]) ∧ RO w' w.heap.size r x j xs R X (zs R.length) ∧ Below w.heap.size w w' := by
  obtain ⟨p1, p2, p3, p4, p5⟩ := ok_parts h
  obtain ⟨i0, hi, hz0, hz1, hz2⟩ := info_parts Try.infoJ
  obtain ⟨w0, hw0⟩ : ∃ w0, w0 = (w.alloc (Obj.cells #[vr, vx] 27)).alloc (Obj.cells #[.slice none 0 0, .slice none 0 0, .int .i64 0, .slice none 0 0] 30) := ⟨_, rfl⟩
  have HW0 : Hid (w0 = (w.alloc (Obj.cells #[vr, vx] 27)).alloc (Obj.cells #[.slice none 0 0, .slice none 0 0, .int .i64 0, .slice none 0 0] 30)) := hw0
  have B0 : Hid (Below w.heap.size w w0) := (by show Below _ _ _; rw [hw0]; exact ((Below.refl _ _).alloc (Nat.le_refl _) _).alloc (by simp) _)
  have Z0 : Hid (w0.heap.size = w.heap.size + 2) := (by show _ = _; rw [hw0]; simp)
  have X0 : Hid (Su.Box w0 w.heap.size vr vx) := (by show Su.Box _ _ _ _; rw [hw0]; unfold Su.Box; simp [go_sem])
  have Y0 : Hid (Ru.Box w0 (w.heap.size + 1) (.slice none 0 0) (.slice none 0 0) (.int .i64 0) (.slice none 0 0)) := (by show Ru.Box _ _ _ _ _ _; rw [hw0]; unfold Ru.Box; simp [go_sem])
  have F0 : Hid (∀ j, w0.frozen? ⟨w.heap.size + 1, j, none⟩ = false) := fun j => (by rw [hw0]; simp [go_sem])
  have C1 : Hid (Calls Try.prog 35 #[Su.pv vr vx] w0 fun e w' => e = .returned (.bool true) ∧ Below w0.heap.size w0 w') := (by rw [← h]; exact So.isuite R X vr vx w0 (hR.on B0.out) (hX.on B0.out))
  have C2 : Hid (∀ W, Below w.heap.size w W → Calls Try.prog 36 #[Su.pv vr vx] W fun e w' => ∃ ra rc xa xc xs, e = .returned (Su.pv (.slice ra R.length rc) (.slice xa X.length xc)) ∧ (SO w' W.heap.size (.slice ra R.length rc) (.slice xa X.length xc) xs R X) ∧ Below W.heap.size W w') := fun W hb => (icopy_any R X vr vx W (hR.on hb) (hX.on hb) (by omega) (by omega) (fun i hi => by have := p5 i hi; omega) (by omega)).mono (by
    rintro e w' ⟨r, x, xs, rfl, h1, h3⟩
    obtain ⟨ra, rc, rfl⟩ := h1.reads.1.form
    obtain ⟨xa, xc, rfl⟩ := h1.reads.2.form
    exact ⟨ra, rc, xa, xc, xs, rfl, h1, h3⟩)
  obtain ⟨ar, cr, er⟩ := hR.form
  obtain ⟨ax, cx, ex⟩ := hX.form
  subst er ex
  clear hR hX hw0 h p5
  obtain ⟨n, hn⟩ : ∃ n, n = R.length := ⟨_, rfl⟩
  have HN : Hid (n = R.length) := hn
  rw [← hn] at HW0 X0 C1 C2 p1 p2 ⊢
  clear hn
  obtain ⟨ZC, hZC⟩ : ∃ ZC, ZC = madeCells (Value.agg #[.int .i64 0, .int .i64 0]).cells (n * 2) := ⟨_, rfl⟩
  have HZ : Hid (ZC = madeCells (Value.agg #[.int .i64 0, .int .i64 0]).cells (n * 2)) := hZC
  have hmk : ∀ w, (Instr.makeSlice 28 (.int .i64 (n : Int)) (.int .i64 (n : Int))).run Try.prog w = .ok (.slice (some ⟨w.heap.size, 0, none⟩) n n) (w.alloc (.cells ZC 34)) := fun w => by
    have := run_make (P := Try.prog) w 28 34 i0 (.agg #[.int .i64 0, .int .i64 0]) Try.underlying28 hi hz0 .i64 .i64 (n : Int) (n : Int) (by omega) (Int.le_refl _) (by rw [hz2]; omega) (by omega)
    rw [hz1] at this
    simp only [Int.toNat_natCast] at this
    rw [hZC]
    exact this
  have MR : Hid (∀ W : World, Jb.Row (W.alloc (.cells ZC 34)) W.heap.size (.slice (some ⟨W.heap.size, 0, none⟩) n n) (zs n)) := fun W => by rw [hZC]; exact made_row W n (by omega)
  clear hZC
  obtain ⟨m, hm⟩ : ∃ m, m = X.length := ⟨_, rfl⟩
  have HM : Hid (X.length = m) := hm.symm
  rw [← hm] at HW0 X0 C1 C2 p3 p4 ⊢
  clear hm
  obtain ⟨x0, x1⟩ := X0.out
  go_enter Try.func17, Try.ntmps17
  go_wp2_with fail
  rw [← HW0.out]
  refine C1.out.mono ?_
  rintro e w1 ⟨rfl, hb⟩
  have B1 : Hid (Below w.heap.size w w1) := B0.out.trans (hb.mono B0.out.size)
  have Z1 : Hid (w.heap.size + 2 ≤ w1.heap.size) := (by have := Z0.out; have := hb.size; show _ ≤ _; omega)
  have X1 : Hid (Su.Box w1 w.heap.size (.slice ar n cr) (.slice ax m cx)) := X0.out.on hb (by have := Z0.out; omega)
  have Y1 : Hid (Ru.Box w1 (w.heap.size + 1) (.slice none 0 0) (.slice none 0 0) (.int .i64 0) (.slice none 0 0)) := Y0.out.on hb (by have := Z0.out; omega)
  have F1 : Hid (∀ j, w1.frozen? ⟨w.heap.size + 1, j, none⟩ = false) := fun j => (hb.frozen (p := ⟨w.heap.size + 1, j, none⟩) (by have := Z0.out; show w.heap.size + 1 < _; omega)).trans (F0.out j)
  clear x0 x1 hb HW0
  obtain ⟨x0, x1⟩ := X1.out
  have hs0 : w.heap.size < w1.heap.size := by have := Z1.out; omega
  have hs1 : w.heap.size + 1 < w1.heap.size := by have := Z1.out; omega
  have hs2 : ¬ w.heap.size = w1.heap.size := by omega
  have hs3 : ¬ w.heap.size + 1 = w1.heap.size := by omega
  go_upto_region 3 with fail
  go_region_with (go_at_call 36; refine (C2.out _ (by first | exact B1.out.drew | exact (B1.out.alloc B1.out.size _).drew)).mono ?_; rintro e w2 ⟨ra, rc, xa, xc, xs, rfl, h1, hb2⟩; have b2 : Below w1.heap.size w1 w2 := (by first | exact (Below.refl _ _).drew.trans (hb2.mono (by simp)) | exact ((Below.refl _ _).alloc (Nat.le_refl _) _).drew.trans (hb2.mono (by simp))); have z2 := b2.size; have X2 := X1.out.on b2 hs0; obtain ⟨u0, u1⟩ := X2; have Y2 := Y1.out.on b2 hs1; obtain ⟨y0, y1, y2, y3⟩ := Y2; have f0 := (b2.frozen (p := ⟨w.heap.size + 1, 0, none⟩) hs1).trans (F1.out 0); have f1 := (b2.frozen (p := ⟨w.heap.size + 1, 1, none⟩) hs1).trans (F1.out 1); have f2 := (b2.frozen (p := ⟨w.heap.size + 1, 2, none⟩) hs1).trans (F1.out 2); have f3 := (b2.frozen (p := ⟨w.heap.size + 1, 3, none⟩) hs1).trans (F1.out 3); have ht0 : w.heap.size < w2.heap.size := (by omega); have ht1 : w.heap.size + 1 < w2.heap.size := (by omega); have ht2 : ¬ w.heap.size = w2.heap.size := (by omega); have ht3 : ¬ w.heap.size + 1 = w2.heap.size := (by omega))
  all_goals go_wp2_with fail
  all_goals
    first
    | (have JR : Jb.Row w2 w1.heap.size (.slice (some ⟨w1.heap.size, 0, none⟩) n n) (zs n) := (MR.out w1).on ⟨hb2.os, hb2.tape, hb2.output, hb2.size, hb2.block⟩
       have K4 : KB (fun b => b = w.heap.size + 1) w2 ((((w2.setCell ⟨w.heap.size + 1, 0, none⟩ (.slice ra n rc)).setCell ⟨w.heap.size + 1, 1, none⟩ (.slice xa m xc)).setCell ⟨w.heap.size + 1, 2, none⟩ (.int .i64 0)).setCell ⟨w.heap.size + 1, 3, none⟩ (.slice (some ⟨w1.heap.size, 0, none⟩) n n)) := (((KB.of_set (S := fun b => b = w.heap.size + 1) w2 (w.heap.size + 1) _ _ rfl).trans (KB.of_set (S := fun b => b = w.heap.size + 1) _ (w.heap.size + 1) _ _ rfl)).trans (KB.of_set (S := fun b => b = w.heap.size + 1) _ (w.heap.size + 1) _ _ rfl)).trans (KB.of_set (S := fun b => b = w.heap.size + 1) _ (w.heap.size + 1) _ _ rfl)
       refine bodyPost_ret (v := .tuple #[rv (.slice ra n rc) (.slice xa m xc) 0 (.slice (some ⟨w1.heap.size, 0, none⟩) n n), .bool true]) (by simp [results, Try.results17, go_sem, y0, y1, y2, y3]) rfl ⟨_, _, _, xs, rfl, ?_, (((((B1.out.trans (b2.mono B1.out.size)).setCell (p := ⟨w.heap.size + 1, 0, none⟩) (Nat.le_succ _) _).setCell (p := ⟨w.heap.size + 1, 1, none⟩) (Nat.le_succ _) _).setCell (p := ⟨w.heap.size + 1, 2, none⟩) (Nat.le_succ _) _).setCell (p := ⟨w.heap.size + 1, 3, none⟩) (Nat.le_succ _) _)⟩
       have q1 := SO.down (B' := w.heap.size + 2) h1 (by first | (simp; omega) | omega)
       have a1 := q1.kb K4 (fun b hb e => by have := (q1.bs b hb).1; omega)
       exact ⟨SO.down a1 (by omega), jrow_down (jrow_kb JR K4 (fun b hb e => by simp [Value.ownBlock] at hb; omega)) (by omega)⟩)
    | (have K4 : KB (fun b => b = w.heap.size + 1) w2 ((((w2.setCell ⟨w.heap.size + 1, 0, none⟩ (.slice ra n rc)).setCell ⟨w.heap.size + 1, 1, none⟩ (.slice xa m xc)).setCell ⟨w.heap.size + 1, 2, none⟩ (.int .i64 0)).setCell ⟨w.heap.size + 1, 3, none⟩ (.slice (some ⟨w2.heap.size, 0, none⟩) n n)) := (((KB.of_set (S := fun b => b = w.heap.size + 1) w2 (w.heap.size + 1) _ _ rfl).trans (KB.of_set (S := fun b => b = w.heap.size + 1) _ (w.heap.size + 1) _ _ rfl)).trans (KB.of_set (S := fun b => b = w.heap.size + 1) _ (w.heap.size + 1) _ _ rfl)).trans (KB.of_set (S := fun b => b = w.heap.size + 1) _ (w.heap.size + 1) _ _ rfl)
       have BW : Below w.heap.size w ((((w2.setCell ⟨w.heap.size + 1, 0, none⟩ (.slice ra n rc)).setCell ⟨w.heap.size + 1, 1, none⟩ (.slice xa m xc)).setCell ⟨w.heap.size + 1, 2, none⟩ (.int .i64 0)).setCell ⟨w.heap.size + 1, 3, none⟩ (.slice (some ⟨w2.heap.size, 0, none⟩) n n)) := (((((B1.out.trans (b2.mono B1.out.size)).setCell (p := ⟨w.heap.size + 1, 0, none⟩) (Nat.le_succ _) _).setCell (p := ⟨w.heap.size + 1, 1, none⟩) (Nat.le_succ _) _).setCell (p := ⟨w.heap.size + 1, 2, none⟩) (Nat.le_succ _) _).setCell (p := ⟨w.heap.size + 1, 3, none⟩) (Nat.le_succ _) _)
       have SZ4 : ((((w2.setCell ⟨w.heap.size + 1, 0, none⟩ (.slice ra n rc)).setCell ⟨w.heap.size + 1, 1, none⟩ (.slice xa m xc)).setCell ⟨w.heap.size + 1, 2, none⟩ (.int .i64 0)).setCell ⟨w.heap.size + 1, 3, none⟩ (.slice (some ⟨w2.heap.size, 0, none⟩) n n)).heap.size = w2.heap.size := by simp
       have JR := MR.out ((((w2.setCell ⟨w.heap.size + 1, 0, none⟩ (.slice ra n rc)).setCell ⟨w.heap.size + 1, 1, none⟩ (.slice xa m xc)).setCell ⟨w.heap.size + 1, 2, none⟩ (.int .i64 0)).setCell ⟨w.heap.size + 1, 3, none⟩ (.slice (some ⟨w2.heap.size, 0, none⟩) n n))
       rw [SZ4] at JR
       refine bodyPost_ret (v := .tuple #[rv (.slice ra n rc) (.slice xa m xc) 0 (.slice (some ⟨w2.heap.size, 0, none⟩) n n), .bool true]) (by simp [results, Try.results17, go_sem, y0, y1, y2, y3, ht1]) rfl ⟨_, _, _, xs, rfl, ?_, BW.alloc BW.size _⟩
       have q1 := SO.down (B' := w.heap.size + 2) h1 (by first | (simp; omega) | omega)
       have a1 := (q1.kb K4 (fun b hb e => by have := (q1.bs b hb).1; omega)).on ((Below.refl _ _).alloc (Nat.le_refl _) (Obj.cells ZC 34))
       exact ⟨SO.down a1 (by omega), jrow_down JR (by omega)⟩)
end Go.Proofs.Ytfhpomfdkpfooaa.Nr

/- NewRun: what both answer, right or not. -/
namespace Go.Proofs.Ytfhpomfdkpfooaa.Nr
open Go.ChangeShapes Go.WideShapes Go.ChangeAt Go.RowKit
open Go.Proofs.Ytfhpomfdkpfooaa.Lists Go.Proofs.Ytfhpomfdkpfooaa.Tm Go.Proofs.Ytfhpomfdkpfooaa.Ru Go.Proofs.Ytfhpomfdkpfooaa.Cp

def aR (R : Tk.Ls) (X : List Int) : Tk.Ls := if So.okS R X = true then R else []
def aX (R : Tk.Ls) (X : List Int) : List Int := if So.okS R X = true then X else []
def aJ (R : Tk.Ls) (X : List Int) : Jb.Ls := if So.okS R X = true then zs R.length else []
theorem ans_small (R : Tk.Ls) (X : List Int) : (aR R X).length ≤ 60 ∧ (∀ i, i < (aR R X).length → (Tk.cl (aR R X) i).length ≤ 1048576) ∧ (aX R X).length ≤ 60 ∧ (aJ R X).length ≤ 60 := by
  unfold aR aX aJ
  by_cases h : So.okS R X = true
  · obtain ⟨p1, p2, p3, p4, p5⟩ := ok_parts h
    rw [if_pos h, if_pos h, if_pos h, zs_len]
    exact ⟨p2, fun i hi => by have := p5 i hi; omega, by omega, p2⟩
  · rw [if_neg h, if_neg h, if_neg h]
    exact ⟨by simp, fun i hi => absurd hi (by simp), by simp, by simp⟩
theorem tl_bound (R : Tk.Ls) (h : ∀ i, i < R.length → (Tk.cl R i).length ≤ 1048576) : ∀ k, k ≤ R.length → tl R k ≤ k * 1048579
  | 0, _ => by simp [tl]
  | k + 1, hk => by
    have := tl_bound R h k (by omega)
    have := h k (by omega)
    show tl R k + ((Tk.cl R k).length + 3) ≤ _
    omega
theorem snew_any (R : Tk.Ls) (X : List Int) (vr vx : Value) (w : World) (hR : Tk.Reads w vr R) (hX : Lists.Reads w vx X) :
    Calls Try.prog 16 #[Su.pv vr vx] w fun e w' => ∃ ra rc xa xc ja jc, e = .returned (.tuple #[rv (.slice ra (aR R X).length rc) (.slice xa (aX R X).length xc) 0 (.slice ja (aJ R X).length jc), .bool (So.okS R X)]) ∧ RR w' (.slice ra (aR R X).length rc) (.slice xa (aX R X).length xc) (.slice ja (aJ R X).length jc) (aR R X) (aX R X) (aJ R X) ∧ Below w.heap.size w w' := by
  unfold aR aX aJ
  cases h : So.okS R X
  · refine (snew_no R X vr vx w hR hX h).mono ?_
    rintro e w' ⟨rfl, hb⟩
    exact ⟨none, 0, none, 0, none, 0, rfl, ⟨.inl ⟨rfl, _, _, rfl⟩, .inl ⟨rfl, _, _, rfl⟩, .inl ⟨rfl, _, _, rfl⟩⟩, hb⟩
  · refine (snew_yes R X vr vx w hR hX h).mono ?_
    rintro e w' ⟨r, x, j, rfl, hm, hb⟩
    have hh : RR w' r x j R X (zs R.length) := ⟨hm.1.reads, Lists.reads_row hm.2.1, hm.2.2.reads⟩
    obtain ⟨ra, rc, rfl⟩ := hh.1.form
    obtain ⟨xa, xc, rfl⟩ := hh.2.1.form
    obtain ⟨ja, jc, rfl⟩ := hh.2.2.form
    exact ⟨ra, rc, xa, xc, ja, jc, rfl, hh, hb⟩
theorem inew_any (R : Tk.Ls) (X : List Int) (vr vx : Value) (w : World) (hR : Tk.Reads w vr R) (hX : Lists.Reads w vx X) :
    Calls Try.prog 17 #[Su.pv vr vx] w fun e w' => ∃ ra rc xa xc ja jc xs, e = .returned (.tuple #[rv (.slice ra (aR R X).length rc) (.slice xa (aX R X).length xc) 0 (.slice ja (aJ R X).length jc), .bool (So.okS R X)]) ∧ RO w' w.heap.size (.slice ra (aR R X).length rc) (.slice xa (aX R X).length xc) (.slice ja (aJ R X).length jc) xs (aR R X) (aX R X) (aJ R X) ∧ Below w.heap.size w w' := by
  unfold aR aX aJ
  cases h : So.okS R X
  · refine (inew_no R X vr vx w hR hX h).mono ?_
    rintro e w' ⟨rfl, hb⟩
    refine ⟨none, 0, none, 0, none, 0, [], rfl, ⟨⟨⟨⟨rfl, .inl ⟨rfl, rfl⟩⟩, fun i hi => absurd hi (by simp), fun i j a _ hj => absurd hj (by simp)⟩, ⟨rfl, .inl ⟨rfl, rfl⟩⟩, fun i a hi => absurd hi (by simp)⟩, ⟨[], ⟨rfl, .inl ⟨rfl, rfl⟩⟩, fun i hi => absurd hi (by simp)⟩⟩, hb⟩
  · refine (inew_yes R X vr vx w hR hX h).mono ?_
    rintro e w' ⟨r, x, j, xs, rfl, hh, hb⟩
    obtain ⟨ra, rc, rfl⟩ := hh.reads.1.form
    obtain ⟨xa, xc, rfl⟩ := hh.reads.2.1.form
    obtain ⟨ja, jc, rfl⟩ := hh.reads.2.2.form
    exact ⟨ra, rc, xa, xc, ja, jc, xs, rfl, hh, hb⟩
end Go.Proofs.Ytfhpomfdkpfooaa.Nr
