/- NewRun: the model and the program. -/
import Derived.Test.YtfhpomfdkpfooaaCq
import Derived.Test.YtfhpomfdkpfooaaCr
import Derived.Test.YtfhpomfdkpfooaaSp
import Derived.Deep.RegionWith
namespace Go.Proofs.Ytfhpomfdkpfooaa.Nr
open Go.ChangeShapes Go.WideShapes Go.ChangeAt Go.RowKit
open Go.Proofs.Ytfhpomfdkpfooaa.Lists Go.Proofs.Ytfhpomfdkpfooaa.Tm Go.Proofs.Ytfhpomfdkpfooaa.Ru Go.Proofs.Ytfhpomfdkpfooaa.Cp

def zs (n : Nat) : Jb.Ls := List.replicate n (0, 0)
theorem zs_len (n : Nat) : (zs n).length = n := by simp [zs]
theorem Try.infoJ : (Try.prog.info? 34).map (fun i => (i.zero, i.size, i.bytes)) = some (some (.agg #[.int .i64 0, .int .i64 0]), 2, 16) := by kernel_rfl
theorem made_at (n p : Nat) (hp : p < n * 2) : (madeCells (Value.agg #[.int .i64 0, .int .i64 0]).cells (n * 2))[p]? = some (.int .i64 0) := by
  unfold madeCells
  rw [Array.getElem?_map, Array.getElem?_range, if_pos hp]
  have : p % 2 = 0 ∨ p % 2 = 1 := by omega
  rcases this with h | h <;> simp [Value.cells, h]
theorem made_row (W : World) (n : Nat) (hn : n ≤ 1048576) : Jb.Row (W.alloc (.cells (madeCells (Value.agg #[.int .i64 0, .int .i64 0]).cells (n * 2)) 34)) W.heap.size (.slice (some ⟨W.heap.size, 0, none⟩) n n) (zs n) := by
  refine ⟨(madeCells (Value.agg #[.int .i64 0, .int .i64 0]).cells (n * 2)).toList, ?_, fun i hi => ?_⟩
  · rw [zs_len]
    refine ⟨by simp [size_madeCells], .inr ⟨W.heap.size, n, madeCells (Value.agg #[.int .i64 0, .int .i64 0]).cells (n * 2), rfl, Nat.le_refl _, heap_alloc_new W _, Nat.le_refl _, by unfold maxLen; omega, size_madeCells _ _, ?_⟩⟩
    rw [List.take_of_length_le (by simp [size_madeCells])]
  · rw [zs_len] at hi
    have e : Jb.c0 (zs n) i = 0 ∧ Jb.c1 (zs n) i = 0 := by
      unfold Jb.c0 Jb.c1 zs
      rw [List.getD_eq_getElem?_getD, List.getElem?_replicate, if_pos hi]
      exact ⟨rfl, rfl⟩
    rw [e.1, e.2, Array.getElem?_toList, Array.getElem?_toList]
    exact ⟨made_at n _ (by omega), made_at n _ (by omega)⟩
theorem jrow_down {w : World} {B B' : Nat} {v : Value} {L : Jb.Ls} (h : Jb.Row w B v L) (hb : B' ≤ B) : Jb.Row w B' v L := by
  obtain ⟨xs, h, hh⟩ := h
  refine ⟨xs, ⟨h.1, ?_⟩, hh⟩
  rcases h.2 with h | ⟨gx, cap, cur, h1, h2, h3⟩
  · exact .inl h
  · exact .inr ⟨gx, cap, cur, h1, by omega, h3⟩
theorem SO.down {w : World} {B B' : Nat} {r x : Value} {xs : List Value} {R : Tk.Ls} {X : List Int} (h : SO w B r x xs R X) (hb : B' ≤ B) : SO w B' r x xs R X := ⟨h.1.down hb, Tk1.own_down h.2.1 hb, h.2.2⟩
theorem srow_kb {S : Nat → Prop} {w w' : World} {base : Nat} {v : Value} {R : Tk.Ls} (h : Tk.Row w base v R) (hb : KB S w w') (hs : ∀ b, base ≤ b → ¬ S b) : Tk.Row w' base v R := by
  obtain ⟨ys, h1, h2⟩ := h
  exact ⟨ys, row_kb h1 hb (fun b hb => hs b (h1.lt b hb).1), good_kb h2 hb (fun b hr hb => hs b (hr.lt b hb).1)⟩
theorem reads_row' {w : World} {base m : Nat} {v : Value} {X : List Int} (h : w.ownsRow base 2 1 v m (ints X)) (hm : X.length = m) : Lists.Reads w v X := by
  subst hm
  exact Lists.reads_row h
theorem ok_parts {R : Tk.Ls} {X : List Int} (h : So.okS R X = true) : 1 ≤ R.length ∧ R.length ≤ 60 ∧ 1 ≤ X.length ∧ X.length ≤ 6 ∧ ∀ i, i < R.length → (Tk.cl R i).length ≤ 60 := by
  unfold So.okS at h
  rw [Bool.and_eq_true, Bool.and_eq_true, Bool.and_eq_true, Al.inn_iff, Al.inn_iff] at h
  obtain ⟨⟨a1, a2⟩, ⟨b1, b2⟩, _, h⟩ := h
  refine ⟨by omega, by omega, by omega, by omega, fun i hi => ?_⟩
  unfold So.oks at h
  rw [List.all_eq_true] at h
  have := h i (List.mem_range.2 hi)
  unfold So.okT So.tok at this
  rw [Bool.and_eq_true] at this
  have := So.eAs_len (by omega) this.1
  omega

set_option maxHeartbeats 2000000 in
set_option maxRecDepth 20000 in
theorem snew_no (R : Tk.Ls) (X : List Int) (vr vx : Value) (w : World) (hR : Tk.Reads w vr R) (hX : Lists.Reads w vx X) (h : So.okS R X = false) :
    Calls Try.prog 16 #[Su.pv vr vx] w fun e w' => e = .returned (.tuple #[rv (.slice none 0 0) (.slice none 0 0) 0 (.slice none 0 0), .bool false]) ∧ Below w.heap.size w w' := by
  obtain ⟨w0, hw0⟩ : ∃ w0, w0 = (w.alloc (Obj.cells #[vr, vx] 27)).alloc (Obj.cells #[.slice none 0 0, .slice none 0 0, .int .i64 0, .slice none 0 0] 30) := ⟨_, rfl⟩
  have HW0 : Hid (w0 = (w.alloc (Obj.cells #[vr, vx] 27)).alloc (Obj.cells #[.slice none 0 0, .slice none 0 0, .int .i64 0, .slice none 0 0] 30)) := hw0
  have B0 : Hid (Below w.heap.size w w0) := (by show Below _ _ _; rw [hw0]; exact ((Below.refl _ _).alloc (Nat.le_refl _) _).alloc (by simp) _)
  have Z0 : Hid (w0.heap.size = w.heap.size + 2) := (by show _ = _; rw [hw0]; simp)
  have X0 : Hid (Su.Box w0 w.heap.size vr vx) := (by show Su.Box _ _ _ _; rw [hw0]; unfold Su.Box; simp [go_sem])
  have Y0 : Hid (Ru.Box w0 (w.heap.size + 1) (.slice none 0 0) (.slice none 0 0) (.int .i64 0) (.slice none 0 0)) := (by show Ru.Box _ _ _ _ _ _; rw [hw0]; unfold Ru.Box; simp [go_sem])
  have F0 : Hid (∀ j, w0.frozen? ⟨w.heap.size + 1, j, none⟩ = false) := fun j => (by rw [hw0]; simp [go_sem])
  have C1 : Hid (Calls Try.prog 33 #[Su.pv vr vx] w0 fun e w' => e = .returned (.bool false) ∧ Below w0.heap.size w0 w') := (by rw [← h]; exact So.ssuite R X vr vx w0 (hR.on B0.out) (hX.on B0.out))
  obtain ⟨ar, cr, er⟩ := hR.form
  obtain ⟨ax, cx, ex⟩ := hX.form
  subst er ex
  clear hR hX hw0 h
  generalize R.length = n at *
  generalize X.length = m at *
  obtain ⟨x0, x1⟩ := X0.out
  go_enter Try.func16, Try.ntmps16
  go_wp2_with fail
  rw [← HW0.out]
  refine C1.out.mono ?_
  rintro e w1 ⟨rfl, hb⟩
  have B1 : Hid (Below w.heap.size w w1) := B0.out.trans (hb.mono B0.out.size)
  have Y1 := Y0.out.on hb (by have := Z0.out; omega)
  have F1 : ∀ j, w1.frozen? ⟨w.heap.size + 1, j, none⟩ = false := fun j => (hb.frozen (p := ⟨w.heap.size + 1, j, none⟩) (by have := Z0.out; show w.heap.size + 1 < _; omega)).trans (F0.out j)
  have f0 := F1 0
  have f1 := F1 1
  have f2 := F1 2
  have f3 := F1 3
  obtain ⟨y0, y1, y2, y3⟩ := Y1
  clear x0 x1 hb F1 HW0
  go_wp2_with fail
  refine bodyPost_ret (v := .tuple #[rv (.slice none 0 0) (.slice none 0 0) 0 (.slice none 0 0), .bool false]) (by simp [results, Try.results16, go_sem, y0, y1, y2, y3]) rfl ⟨rfl, ?_⟩
  exact (((B1.out.setCell (p := ⟨w.heap.size + 1, 0, none⟩) (Nat.le_succ _) _).setCell (p := ⟨w.heap.size + 1, 1, none⟩) (Nat.le_succ _) _).setCell (p := ⟨w.heap.size + 1, 2, none⟩) (Nat.le_succ _) _).setCell (p := ⟨w.heap.size + 1, 3, none⟩) (Nat.le_succ _) _
set_option maxHeartbeats 2000000 in
set_option maxRecDepth 20000 in
theorem inew_no (R : Tk.Ls) (X : List Int) (vr vx : Value) (w : World) (hR : Tk.Reads w vr R) (hX : Lists.Reads w vx X) (h : So.okS R X = false) :
    Calls Try.prog 17 #[Su.pv vr vx] w fun e w' => e = .returned (.tuple #[rv (.slice none 0 0) (.slice none 0 0) 0 (.slice none 0 0), .bool false]) ∧ Below w.heap.size w w' := by
  obtain ⟨w0, hw0⟩ : ∃ w0, w0 = (w.alloc (Obj.cells #[vr, vx] 27)).alloc (Obj.cells #[.slice none 0 0, .slice none 0 0, .int .i64 0, .slice none 0 0] 30) := ⟨_, rfl⟩
  have HW0 : Hid (w0 = (w.alloc (Obj.cells #[vr, vx] 27)).alloc (Obj.cells #[.slice none 0 0, .slice none 0 0, .int .i64 0, .slice none 0 0] 30)) := hw0
  have B0 : Hid (Below w.heap.size w w0) := (by show Below _ _ _; rw [hw0]; exact ((Below.refl _ _).alloc (Nat.le_refl _) _).alloc (by simp) _)
  have Z0 : Hid (w0.heap.size = w.heap.size + 2) := (by show _ = _; rw [hw0]; simp)
  have X0 : Hid (Su.Box w0 w.heap.size vr vx) := (by show Su.Box _ _ _ _; rw [hw0]; unfold Su.Box; simp [go_sem])
  have Y0 : Hid (Ru.Box w0 (w.heap.size + 1) (.slice none 0 0) (.slice none 0 0) (.int .i64 0) (.slice none 0 0)) := (by show Ru.Box _ _ _ _ _ _; rw [hw0]; unfold Ru.Box; simp [go_sem])
  have F0 : Hid (∀ j, w0.frozen? ⟨w.heap.size + 1, j, none⟩ = false) := fun j => (by rw [hw0]; simp [go_sem])
  have C1 : Hid (Calls Try.prog 35 #[Su.pv vr vx] w0 fun e w' => e = .returned (.bool false) ∧ Below w0.heap.size w0 w') := (by rw [← h]; exact So.isuite R X vr vx w0 (hR.on B0.out) (hX.on B0.out))
  obtain ⟨ar, cr, er⟩ := hR.form
  obtain ⟨ax, cx, ex⟩ := hX.form
  subst er ex
  clear hR hX hw0 h
  generalize R.length = n at *
  generalize X.length = m at *
  obtain ⟨x0, x1⟩ := X0.out
  go_enter Try.func17, Try.ntmps17
  go_wp2_with fail
  rw [← HW0.out]
  refine C1.out.mono ?_
  rintro e w1 ⟨rfl, hb⟩
  have B1 : Hid (Below w.heap.size w w1) := B0.out.trans (hb.mono B0.out.size)
  have Y1 := Y0.out.on hb (by have := Z0.out; omega)
  have F1 : ∀ j, w1.frozen? ⟨w.heap.size + 1, j, none⟩ = false := fun j => (hb.frozen (p := ⟨w.heap.size + 1, j, none⟩) (by have := Z0.out; show w.heap.size + 1 < _; omega)).trans (F0.out j)
  have f0 := F1 0
  have f1 := F1 1
  have f2 := F1 2
  have f3 := F1 3
  obtain ⟨y0, y1, y2, y3⟩ := Y1
  clear x0 x1 hb F1 HW0
  go_wp2_with fail
  refine bodyPost_ret (v := .tuple #[rv (.slice none 0 0) (.slice none 0 0) 0 (.slice none 0 0), .bool false]) (by simp [results, Try.results17, go_sem, y0, y1, y2, y3]) rfl ⟨rfl, ?_⟩
  exact (((B1.out.setCell (p := ⟨w.heap.size + 1, 0, none⟩) (Nat.le_succ _) _).setCell (p := ⟨w.heap.size + 1, 1, none⟩) (Nat.le_succ _) _).setCell (p := ⟨w.heap.size + 1, 2, none⟩) (Nat.le_succ _) _).setCell (p := ⟨w.heap.size + 1, 3, none⟩) (Nat.le_succ _) _
end Go.Proofs.Ytfhpomfdkpfooaa.Nr
