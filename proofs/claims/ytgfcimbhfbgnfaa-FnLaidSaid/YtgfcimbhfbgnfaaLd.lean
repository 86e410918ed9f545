/- One sky laid over another: the model and the program. -/
import Derived.Test.YtgfcimbhfbgnfaaSk
import Derived.OneCell
import Derived.Deep.DeepCutAuto
import Derived.Deep.Cut
namespace Go.Proofs.Ytgfcimbhfbgnfaa.Sk
open Go.ChangeShapes Go.WideShapes Go.ChangeAt Go.RowKit
open Go.Proofs.Ytgfcimbhfbgnfaa.Al

def pkI (h : Bool) (a b : Int) : Int := if h then a else b
def pkS (h : Bool) (a b : ByteArray) : ByteArray := if h then a else b
abbrev E : ByteArray := ⟨#[]⟩
abbrev Sky := Int × Int × Int × ByteArray × ByteArray × Int
abbrev sv (s : Sky) : Value := sk s.1 s.2.1 s.2.2.1 s.2.2.2.1 s.2.2.2.2.1 s.2.2.2.2.2
abbrev okk (s : Sky) : Bool := ok s.1 s.2.1 s.2.2.1 s.2.2.2.1 s.2.2.2.2.1 s.2.2.2.2.2
def lay (a b : Sky) : Sky :=
  (pkI (b.1 == -1) a.1 b.1, pkI (b.1 == -1) a.2.1 b.2.1, pkI (b.2.2.1 == -1) a.2.2.1 b.2.2.1, pkS (b.2.2.2.1.toList == []) a.2.2.2.1 b.2.2.2.1, pkS (b.2.2.2.2.1.toList == []) a.2.2.2.2.1 b.2.2.2.2.1, pkI (b.2.2.2.2.1.toList == []) a.2.2.2.2.2 b.2.2.2.2.2)
def laid (a b : Sky) : Sky := if (okk a && okk b) = true then lay a b else (0, 0, 0, E, E, 0)
/-- a sky's block -/
def SB (w : World) (r : Nat) (d p v : Int) (W C : ByteArray) (b : Int) : Prop := w.heap[r]? = some (.cells #[.int .i64 d, .int .i64 p, .int .i64 v, .string W, .string C, .int .i64 b] 25 (0, 0))
theorem SB.lt {w : World} {r : Nat} {d p v : Int} {W C : ByteArray} {b : Int} (h : SB w r d p v W C b) : r < w.heap.size := lt_of_block h
theorem SB.cells {w : World} {r : Nat} {d p v : Int} {W C : ByteArray} {b : Int} (h : SB w r d p v W C b) : w.cell? ⟨r, 0, none⟩ = some (.int .i64 d) ∧ w.cell? ⟨r, 1, none⟩ = some (.int .i64 p) ∧ w.cell? ⟨r, 2, none⟩ = some (.int .i64 v) ∧ w.cell? ⟨r, 3, none⟩ = some (.string W) ∧ w.cell? ⟨r, 4, none⟩ = some (.string C) ∧ w.cell? ⟨r, 5, none⟩ = some (.int .i64 b) ∧ ∀ o, w.frozen? ⟨r, o, none⟩ = false := by
  unfold SB at h
  simp [World.cell?, World.frozen?, h]
theorem SB.on {w : World} {r : Nat} {d p v : Int} {W C : ByteArray} {b : Int} {w' : World} {B : Nat} (h : SB w r d p v W C b) (hb : Below B w w') (hr : r < B) : SB w' r d p v W C b := (hb.block r hr).trans h
theorem SB.new (w : World) (d p v : Int) (W C : ByteArray) (b : Int) : SB (w.alloc (.cells #[.int .i64 d, .int .i64 p, .int .i64 v, .string W, .string C, .int .i64 b] 25)) w.heap.size d p v W C b := heap_alloc_new w _
theorem SB.keep {w : World} {r : Nat} {d p v : Int} {W C : ByteArray} {b : Int} (h : SB w r d p v W C b) {r' : Nat} (hne : r ≠ r') (o : Nat) (x : Value) : SB (w.setCell ⟨r', o, none⟩ x) r d p v W C b := (Below.heap_setCell w ⟨r', o, none⟩ x r hne).trans h
theorem SB.s0 {w : World} {r : Nat} {d p v : Int} {W C : ByteArray} {b : Int} (h : SB w r d p v W C b) (x : Int) : SB (w.setCell ⟨r, 0, none⟩ (.int .i64 x)) r x p v W C b := by
  have hlt := h.lt
  unfold SB at h ⊢
  have h' : w.heap[r] = .cells #[.int .i64 d, .int .i64 p, .int .i64 v, .string W, .string C, .int .i64 b] 25 (0, 0) := by simpa [Array.getElem?_eq_getElem hlt] using h
  show (w.heap.modify r _)[r]? = _
  rw [Array.getElem?_eq_getElem (by simpa using hlt), Array.getElem_modify_self, h']
  rfl
theorem SB.s1 {w : World} {r : Nat} {d p v : Int} {W C : ByteArray} {b : Int} (h : SB w r d p v W C b) (x : Int) : SB (w.setCell ⟨r, 1, none⟩ (.int .i64 x)) r d x v W C b := by
  have hlt := h.lt
  unfold SB at h ⊢
  have h' : w.heap[r] = .cells #[.int .i64 d, .int .i64 p, .int .i64 v, .string W, .string C, .int .i64 b] 25 (0, 0) := by simpa [Array.getElem?_eq_getElem hlt] using h
  show (w.heap.modify r _)[r]? = _
  rw [Array.getElem?_eq_getElem (by simpa using hlt), Array.getElem_modify_self, h']
  rfl
theorem SB.s2 {w : World} {r : Nat} {d p v : Int} {W C : ByteArray} {b : Int} (h : SB w r d p v W C b) (x : Int) : SB (w.setCell ⟨r, 2, none⟩ (.int .i64 x)) r d p x W C b := by
  have hlt := h.lt
  unfold SB at h ⊢
  have h' : w.heap[r] = .cells #[.int .i64 d, .int .i64 p, .int .i64 v, .string W, .string C, .int .i64 b] 25 (0, 0) := by simpa [Array.getElem?_eq_getElem hlt] using h
  show (w.heap.modify r _)[r]? = _
  rw [Array.getElem?_eq_getElem (by simpa using hlt), Array.getElem_modify_self, h']
  rfl
theorem SB.s3 {w : World} {r : Nat} {d p v : Int} {W C : ByteArray} {b : Int} (h : SB w r d p v W C b) (x : ByteArray) : SB (w.setCell ⟨r, 3, none⟩ (.string x)) r d p v x C b := by
  have hlt := h.lt
  unfold SB at h ⊢
  have h' : w.heap[r] = .cells #[.int .i64 d, .int .i64 p, .int .i64 v, .string W, .string C, .int .i64 b] 25 (0, 0) := by simpa [Array.getElem?_eq_getElem hlt] using h
  show (w.heap.modify r _)[r]? = _
  rw [Array.getElem?_eq_getElem (by simpa using hlt), Array.getElem_modify_self, h']
  rfl
theorem SB.s4 {w : World} {r : Nat} {d p v : Int} {W C : ByteArray} {b : Int} (h : SB w r d p v W C b) (x : ByteArray) : SB (w.setCell ⟨r, 4, none⟩ (.string x)) r d p v W x b := by
  have hlt := h.lt
  unfold SB at h ⊢
  have h' : w.heap[r] = .cells #[.int .i64 d, .int .i64 p, .int .i64 v, .string W, .string C, .int .i64 b] 25 (0, 0) := by simpa [Array.getElem?_eq_getElem hlt] using h
  show (w.heap.modify r _)[r]? = _
  rw [Array.getElem?_eq_getElem (by simpa using hlt), Array.getElem_modify_self, h']
  rfl
theorem SB.s5 {w : World} {r : Nat} {d p v : Int} {W C : ByteArray} {b : Int} (h : SB w r d p v W C b) (x : Int) : SB (w.setCell ⟨r, 5, none⟩ (.int .i64 x)) r d p v W C x := by
  have hlt := h.lt
  unfold SB at h ⊢
  have h' : w.heap[r] = .cells #[.int .i64 d, .int .i64 p, .int .i64 v, .string W, .string C, .int .i64 b] 25 (0, 0) := by simpa [Array.getElem?_eq_getElem hlt] using h
  show (w.heap.modify r _)[r]? = _
  rw [Array.getElem?_eq_getElem (by simpa using hlt), Array.getElem_modify_self, h']
  rfl
/-- what both keep while one sky is laid over another: the upper one, the lower one, what is told -/
def TT (w : World) (d p v : Int) (W C : ByteArray) (b : Int) (d2 p2 v2 : Int) (W2 C2 : ByteArray) (b2 : Int) (wx : World) : Prop := SB wx w.heap.size d p v W C b ∧ SB wx (w.heap.size + 1) d2 p2 v2 W2 C2 b2 ∧ SB wx (w.heap.size + 2) 0 0 0 E E 0 ∧ Below w.heap.size w wx
theorem TT.s0 {w wx : World} {d p v : Int} {W C : ByteArray} {b : Int} {d2 p2 v2 : Int} {W2 C2 : ByteArray} {b2 : Int} (h : TT w d p v W C b d2 p2 v2 W2 C2 b2 wx) (x : Int) : TT w x p v W C b d2 p2 v2 W2 C2 b2 (wx.setCell ⟨w.heap.size, 0, none⟩ (.int .i64 x)) := ⟨h.1.s0 x, h.2.1.keep (by omega) _ _, h.2.2.1.keep (by omega) _ _, h.2.2.2.setCell (p := ⟨w.heap.size, 0, none⟩) (Nat.le_refl _) _⟩
theorem TT.s1 {w wx : World} {d p v : Int} {W C : ByteArray} {b : Int} {d2 p2 v2 : Int} {W2 C2 : ByteArray} {b2 : Int} (h : TT w d p v W C b d2 p2 v2 W2 C2 b2 wx) (x : Int) : TT w d x v W C b d2 p2 v2 W2 C2 b2 (wx.setCell ⟨w.heap.size, 1, none⟩ (.int .i64 x)) := ⟨h.1.s1 x, h.2.1.keep (by omega) _ _, h.2.2.1.keep (by omega) _ _, h.2.2.2.setCell (p := ⟨w.heap.size, 1, none⟩) (Nat.le_refl _) _⟩
theorem TT.s2 {w wx : World} {d p v : Int} {W C : ByteArray} {b : Int} {d2 p2 v2 : Int} {W2 C2 : ByteArray} {b2 : Int} (h : TT w d p v W C b d2 p2 v2 W2 C2 b2 wx) (x : Int) : TT w d p x W C b d2 p2 v2 W2 C2 b2 (wx.setCell ⟨w.heap.size, 2, none⟩ (.int .i64 x)) := ⟨h.1.s2 x, h.2.1.keep (by omega) _ _, h.2.2.1.keep (by omega) _ _, h.2.2.2.setCell (p := ⟨w.heap.size, 2, none⟩) (Nat.le_refl _) _⟩
theorem TT.s3 {w wx : World} {d p v : Int} {W C : ByteArray} {b : Int} {d2 p2 v2 : Int} {W2 C2 : ByteArray} {b2 : Int} (h : TT w d p v W C b d2 p2 v2 W2 C2 b2 wx) (x : ByteArray) : TT w d p v x C b d2 p2 v2 W2 C2 b2 (wx.setCell ⟨w.heap.size, 3, none⟩ (.string x)) := ⟨h.1.s3 x, h.2.1.keep (by omega) _ _, h.2.2.1.keep (by omega) _ _, h.2.2.2.setCell (p := ⟨w.heap.size, 3, none⟩) (Nat.le_refl _) _⟩
theorem TT.s4 {w wx : World} {d p v : Int} {W C : ByteArray} {b : Int} {d2 p2 v2 : Int} {W2 C2 : ByteArray} {b2 : Int} (h : TT w d p v W C b d2 p2 v2 W2 C2 b2 wx) (x : ByteArray) : TT w d p v W x b d2 p2 v2 W2 C2 b2 (wx.setCell ⟨w.heap.size, 4, none⟩ (.string x)) := ⟨h.1.s4 x, h.2.1.keep (by omega) _ _, h.2.2.1.keep (by omega) _ _, h.2.2.2.setCell (p := ⟨w.heap.size, 4, none⟩) (Nat.le_refl _) _⟩
theorem TT.s5 {w wx : World} {d p v : Int} {W C : ByteArray} {b : Int} {d2 p2 v2 : Int} {W2 C2 : ByteArray} {b2 : Int} (h : TT w d p v W C b d2 p2 v2 W2 C2 b2 wx) (x : Int) : TT w d p v W C x d2 p2 v2 W2 C2 b2 (wx.setCell ⟨w.heap.size, 5, none⟩ (.int .i64 x)) := ⟨h.1.s5 x, h.2.1.keep (by omega) _ _, h.2.2.1.keep (by omega) _ _, h.2.2.2.setCell (p := ⟨w.heap.size, 5, none⟩) (Nat.le_refl _) _⟩
theorem TT.d {w wx : World} {d p v : Int} {W C : ByteArray} {b : Int} {d2 p2 v2 : Int} {W2 C2 : ByteArray} {b2 : Int} (h : TT w d p v W C b d2 p2 v2 W2 C2 b2 wx) (n : Nat) : TT w d p v W C b d2 p2 v2 W2 C2 b2 (wx.drewN n) := ⟨h.1, h.2.1, h.2.2.1, below_drewN h.2.2.2 n⟩
theorem SB.all {w : World} {r : Nat} {d p v : Int} {W C : ByteArray} {b : Int} (h : SB w r d p v W C b) (d2 p2 v2 : Int) (W2 C2 : ByteArray) (b2 : Int) : SB ((((((w.setCell ⟨r, 0, none⟩ (.int .i64 d2)).setCell ⟨r, 1, none⟩ (.int .i64 p2)).setCell ⟨r, 2, none⟩ (.int .i64 v2)).setCell ⟨r, 3, none⟩ (.string W2)).setCell ⟨r, 4, none⟩ (.string C2)).setCell ⟨r, 5, none⟩ (.int .i64 b2)) r d2 p2 v2 W2 C2 b2 := (((((h.s0 d2).s1 p2).s2 v2).s3 W2).s4 C2).s5 b2
theorem below_all {w wx : World} {B r : Nat} (h : Below B w wx) (hr : B ≤ r) (x0 x1 x2 x3 x4 x5 : Value) : Below B w ((((((wx.setCell ⟨r, 0, none⟩ x0).setCell ⟨r, 1, none⟩ x1).setCell ⟨r, 2, none⟩ x2).setCell ⟨r, 3, none⟩ x3).setCell ⟨r, 4, none⟩ x4).setCell ⟨r, 5, none⟩ x5) := (((((h.setCell (p := ⟨r, 0, none⟩) hr _).setCell (p := ⟨r, 1, none⟩) hr _).setCell (p := ⟨r, 2, none⟩) hr _).setCell (p := ⟨r, 3, none⟩) hr _).setCell (p := ⟨r, 4, none⟩) hr _).setCell (p := ⟨r, 5, none⟩) hr _
theorem size26 : (Try.prog.info? 25).map (·.size) = some 6 := by kernel_rfl

set_option maxRecDepth 20000 in
set_option maxHeartbeats 4000000 in
theorem slaid_any (d p v : Int) (W C : ByteArray) (b : Int) (d2 p2 v2 : Int) (W2 C2 : ByteArray) (b2 : Int) (w : World) :
    Calls Try.prog 7 #[sk d p v W C b, sk d2 p2 v2 W2 C2 b2] w fun e w' => e = .returned (sv (laid (d, p, v, W, C, b) (d2, p2, v2, W2, C2, b2))) ∧ Below w.heap.size w w' := by
  have C1 : Hid (∀ w, Calls Try.prog 8 #[sk d p v W C b] w fun e w' => e = .returned (.bool (ok d p v W C b)) ∧ Below w.heap.size w w') := fun w => sok_any d p v W C b w
  have C2' : Hid (∀ w, Calls Try.prog 8 #[sk d2 p2 v2 W2 C2 b2] w fun e w' => e = .returned (.bool (ok d2 p2 v2 W2 C2 b2)) ∧ Below w.heap.size w w') := fun w => sok_any d2 p2 v2 W2 C2 b2 w
  obtain ⟨wb, hwb⟩ : ∃ wb, wb = ((w.alloc (.cells #[.int .i64 d, .int .i64 p, .int .i64 v, .string W, .string C, .int .i64 b] 25)).alloc (.cells #[.int .i64 d2, .int .i64 p2, .int .i64 v2, .string W2, .string C2, .int .i64 b2] 25)).alloc (.cells #[.int .i64 0, .int .i64 0, .int .i64 0, .string E, .string E, .int .i64 0] 25) := ⟨_, rfl⟩
  have HW : Hid (wb = ((w.alloc (.cells #[.int .i64 d, .int .i64 p, .int .i64 v, .string W, .string C, .int .i64 b] 25)).alloc (.cells #[.int .i64 d2, .int .i64 p2, .int .i64 v2, .string W2, .string C2, .int .i64 b2] 25)).alloc (.cells #[.int .i64 0, .int .i64 0, .int .i64 0, .string E, .string E, .int .i64 0] 25)) := hwb
  have ZW : Hid (wb.heap.size = w.heap.size + 3) := (by show _ = _; rw [hwb]; simp)
  have KT : Hid (TT w d p v W C b d2 p2 v2 W2 C2 b2 wb) := (by
    show TT _ _ _ _ _ _ _ _ _ _ _ _ _ _
    rw [hwb]
    refine ⟨((SB.new w d p v W C b).on ((Below.refl _ _).alloc (Nat.le_refl _) _) (by simp)).on ((Below.refl _ _).alloc (Nat.le_refl _) _) (by simp; omega), ?_, ?_, (((Below.refl _ _).alloc (Nat.le_refl _) _).alloc (by simp) _).alloc (by simp; omega) _⟩
    · have := (SB.new (w.alloc (.cells #[.int .i64 d, .int .i64 p, .int .i64 v, .string W, .string C, .int .i64 b] 25)) d2 p2 v2 W2 C2 b2).on ((Below.refl _ _).alloc (Nat.le_refl _) (.cells #[.int .i64 0, .int .i64 0, .int .i64 0, .string E, .string E, .int .i64 0] 25)) (by simp)
      simpa using this
    · have := SB.new ((w.alloc (.cells #[.int .i64 d, .int .i64 p, .int .i64 v, .string W, .string C, .int .i64 b] 25)).alloc (.cells #[.int .i64 d2, .int .i64 p2, .int .i64 v2, .string W2, .string C2, .int .i64 b2] 25)) 0 0 0 E E 0
      simpa using this)
  have KO : Hid (∀ w', Below wb.heap.size wb w' → TT w d p v W C b d2 p2 v2 W2 C2 b2 w') := fun w' hb => (by
    have z := ZW.out
    obtain ⟨t1, t2, t3, t4⟩ := KT.out
    exact ⟨t1.on hb (by omega), t2.on hb (by omega), t3.on hb (by omega), t4.trans (hb.mono t4.size)⟩)
  clear hwb
  obtain ⟨a0, a1, a2, a3, a4, a5, _⟩ := KT.out.1.cells
  have HOK : Hid (laid (d, p, v, W, C, b) (d2, p2, v2, W2, C2, b2) = if (ok d p v W C b && ok d2 p2 v2 W2 C2 b2) = true then lay (d, p, v, W, C, b) (d2, p2, v2, W2, C2, b2) else (0, 0, 0, E, E, 0)) := rfl
  obtain ⟨b1, hb1⟩ : ∃ b1, b1 = ok d p v W C b := ⟨_, rfl⟩
  obtain ⟨bb2, hb2⟩ : ∃ bb2, bb2 = ok d2 p2 v2 W2 C2 b2 := ⟨_, rfl⟩
  rw [← hb1] at C1 HOK
  rw [← hb2] at C2' HOK
  rw [HOK.out]
  clear hb1 hb2 HOK
  cases b1
  · simp only [Bool.false_and, Bool.false_eq_true, if_false]
    go_enter Try.func7, Try.ntmps7
    go_wp2_with fail
    rw [← HW.out]
    refine (C1.out _).mono ?_
    rintro e w1 ⟨rfl, hb⟩
    have T1 : Hid (TT w d p v W C b d2 p2 v2 W2 C2 b2 w1) := KO.out w1 hb
    obtain ⟨r0, r1, r2, r3, r4, r5, r6⟩ := T1.out.2.2.1.cells
    have f0 := r6 0
    have f1 := r6 1
    have f2 := r6 2
    have f3 := r6 3
    have f4 := r6 4
    have f5 := r6 5
    clear hb r6 a0 a1 a2 a3 a4 a5 HW C1 C2'
    go_wp2_with fail
    exact bodyPost_ret (v := sv (0, 0, 0, E, E, 0)) (results_cell_row Try.results7 _ _ (w.heap.size + 2) 25 _ (0, 0) _ rfl (T1.out.2.2.1.all 0 0 0 E E 0) Try.underlying25 rfl size26) rfl ⟨rfl, below_all T1.out.2.2.2 (Nat.le_add_right _ 2) _ _ _ _ _ _⟩
  cases bb2
  · simp only [Bool.and_false, Bool.false_eq_true, if_false]
    go_enter Try.func7, Try.ntmps7
    go_wp2_with fail
    rw [← HW.out]
    refine (C1.out _).mono ?_
    rintro e w1 ⟨rfl, hb⟩
    have Q1 : Hid (Below wb.heap.size wb w1) := hb
    obtain ⟨c0, c1, c2, c3, c4, c5, _⟩ := (KO.out w1 hb).2.1.cells
    clear hb a0 a1 a2 a3 a4 a5 HW
    go_wp2_with fail
    refine (C2'.out _).mono ?_
    rintro e w2 ⟨rfl, hb⟩
    have T1 : Hid (TT w d p v W C b d2 p2 v2 W2 C2 b2 w2) := KO.out w2 (Q1.out.trans (hb.mono Q1.out.size))
    obtain ⟨r0, r1, r2, r3, r4, r5, r6⟩ := T1.out.2.2.1.cells
    have f0 := r6 0
    have f1 := r6 1
    have f2 := r6 2
    have f3 := r6 3
    have f4 := r6 4
    have f5 := r6 5
    clear hb r6 Q1 c0 c1 c2 c3 c4 c5 C1 C2'
    go_wp2_with fail
    exact bodyPost_ret (v := sv (0, 0, 0, E, E, 0)) (results_cell_row Try.results7 _ _ (w.heap.size + 2) 25 _ (0, 0) _ rfl (T1.out.2.2.1.all 0 0 0 E E 0) Try.underlying25 rfl size26) rfl ⟨rfl, below_all T1.out.2.2.2 (Nat.le_add_right _ 2) _ _ _ _ _ _⟩
  simp only [Bool.and_self, if_true]
  unfold lay
  obtain ⟨x0, hx0⟩ : ∃ x0, x0 = pkI (d2 == -1) d d2 := ⟨_, rfl⟩
  obtain ⟨x1, hx1⟩ : ∃ x1, x1 = pkI (d2 == -1) p p2 := ⟨_, rfl⟩
  obtain ⟨x2, hx2⟩ : ∃ x2, x2 = pkI (v2 == -1) v v2 := ⟨_, rfl⟩
  obtain ⟨x3, hx3⟩ : ∃ x3, x3 = pkS (W2.toList == []) W W2 := ⟨_, rfl⟩
  obtain ⟨x4, hx4⟩ : ∃ x4, x4 = pkS (C2.toList == []) C C2 := ⟨_, rfl⟩
  obtain ⟨x5, hx5⟩ : ∃ x5, x5 = pkI (C2.toList == []) b b2 := ⟨_, rfl⟩
  simp only [← hx0, ← hx1, ← hx2, ← hx3, ← hx4, ← hx5]
  have X0 : Hid (x0 = pkI (d2 == -1) d d2 ∧ x1 = pkI (d2 == -1) p p2) := ⟨hx0, hx1⟩
  have X2 : Hid (x2 = pkI (v2 == -1) v v2) := hx2
  have X3 : Hid (x3 = pkS (W2.toList == []) W W2) := hx3
  have X4 : Hid (x4 = pkS (C2.toList == []) C C2 ∧ x5 = pkI (C2.toList == []) b b2) := ⟨hx4, hx5⟩
  clear hx0 hx1 hx2 hx3 hx4 hx5
  go_enter Try.func7, Try.ntmps7
  go_wp2_with fail
  rw [← HW.out]
  refine (C1.out _).mono ?_
  rintro e w1 ⟨rfl, hb⟩
  have Q1 : Hid (Below wb.heap.size wb w1) := hb
  obtain ⟨c0, c1, c2, c3, c4, c5, _⟩ := (KO.out w1 hb).2.1.cells
  clear hb a0 a1 a2 a3 a4 a5 HW
  go_wp2_with fail
  refine (C2'.out _).mono ?_
  rintro e w2 ⟨rfl, hb⟩
  have T2 : Hid (TT w d p v W C b d2 p2 v2 W2 C2 b2 w2) := KO.out w2 (Q1.out.trans (hb.mono Q1.out.size))
  clear hb Q1 c0 c1 c2 c3 c4 c5 C1 C2' KO KT ZW
  obtain ⟨c0, c1, c2, c3, c4, c5, _⟩ := T2.out.2.1.cells
  go_upto_if 16 with fail
  clear c0 c1 c2 c3 c4 c5
  go_cut [] (fun wx => Hid (TT w x0 x1 v W C b d2 p2 v2 W2 C2 b2 wx))
  case first =>
    cases h1 : (d2 == -1)
    · have n1 : (d2 != -1) = true := by show (!(d2 == -1)) = _; rw [h1]; rfl
      have e0 : x0 = d2 := by have := X0.out.1; rw [h1] at this; exact this
      have e1 : x1 = p2 := by have := X0.out.2; rw [h1] at this; exact this
      obtain ⟨a0, a1, a2, a3, a4, a5, a6⟩ := T2.out.1.cells
      obtain ⟨c0, c1, c2, c3, c4, c5, _⟩ := T2.out.2.1.cells
      have g0 := a6 0
      have g1 := a6 1
      clear a6
      have TN : Hid (TT w x0 x1 v W C b d2 p2 v2 W2 C2 b2 (((w2).setCell ⟨w.heap.size, 0, none⟩ (.int .i64 d2)).setCell ⟨w.heap.size, 1, none⟩ (.int .i64 p2))) := (by show TT _ _ _ _ _ _ _ _ _ _ _ _ _ _; rw [e0, e1]; exact ((T2.out).s0 d2).s1 p2)
      clear e0 e1
      go_wp2_with fail
      go_meet
      exact TN
    · have n1 : (d2 != -1) = false := by show (!(d2 == -1)) = _; rw [h1]; rfl
      have e0 : x0 = d := by have := X0.out.1; rw [h1] at this; exact this
      have e1 : x1 = p := by have := X0.out.2; rw [h1] at this; exact this
      have TN : Hid (TT w x0 x1 v W C b d2 p2 v2 W2 C2 b2 w2) := (by show TT _ _ _ _ _ _ _ _ _ _ _ _ _ _; rw [e0, e1]; exact T2.out)
      clear e0 e1
      go_wp2_with fail
      go_meet
      exact TN
  case rest =>
    obtain ⟨v3, hq⟩ : ∃ q : World, q = wc := ⟨_, rfl⟩
    subst hq
    have U0 : Hid (TT w x0 x1 v W C b d2 p2 v2 W2 C2 b2 v3) := hcut
    clear hcut T2 X0
    obtain ⟨c0, c1, c2, c3, c4, c5, _⟩ := U0.out.2.1.cells
    go_upto_if 25 with fail
    clear c0 c1 c2 c3 c4 c5
    go_cut [] (fun wx => Hid (TT w x0 x1 x2 W C b d2 p2 v2 W2 C2 b2 wx))
    case first =>
      cases h1 : (v2 == -1)
      · have n1 : (v2 != -1) = true := by show (!(v2 == -1)) = _; rw [h1]; rfl
        have e2 : x2 = v2 := by have := X2.out; rw [h1] at this; exact this
        obtain ⟨a0, a1, a2, a3, a4, a5, a6⟩ := U0.out.1.cells
        obtain ⟨c0, c1, c2, c3, c4, c5, _⟩ := U0.out.2.1.cells
        have g2 := a6 2
        clear a6
        have TN : Hid (TT w x0 x1 x2 W C b d2 p2 v2 W2 C2 b2 ((v3).setCell ⟨w.heap.size, 2, none⟩ (.int .i64 v2))) := (by show TT _ _ _ _ _ _ _ _ _ _ _ _ _ _; rw [e2]; exact (U0.out).s2 v2)
        clear e2
        go_wp2_with fail
        go_meet
        exact TN
      · have n1 : (v2 != -1) = false := by show (!(v2 == -1)) = _; rw [h1]; rfl
        have e2 : x2 = v := by have := X2.out; rw [h1] at this; exact this
        have TN : Hid (TT w x0 x1 x2 W C b d2 p2 v2 W2 C2 b2 v3) := (by show TT _ _ _ _ _ _ _ _ _ _ _ _ _ _; rw [e2]; exact U0.out)
        clear e2
        go_wp2_with fail
        go_meet
        exact TN
    case rest =>
      obtain ⟨v4, hq⟩ : ∃ q : World, q = wc := ⟨_, rfl⟩
      subst hq
      have U1 : Hid (TT w x0 x1 x2 W C b d2 p2 v2 W2 C2 b2 v4) := hcut
      clear hcut U0 X2
      obtain ⟨c0, c1, c2, c3, c4, c5, _⟩ := U1.out.2.1.cells
      go_upto_if 31 with fail
      clear c0 c1 c2 c3 c4 c5
      go_cut [] (fun wx => Hid (TT w x0 x1 x2 x3 C b d2 p2 v2 W2 C2 b2 wx))
      case first =>
        cases h1 : (W2.toList == [])
        · have n2 : W2.toList.isEmpty = false := by simpa using h1
          have n1 : (W2.toList != []) = true := by show (!(W2.toList == [])) = _; rw [h1]; rfl
          have e3 : x3 = W2 := by have := X3.out; rw [h1] at this; exact this
          obtain ⟨a0, a1, a2, a3, a4, a5, a6⟩ := U1.out.1.cells
          obtain ⟨c0, c1, c2, c3, c4, c5, _⟩ := U1.out.2.1.cells
          have g3 := a6 3
          clear a6
          have TN : Hid (TT w x0 x1 x2 x3 C b d2 p2 v2 W2 C2 b2 ((v4).setCell ⟨w.heap.size, 3, none⟩ (.string W2))) := (by show TT _ _ _ _ _ _ _ _ _ _ _ _ _ _; rw [e3]; exact (U1.out).s3 W2)
          clear e3
          rw [n2]
          go_wp2_with fail
          go_meet
          exact TN
        · have n2 : W2.toList.isEmpty = true := by simpa using h1
          have n1 : (W2.toList != []) = false := by show (!(W2.toList == [])) = _; rw [h1]; rfl
          have e3 : x3 = W := by have := X3.out; rw [h1] at this; exact this
          have TN : Hid (TT w x0 x1 x2 x3 C b d2 p2 v2 W2 C2 b2 v4) := (by show TT _ _ _ _ _ _ _ _ _ _ _ _ _ _; rw [e3]; exact U1.out)
          clear e3
          rw [n2]
          go_wp2_with fail
          go_meet
          exact TN
      case rest =>
        obtain ⟨v5, hq⟩ : ∃ q : World, q = wc := ⟨_, rfl⟩
        subst hq
        have U2 : Hid (TT w x0 x1 x2 x3 C b d2 p2 v2 W2 C2 b2 v5) := hcut
        clear hcut U1 X3
        obtain ⟨c0, c1, c2, c3, c4, c5, _⟩ := U2.out.2.1.cells
        go_upto_if 37 with fail
        clear c0 c1 c2 c3 c4 c5
        go_cut [] (fun wx => Hid (TT w x0 x1 x2 x3 x4 x5 d2 p2 v2 W2 C2 b2 wx))
        case first =>
          cases h1 : (C2.toList == [])
          · have n2 : C2.toList.isEmpty = false := by simpa using h1
            have n1 : (C2.toList != []) = true := by show (!(C2.toList == [])) = _; rw [h1]; rfl
            have e4 : x4 = C2 := by have := X4.out.1; rw [h1] at this; exact this
            have e5 : x5 = b2 := by have := X4.out.2; rw [h1] at this; exact this
            obtain ⟨a0, a1, a2, a3, a4, a5, a6⟩ := U2.out.1.cells
            obtain ⟨c0, c1, c2, c3, c4, c5, _⟩ := U2.out.2.1.cells
            have g4 := a6 4
            have g5 := a6 5
            clear a6
            have TN : Hid (TT w x0 x1 x2 x3 x4 x5 d2 p2 v2 W2 C2 b2 (((v5).setCell ⟨w.heap.size, 4, none⟩ (.string C2)).setCell ⟨w.heap.size, 5, none⟩ (.int .i64 b2))) := (by show TT _ _ _ _ _ _ _ _ _ _ _ _ _ _; rw [e4, e5]; exact ((U2.out).s4 C2).s5 b2)
            clear e4 e5
            rw [n2]
            go_wp2_with fail
            go_meet
            exact TN
          · have n2 : C2.toList.isEmpty = true := by simpa using h1
            have n1 : (C2.toList != []) = false := by show (!(C2.toList == [])) = _; rw [h1]; rfl
            have e4 : x4 = C := by have := X4.out.1; rw [h1] at this; exact this
            have e5 : x5 = b := by have := X4.out.2; rw [h1] at this; exact this
            have TN : Hid (TT w x0 x1 x2 x3 x4 x5 d2 p2 v2 W2 C2 b2 v5) := (by show TT _ _ _ _ _ _ _ _ _ _ _ _ _ _; rw [e4, e5]; exact U2.out)
            clear e4 e5
            rw [n2]
            go_wp2_with fail
            go_meet
            exact TN
        case rest =>
          obtain ⟨v6, hq⟩ : ∃ q : World, q = wc := ⟨_, rfl⟩
          subst hq
          have U3 : Hid (TT w x0 x1 x2 x3 x4 x5 d2 p2 v2 W2 C2 b2 v6) := hcut
          clear hcut U2 X4
          obtain ⟨a0, a1, a2, a3, a4, a5, _⟩ := U3.out.1.cells
          obtain ⟨r0, r1, r2, r3, r4, r5, r6⟩ := U3.out.2.2.1.cells
          have f0 := r6 0
          have f1 := r6 1
          have f2 := r6 2
          have f3 := r6 3
          have f4 := r6 4
          have f5 := r6 5
          clear r6
          go_wp2_with fail
          exact bodyPost_ret (v := sv (x0, x1, x2, x3, x4, x5)) (results_cell_row Try.results7 _ _ (w.heap.size + 2) 25 _ (0, 0) _ rfl (U3.out.2.2.1.all x0 x1 x2 x3 x4 x5) Try.underlying25 rfl size26) rfl ⟨rfl, below_all U3.out.2.2.2 (Nat.le_add_right _ 2) _ _ _ _ _ _⟩

set_option maxRecDepth 20000 in
set_option maxHeartbeats 4000000 in
theorem ilaid_any (d p v : Int) (W C : ByteArray) (b : Int) (d2 p2 v2 : Int) (W2 C2 : ByteArray) (b2 : Int) (w : World) :
    Calls Try.prog 6 #[sk d p v W C b, sk d2 p2 v2 W2 C2 b2] w fun e w' => e = .returned (sv (laid (d, p, v, W, C, b) (d2, p2, v2, W2, C2, b2))) ∧ Below w.heap.size w w' := by
  have C1 : Hid (∀ w, Calls Try.prog 9 #[sk d p v W C b] w fun e w' => e = .returned (.bool (ok d p v W C b)) ∧ Below w.heap.size w w') := fun w => iok_any d p v W C b w
  have C2' : Hid (∀ w, Calls Try.prog 9 #[sk d2 p2 v2 W2 C2 b2] w fun e w' => e = .returned (.bool (ok d2 p2 v2 W2 C2 b2)) ∧ Below w.heap.size w w') := fun w => iok_any d2 p2 v2 W2 C2 b2 w
  obtain ⟨wb, hwb⟩ : ∃ wb, wb = ((w.alloc (.cells #[.int .i64 d, .int .i64 p, .int .i64 v, .string W, .string C, .int .i64 b] 25)).alloc (.cells #[.int .i64 d2, .int .i64 p2, .int .i64 v2, .string W2, .string C2, .int .i64 b2] 25)).alloc (.cells #[.int .i64 0, .int .i64 0, .int .i64 0, .string E, .string E, .int .i64 0] 25) := ⟨_, rfl⟩
  have HW : Hid (wb = ((w.alloc (.cells #[.int .i64 d, .int .i64 p, .int .i64 v, .string W, .string C, .int .i64 b] 25)).alloc (.cells #[.int .i64 d2, .int .i64 p2, .int .i64 v2, .string W2, .string C2, .int .i64 b2] 25)).alloc (.cells #[.int .i64 0, .int .i64 0, .int .i64 0, .string E, .string E, .int .i64 0] 25)) := hwb
  have ZW : Hid (wb.heap.size = w.heap.size + 3) := (by show _ = _; rw [hwb]; simp)
  have KT : Hid (TT w d p v W C b d2 p2 v2 W2 C2 b2 wb) := (by
    show TT _ _ _ _ _ _ _ _ _ _ _ _ _ _
    rw [hwb]
    refine ⟨((SB.new w d p v W C b).on ((Below.refl _ _).alloc (Nat.le_refl _) _) (by simp)).on ((Below.refl _ _).alloc (Nat.le_refl _) _) (by simp; omega), ?_, ?_, (((Below.refl _ _).alloc (Nat.le_refl _) _).alloc (by simp) _).alloc (by simp; omega) _⟩
    · have := (SB.new (w.alloc (.cells #[.int .i64 d, .int .i64 p, .int .i64 v, .string W, .string C, .int .i64 b] 25)) d2 p2 v2 W2 C2 b2).on ((Below.refl _ _).alloc (Nat.le_refl _) (.cells #[.int .i64 0, .int .i64 0, .int .i64 0, .string E, .string E, .int .i64 0] 25)) (by simp)
      simpa using this
    · have := SB.new ((w.alloc (.cells #[.int .i64 d, .int .i64 p, .int .i64 v, .string W, .string C, .int .i64 b] 25)).alloc (.cells #[.int .i64 d2, .int .i64 p2, .int .i64 v2, .string W2, .string C2, .int .i64 b2] 25)) 0 0 0 E E 0
      simpa using this)
  have KO : Hid (∀ w', Below wb.heap.size wb w' → TT w d p v W C b d2 p2 v2 W2 C2 b2 w') := fun w' hb => (by
    have z := ZW.out
    obtain ⟨t1, t2, t3, t4⟩ := KT.out
    exact ⟨t1.on hb (by omega), t2.on hb (by omega), t3.on hb (by omega), t4.trans (hb.mono t4.size)⟩)
  clear hwb
  obtain ⟨a0, a1, a2, a3, a4, a5, _⟩ := KT.out.1.cells
  have HOK : Hid (laid (d, p, v, W, C, b) (d2, p2, v2, W2, C2, b2) = if (ok d p v W C b && ok d2 p2 v2 W2 C2 b2) = true then lay (d, p, v, W, C, b) (d2, p2, v2, W2, C2, b2) else (0, 0, 0, E, E, 0)) := rfl
  obtain ⟨b1, hb1⟩ : ∃ b1, b1 = ok d p v W C b := ⟨_, rfl⟩
  obtain ⟨bb2, hb2⟩ : ∃ bb2, bb2 = ok d2 p2 v2 W2 C2 b2 := ⟨_, rfl⟩
  rw [← hb1] at C1 HOK
  rw [← hb2] at C2' HOK
  rw [HOK.out]
  clear hb1 hb2 HOK
  cases b1
  · simp only [Bool.false_and, Bool.false_eq_true, if_false]
    go_enter Try.func6, Try.ntmps6
    go_wp2_with fail
    rw [← HW.out]
    refine (C1.out _).mono ?_
    rintro e w1 ⟨rfl, hb⟩
    have T1 : Hid (TT w d p v W C b d2 p2 v2 W2 C2 b2 w1) := KO.out w1 hb
    obtain ⟨r0, r1, r2, r3, r4, r5, r6⟩ := T1.out.2.2.1.cells
    have f0 := r6 0
    have f1 := r6 1
    have f2 := r6 2
    have f3 := r6 3
    have f4 := r6 4
    have f5 := r6 5
    clear hb r6 a0 a1 a2 a3 a4 a5 HW C1 C2'
    go_wp2_with fail
    exact bodyPost_ret (v := sv (0, 0, 0, E, E, 0)) (results_cell_row Try.results6 _ _ (w.heap.size + 2) 25 _ (0, 0) _ rfl (T1.out.2.2.1.all 0 0 0 E E 0) Try.underlying25 rfl size26) rfl ⟨rfl, below_all T1.out.2.2.2 (Nat.le_add_right _ 2) _ _ _ _ _ _⟩
  cases bb2
  · simp only [Bool.and_false, Bool.false_eq_true, if_false]
    go_enter Try.func6, Try.ntmps6
    go_wp2_with fail
    rw [← HW.out]
    refine (C1.out _).mono ?_
    rintro e w1 ⟨rfl, hb⟩
    have Q1 : Hid (Below wb.heap.size wb w1) := hb
    obtain ⟨c0, c1, c2, c3, c4, c5, _⟩ := (KO.out w1 hb).2.1.cells
    clear hb a0 a1 a2 a3 a4 a5 HW
    go_wp2_with fail
    refine (C2'.out _).mono ?_
    rintro e w2 ⟨rfl, hb⟩
    have T1 : Hid (TT w d p v W C b d2 p2 v2 W2 C2 b2 w2) := KO.out w2 (Q1.out.trans (hb.mono Q1.out.size))
    obtain ⟨r0, r1, r2, r3, r4, r5, r6⟩ := T1.out.2.2.1.cells
    have f0 := r6 0
    have f1 := r6 1
    have f2 := r6 2
    have f3 := r6 3
    have f4 := r6 4
    have f5 := r6 5
    clear hb r6 Q1 c0 c1 c2 c3 c4 c5 C1 C2'
    go_wp2_with fail
    exact bodyPost_ret (v := sv (0, 0, 0, E, E, 0)) (results_cell_row Try.results6 _ _ (w.heap.size + 2) 25 _ (0, 0) _ rfl (T1.out.2.2.1.all 0 0 0 E E 0) Try.underlying25 rfl size26) rfl ⟨rfl, below_all T1.out.2.2.2 (Nat.le_add_right _ 2) _ _ _ _ _ _⟩
  simp only [Bool.and_self, if_true]
  unfold lay
  obtain ⟨x0, hx0⟩ : ∃ x0, x0 = pkI (d2 == -1) d d2 := ⟨_, rfl⟩
  obtain ⟨x1, hx1⟩ : ∃ x1, x1 = pkI (d2 == -1) p p2 := ⟨_, rfl⟩
  obtain ⟨x2, hx2⟩ : ∃ x2, x2 = pkI (v2 == -1) v v2 := ⟨_, rfl⟩
  obtain ⟨x3, hx3⟩ : ∃ x3, x3 = pkS (W2.toList == []) W W2 := ⟨_, rfl⟩
  obtain ⟨x4, hx4⟩ : ∃ x4, x4 = pkS (C2.toList == []) C C2 := ⟨_, rfl⟩
  obtain ⟨x5, hx5⟩ : ∃ x5, x5 = pkI (C2.toList == []) b b2 := ⟨_, rfl⟩
  simp only [← hx0, ← hx1, ← hx2, ← hx3, ← hx4, ← hx5]
  have X0 : Hid (x0 = pkI (d2 == -1) d d2 ∧ x1 = pkI (d2 == -1) p p2) := ⟨hx0, hx1⟩
  have X2 : Hid (x2 = pkI (v2 == -1) v v2) := hx2
  have X3 : Hid (x3 = pkS (W2.toList == []) W W2) := hx3
  have X4 : Hid (x4 = pkS (C2.toList == []) C C2 ∧ x5 = pkI (C2.toList == []) b b2) := ⟨hx4, hx5⟩
  clear hx0 hx1 hx2 hx3 hx4 hx5
  go_enter Try.func6, Try.ntmps6
  go_wp2_with fail
  rw [← HW.out]
  refine (C1.out _).mono ?_
  rintro e w1 ⟨rfl, hb⟩
  have Q1 : Hid (Below wb.heap.size wb w1) := hb
  obtain ⟨c0, c1, c2, c3, c4, c5, _⟩ := (KO.out w1 hb).2.1.cells
  clear hb a0 a1 a2 a3 a4 a5 HW
  go_wp2_with fail
  refine (C2'.out _).mono ?_
  rintro e w2 ⟨rfl, hb⟩
  have T2 : Hid (TT w d p v W C b d2 p2 v2 W2 C2 b2 w2) := KO.out w2 (Q1.out.trans (hb.mono Q1.out.size))
  clear hb Q1 c0 c1 c2 c3 c4 c5 C1 C2' KO KT ZW
  obtain ⟨c0, c1, c2, c3, c4, c5, _⟩ := T2.out.2.1.cells
  go_upto_if 16 with fail
  clear c0 c1 c2 c3 c4 c5
  go_cut [] (fun wx => Hid (TT w x0 x1 v W C b d2 p2 v2 W2 C2 b2 wx))
  case first =>
    cases h1 : (d2 == -1)
    · have n1 : (d2 != -1) = true := by show (!(d2 == -1)) = _; rw [h1]; rfl
      have e0 : x0 = d2 := by have := X0.out.1; rw [h1] at this; exact this
      have e1 : x1 = p2 := by have := X0.out.2; rw [h1] at this; exact this
      obtain ⟨a0, a1, a2, a3, a4, a5, a6⟩ := T2.out.1.cells
      obtain ⟨c0, c1, c2, c3, c4, c5, _⟩ := T2.out.2.1.cells
      have g0 := a6 0
      have g1 := a6 1
      clear a6
      have TN : Hid (TT w x0 x1 v W C b d2 p2 v2 W2 C2 b2 (((w2).setCell ⟨w.heap.size, 0, none⟩ (.int .i64 d2)).setCell ⟨w.heap.size, 1, none⟩ (.int .i64 p2))) := (by show TT _ _ _ _ _ _ _ _ _ _ _ _ _ _; rw [e0, e1]; exact ((T2.out).s0 d2).s1 p2)
      clear e0 e1
      go_wp2_with fail
      go_region
      go_wp2_with fail
      go_meet
      exact TN.out.d 1
    · have n1 : (d2 != -1) = false := by show (!(d2 == -1)) = _; rw [h1]; rfl
      have e0 : x0 = d := by have := X0.out.1; rw [h1] at this; exact this
      have e1 : x1 = p := by have := X0.out.2; rw [h1] at this; exact this
      have TN : Hid (TT w x0 x1 v W C b d2 p2 v2 W2 C2 b2 w2) := (by show TT _ _ _ _ _ _ _ _ _ _ _ _ _ _; rw [e0, e1]; exact T2.out)
      clear e0 e1
      go_wp2_with fail
      go_meet
      exact TN
  case rest =>
    obtain ⟨v3, hq⟩ : ∃ q : World, q = wc := ⟨_, rfl⟩
    subst hq
    have U0 : Hid (TT w x0 x1 v W C b d2 p2 v2 W2 C2 b2 v3) := hcut
    clear hcut T2 X0
    obtain ⟨c0, c1, c2, c3, c4, c5, _⟩ := U0.out.2.1.cells
    go_upto_if 25 with fail
    clear c0 c1 c2 c3 c4 c5
    go_cut [] (fun wx => Hid (TT w x0 x1 x2 W C b d2 p2 v2 W2 C2 b2 wx))
    case first =>
      cases h1 : (v2 == -1)
      · have n1 : (v2 != -1) = true := by show (!(v2 == -1)) = _; rw [h1]; rfl
        have e2 : x2 = v2 := by have := X2.out; rw [h1] at this; exact this
        obtain ⟨a0, a1, a2, a3, a4, a5, a6⟩ := U0.out.1.cells
        obtain ⟨c0, c1, c2, c3, c4, c5, _⟩ := U0.out.2.1.cells
        have g2 := a6 2
        clear a6
        have TN : Hid (TT w x0 x1 x2 W C b d2 p2 v2 W2 C2 b2 ((v3).setCell ⟨w.heap.size, 2, none⟩ (.int .i64 v2))) := (by show TT _ _ _ _ _ _ _ _ _ _ _ _ _ _; rw [e2]; exact (U0.out).s2 v2)
        clear e2
        go_wp2_with fail
        go_meet
        exact TN
      · have n1 : (v2 != -1) = false := by show (!(v2 == -1)) = _; rw [h1]; rfl
        have e2 : x2 = v := by have := X2.out; rw [h1] at this; exact this
        have TN : Hid (TT w x0 x1 x2 W C b d2 p2 v2 W2 C2 b2 v3) := (by show TT _ _ _ _ _ _ _ _ _ _ _ _ _ _; rw [e2]; exact U0.out)
        clear e2
        go_wp2_with fail
        go_meet
        exact TN
    case rest =>
      obtain ⟨v4, hq⟩ : ∃ q : World, q = wc := ⟨_, rfl⟩
      subst hq
      have U1 : Hid (TT w x0 x1 x2 W C b d2 p2 v2 W2 C2 b2 v4) := hcut
      clear hcut U0 X2
      obtain ⟨c0, c1, c2, c3, c4, c5, _⟩ := U1.out.2.1.cells
      go_upto_if 31 with fail
      clear c0 c1 c2 c3 c4 c5
      go_cut [] (fun wx => Hid (TT w x0 x1 x2 x3 C b d2 p2 v2 W2 C2 b2 wx))
      case first =>
        cases h1 : (W2.toList == [])
        · have n2 : W2.toList.isEmpty = false := by simpa using h1
          have n1 : (W2.toList != []) = true := by show (!(W2.toList == [])) = _; rw [h1]; rfl
          have e3 : x3 = W2 := by have := X3.out; rw [h1] at this; exact this
          obtain ⟨a0, a1, a2, a3, a4, a5, a6⟩ := U1.out.1.cells
          obtain ⟨c0, c1, c2, c3, c4, c5, _⟩ := U1.out.2.1.cells
          have g3 := a6 3
          clear a6
          have TN : Hid (TT w x0 x1 x2 x3 C b d2 p2 v2 W2 C2 b2 ((v4).setCell ⟨w.heap.size, 3, none⟩ (.string W2))) := (by show TT _ _ _ _ _ _ _ _ _ _ _ _ _ _; rw [e3]; exact (U1.out).s3 W2)
          clear e3
          rw [n2]
          go_wp2_with fail
          go_meet
          exact TN
        · have n2 : W2.toList.isEmpty = true := by simpa using h1
          have n1 : (W2.toList != []) = false := by show (!(W2.toList == [])) = _; rw [h1]; rfl
          have e3 : x3 = W := by have := X3.out; rw [h1] at this; exact this
          have TN : Hid (TT w x0 x1 x2 x3 C b d2 p2 v2 W2 C2 b2 v4) := (by show TT _ _ _ _ _ _ _ _ _ _ _ _ _ _; rw [e3]; exact U1.out)
          clear e3
          rw [n2]
          go_wp2_with fail
          go_meet
          exact TN
      case rest =>
        obtain ⟨v5, hq⟩ : ∃ q : World, q = wc := ⟨_, rfl⟩
        subst hq
        have U2 : Hid (TT w x0 x1 x2 x3 C b d2 p2 v2 W2 C2 b2 v5) := hcut
        clear hcut U1 X3
        obtain ⟨c0, c1, c2, c3, c4, c5, _⟩ := U2.out.2.1.cells
        go_upto_if 37 with fail
        clear c0 c1 c2 c3 c4 c5
        go_cut [] (fun wx => Hid (TT w x0 x1 x2 x3 x4 x5 d2 p2 v2 W2 C2 b2 wx))
        case first =>
          cases h1 : (C2.toList == [])
          · have n2 : C2.toList.isEmpty = false := by simpa using h1
            have n1 : (C2.toList != []) = true := by show (!(C2.toList == [])) = _; rw [h1]; rfl
            have e4 : x4 = C2 := by have := X4.out.1; rw [h1] at this; exact this
            have e5 : x5 = b2 := by have := X4.out.2; rw [h1] at this; exact this
            obtain ⟨a0, a1, a2, a3, a4, a5, a6⟩ := U2.out.1.cells
            obtain ⟨c0, c1, c2, c3, c4, c5, _⟩ := U2.out.2.1.cells
            have g4 := a6 4
            have g5 := a6 5
            clear a6
            have TN : Hid (TT w x0 x1 x2 x3 x4 x5 d2 p2 v2 W2 C2 b2 (((v5).setCell ⟨w.heap.size, 4, none⟩ (.string C2)).setCell ⟨w.heap.size, 5, none⟩ (.int .i64 b2))) := (by show TT _ _ _ _ _ _ _ _ _ _ _ _ _ _; rw [e4, e5]; exact ((U2.out).s4 C2).s5 b2)
            clear e4 e5
            rw [n2]
            go_wp2_with fail
            go_region
            go_wp2_with fail
            go_meet
            exact TN.out.d 1
          · have n2 : C2.toList.isEmpty = true := by simpa using h1
            have n1 : (C2.toList != []) = false := by show (!(C2.toList == [])) = _; rw [h1]; rfl
            have e4 : x4 = C := by have := X4.out.1; rw [h1] at this; exact this
            have e5 : x5 = b := by have := X4.out.2; rw [h1] at this; exact this
            have TN : Hid (TT w x0 x1 x2 x3 x4 x5 d2 p2 v2 W2 C2 b2 v5) := (by show TT _ _ _ _ _ _ _ _ _ _ _ _ _ _; rw [e4, e5]; exact U2.out)
            clear e4 e5
            rw [n2]
            go_wp2_with fail
            go_meet
            exact TN
        case rest =>
          obtain ⟨v6, hq⟩ : ∃ q : World, q = wc := ⟨_, rfl⟩
          subst hq
          have U3 : Hid (TT w x0 x1 x2 x3 x4 x5 d2 p2 v2 W2 C2 b2 v6) := hcut
          clear hcut U2 X4
          obtain ⟨a0, a1, a2, a3, a4, a5, _⟩ := U3.out.1.cells
          obtain ⟨r0, r1, r2, r3, r4, r5, r6⟩ := U3.out.2.2.1.cells
          have f0 := r6 0
          have f1 := r6 1
          have f2 := r6 2
          have f3 := r6 3
          have f4 := r6 4
          have f5 := r6 5
          clear r6
          go_wp2_with fail
          exact bodyPost_ret (v := sv (x0, x1, x2, x3, x4, x5)) (results_cell_row Try.results6 _ _ (w.heap.size + 2) 25 _ (0, 0) _ rfl (U3.out.2.2.1.all x0 x1 x2 x3 x4 x5) Try.underlying25 rfl size26) rfl ⟨rfl, below_all U3.out.2.2.2 (Nat.le_add_right _ 2) _ _ _ _ _ _⟩
end Go.Proofs.Ytgfcimbhfbgnfaa.Sk
