/- The law FnExactSuiteOk walked. -/
import Derived.Test.YtbdpflijcmbjkaaSp
import Derived.Deep.RegionHeld3
namespace Go.Proofs.Ytbdpflijcmbjkaa.SoL
open Go.ChangeShapes Go.WideShapes Go.ChangeAt Go.RowKit
open Go.Proofs.Ytbdpflijcmbjkaa.Lists
def PR (w : World) (R : Tk.Ls) (X : List Int) (r x : Value) : Prop := Tk.Reads w r R ∧ Lists.Reads w x X
theorem PR.on {w w' : World} {R : Tk.Ls} {X : List Int} {r x : Value} (h : PR w R X r x) (hb : Below w.heap.size w w') : PR w' R X r x := ⟨h.1.on hb, h.2.on hb⟩
theorem below_drewN {B : Nat} {a w : World} (h : Below B a w) (n : Nat) : Below B a (w.drewN n) := h.trans ⟨rfl, rfl, rfl, Nat.le_refl _, fun _ _ => rfl⟩
set_option maxRecDepth 20000 in
set_option maxHeartbeats 2000000 in
theorem suiteLaw (w : World) (vr vx : Value) (R : Tk.Ls) (X : List Int) (hR : Tk.Reads w vr R) (hX : Lists.Reads w vx X) :
    Calls Try.prog 3 #[Su.pv vr vx] w fun e w' => e = .returned (.bool true) ∧ Below w.heap.size w w' := by
  have fX := Tk.lfits hX
  obtain ⟨sr, cr, er⟩ := hR.form
  obtain ⟨sx, cx, ex⟩ := hX.form
  subst er ex
  obtain ⟨w0, hw0⟩ : ∃ w0, w0 = w.alloc (Obj.cells #[.slice sr R.length cr, .slice sx X.length cx] 25) := ⟨_, rfl⟩
  have HW0 : Hid (w0 = w.alloc (Obj.cells #[.slice sr R.length cr, .slice sx X.length cx] 25)) := hw0
  have B0 : Hid (Below w.heap.size w w0) := (by show Below _ _ _; rw [hw0]; exact (Below.refl _ _).alloc (Nat.le_refl _) _)
  have Z0 : Hid (w0.heap.size = w.heap.size + 1) := (by show _ = _; rw [hw0]; simp)
  have K0 : Hid (Su.Box w0 w.heap.size (.slice sr R.length cr) (.slice sx X.length cx)) := (by show Su.Box _ _ _ _; rw [hw0]; unfold Su.Box; simp [go_sem])
  have SZ : Hid (∀ w', Below w.heap.size w w' → Calls Try.prog 5 #[Su.pv (.slice sr R.length cr) (.slice sx X.length cx), .int .i64 1048576] w' fun e w'' => (∃ r : Int, e = .returned (.int .i64 r) ∧ (0 ≤ r → R.length ≤ 1048576 ∧ (∀ i, i < R.length → (Tk.cl R i).length ≤ 1048576) ∧ X.length ≤ 1048576) ∧ r ≤ 1048576) ∧ Below w'.heap.size w' w'') := fun w' hb => Su.sz_any sx X.length cx _ R 1048576 w' (by omega) (by omega) fX (hR.on hb)
  have TO : Hid ((R.length ≤ 1048576 ∧ (∀ i, i < R.length → (Tk.cl R i).length ≤ 1048576) ∧ X.length ≤ 1048576) → ∀ w', Below w.heap.size w w' → Calls Try.prog 7 #[Su.pv (.slice sr R.length cr) (.slice sx X.length cx)] w' fun e w'' => ∃ r x, e = .returned (Su.pv r x) ∧ PR w'' R X r x ∧ Below w'.heap.size w' w'') := fun hl w' hb => (Su.to_any R X _ _ w' (hR.on hb) (hX.on hb) hl.1 hl.2.1 hl.2.2).mono (by rintro e w'' ⟨r, x, rfl, h1, h2, h3⟩; exact ⟨r, x, rfl, ⟨h1.reads, Lists.reads_row h2⟩, h3⟩)
  have EQ : Hid (∀ w' r x r2 x2, PR w' R X r x → PR w' R X r2 x2 → Calls Try.prog 9 #[Su.pv r x, Su.pv r2 x2] w' fun e w'' => e = .returned (.bool true) ∧ Below w'.heap.size w' w'') := fun w' r x r2 x2 h h' => Su.eq_any R X r r2 x x2 w' h.1 h'.1 h.2 h'.2
  obtain ⟨bo, hbo⟩ : ∃ bo, So.okS R X = bo := ⟨_, rfl⟩
  have SU : Hid (∀ (w : World) (r x : Value), PR w R X r x → Calls Try.prog 6 #[Su.pv r x] w fun e w' => e = .returned (.bool bo) ∧ Below w.heap.size w w') := fun w r x h => by rw [← hbo]; exact So.ssuite R X r x w h.1 h.2
  have IU : Hid (∀ (w : World) (r x : Value), PR w R X r x → Calls Try.prog 8 #[Su.pv r x] w fun e w' => e = .returned (.bool bo) ∧ Below w.heap.size w w') := fun w r x h => by rw [← hbo]; exact So.isuite R X r x w h.1 h.2
  have hii : (bo != bo) = false := by cases bo <;> rfl
  clear hbo hR hX hw0 fX
  generalize R.length = lr at *
  generalize X.length = lx at *
  obtain ⟨k0, k1⟩ := K0.out
  go_enter Try.func3, Try.ntmps3
  go_wp2_with fail
  rw [← HW0.out]
  refine (SZ.out w0 B0.out).mono ?_
  rintro e w1 ⟨⟨z, rfl, y, l⟩, b⟩
  clear k0 k1
  have B1 : Hid (Below w.heap.size w w1) := B0.out.trans (b.mono B0.out.size)
  have S1 : Hid (w0.heap.size ≤ w1.heap.size) := b.size
  have K1 : Hid (Su.Box w1 w.heap.size (.slice sr lr cr) (.slice sx lx cx)) := K0.out.on b (by have := Z0.out; omega)
  clear b HW0
  by_cases hneg : z < 0
  · go_wp2_with fail
    go_ret
    exact ⟨rfl, B1.out⟩
  have HL := y (by omega)
  have TP : Hid (∀ w', Below w.heap.size w w' → Calls Try.prog 7 #[Su.pv (.slice sr lr cr) (.slice sx lx cx)] w' fun e w'' => ∃ r x, e = .returned (Su.pv r x) ∧ PR w'' R X r x ∧ Below w'.heap.size w' w'') := TO.out HL
  clear TO y HL
  obtain ⟨k0, k1⟩ := K1.out
  go_wp2_with fail
  refine (TP.out w1 B1.out).mono ?_
  rintro e w2 ⟨r2, x2, rfl, p2, b⟩
  clear k0 k1
  have B2 : Hid (Below w.heap.size w w2) := B1.out.trans (b.mono B1.out.size)
  have S2 : Hid (w1.heap.size ≤ w2.heap.size) := b.size
  have K2 : Hid (Su.Box w2 w.heap.size (.slice sr lr cr) (.slice sx lx cx)) := K1.out.on b (by have := Z0.out; have := S1.out; omega)
  have P2 : Hid (PR w2 R X r2 x2) := p2
  clear b p2
  go_wp2_with fail
  refine (SU.out w2 r2 x2 P2.out).mono ?_
  rintro e w4 ⟨rfl, b⟩
  have B4 : Hid (Below w.heap.size w w4) := B2.out.trans (b.mono B2.out.size)
  have S4 : Hid (w2.heap.size ≤ w4.heap.size) := b.size
  have K4 : Hid (Su.Box w4 w.heap.size (.slice sr lr cr) (.slice sx lx cx)) := K2.out.on b (by have := Z0.out; have := S1.out; have := S2.out; omega)
  clear b P2
  obtain ⟨k0, k1⟩ := K4.out
  go_wp2_with fail
  refine (TP.out w4 B4.out).mono ?_
  rintro e w5 ⟨r5, x5, rfl, p5, b⟩
  clear k0 k1
  have B5 : Hid (Below w.heap.size w w5) := B4.out.trans (b.mono B4.out.size)
  have S5 : Hid (w4.heap.size ≤ w5.heap.size) := b.size
  have K5 : Hid (Su.Box w5 w.heap.size (.slice sr lr cr) (.slice sx lx cx)) := K4.out.on b (by have := Z0.out; have := S1.out; have := S2.out; have := S4.out; omega)
  have P5 : Hid (PR w5 R X r5 x5) := p5
  obtain ⟨w6, hw6⟩ : ∃ x, x = w5.alloc (Obj.cells #[r5, x5] 30) := ⟨_, rfl⟩
  have HW6 : Hid (w6 = w5.alloc (Obj.cells #[r5, x5] 30)) := hw6
  have b6 : Below w5.heap.size w5 w6 := (by rw [hw6]; exact (Below.refl _ _).alloc (Nat.le_refl _) _)
  have B6 : Hid (Below w.heap.size w w6) := B5.out.trans (b6.mono B5.out.size)
  have S6 : Hid (w6.heap.size = w5.heap.size + 1) := (by show _ = _; rw [hw6]; simp)
  have K6 : Hid (Su.Box w6 w.heap.size (.slice sr lr cr) (.slice sx lx cx)) := K5.out.on b6 (by have := Z0.out; have := S1.out; have := S2.out; have := S4.out; have := S5.out; omega)
  have J6 : Hid (Su.Box w6 w5.heap.size r5 x5) := (by show Su.Box _ _ _ _; rw [hw6]; unfold Su.Box; simp [go_sem])
  have P6 : Hid (PR w6 R X r5 x5) := P5.out.on b6
  obtain ⟨ar, dr, er⟩ := P5.out.1.form
  obtain ⟨ax, dx, ex⟩ := P5.out.2.form
  subst er ex
  generalize R.length = nr at *
  generalize X.length = nx at *
  clear hw6 b6 b p5
  obtain ⟨j0, j1⟩ := J6.out
  go_wp2_with fail
  rw [← HW6.out]
  clear HW6
  refine (IU.out w6 _ _ P6.out).mono ?_
  rintro e w8 ⟨rfl, b⟩
  clear j0 j1
  have B8 : Hid (Below w.heap.size w w8) := B6.out.trans (b.mono B6.out.size)
  have S8 : Hid (w6.heap.size ≤ w8.heap.size) := b.size
  have K8 : Hid (Su.Box w8 w.heap.size (.slice sr lr cr) (.slice sx lx cx)) := K6.out.on b (by have := Z0.out; have := S1.out; have := S2.out; have := S4.out; have := S5.out; have := S6.out; omega)
  have J8 : Hid (Su.Box w8 w5.heap.size (.slice ar nr dr) (.slice ax nx dx)) := J6.out.on b (by have := S6.out; omega)
  have P8 : Hid (PR w8 R X (.slice ar nr dr) (.slice ax nx dx)) := P6.out.on b
  clear b
  have BD : Hid (Below w.heap.size w w8.drew) := below_drewN B8.out 1
  have PD : Hid (PR w8.drew R X (.slice ar nr dr) (.slice ax nx dx)) := P8.out
  have LW : Hid (w.heap.size < w8.drew.heap.size ∧ w5.heap.size < w8.drew.heap.size) := (by show _ ∧ _; constructor <;> (show _ < w8.heap.size; have := Z0.out; have := S1.out; have := S2.out; have := S4.out; have := S5.out; have := S6.out; have := S8.out; omega))
  obtain ⟨k0, k1⟩ := K8.out
  obtain ⟨j0, j1⟩ := J8.out
  go_wp2_with fail
  go_region_held3 (fun w' => w'.cell? ⟨w.heap.size, 0, none⟩ = some (.slice sr lr cr) ∧ w'.cell? ⟨w.heap.size, 1, none⟩ = some (.slice sx lx cx) ∧ w'.cell? ⟨w5.heap.size, 0, none⟩ = some (.slice ar nr dr) ∧ w'.cell? ⟨w5.heap.size, 1, none⟩ = some (.slice ax nx dx)) (go_keep)
    (first
    | (go_at_call 7; refine (TP.out _ BD.out).mono ?_; rintro e w9 ⟨r9, x9, rfl, p9, b⟩; have B9 : Hid (Below w.heap.size w w9) := BD.out.trans (b.mono BD.out.size); have P9 : Hid (PR w9 R X r9 x9) := p9; have Q9 : Hid (PR w9 R X (.slice ar nr dr) (.slice ax nx dx)) := PD.out.on b; have L9 : Hid (w.heap.size < w9.heap.size ∧ w5.heap.size < w9.heap.size) := ⟨Nat.lt_of_lt_of_le LW.out.1 b.size, Nat.lt_of_lt_of_le LW.out.2 b.size⟩; have K9 : Hid (Su.Box w9 w.heap.size (.slice sr lr cr) (.slice sx lx cx)) := Su.Box.on (w := w8.drew) ⟨k0, k1⟩ b LW.out.1; have J9 : Hid (Su.Box w9 w5.heap.size (.slice ar nr dr) (.slice ax nx dx)) := Su.Box.on (w := w8.drew) ⟨j0, j1⟩ b LW.out.2; clear b p9; obtain ⟨a0, a1⟩ := K9.out; obtain ⟨b0, b1⟩ := J9.out)
    | (go_at_call 9; refine (EQ.out _ _ _ _ _ Q9.out P9.out).mono ?_; rintro e w10 ⟨rfl, b⟩; have B10 : Hid (Below w.heap.size w w10) := B9.out.trans (b.mono B9.out.size); have K10 : Hid (Su.Box w10 w.heap.size (.slice sr lr cr) (.slice sx lx cx)) := K9.out.on b L9.out.1; have J10 : Hid (Su.Box w10 w5.heap.size (.slice ar nr dr) (.slice ax nx dx)) := J9.out.on b L9.out.2; clear b; obtain ⟨c0, c1⟩ := K10.out; obtain ⟨d0, d1⟩ := J10.out))
  go_wp2_with fail
  go_ret
  exact ⟨rfl, B10.out⟩
end Go.Proofs.Ytbdpflijcmbjkaa.SoL
