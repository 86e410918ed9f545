/- A suite copied by the law, its lists apart. -/
import Derived.Test.YtpdmfhbpedimaaaRu
namespace Go.Proofs.Ytpdmfhbpedimaaa.Sv
open Go.ChangeShapes Go.WideShapes Go.ChangeAt Go.RowKit
open Go.Proofs.Ytpdmfhbpedimaaa.Lists Go.Proofs.Ytpdmfhbpedimaaa.Tm Go.Proofs.Ytpdmfhbpedimaaa.Ru

set_option maxHeartbeats 1000000 in
theorem toO_any (R : Tk.Ls) (T : List Int) (vr vt : Value) (w : World) (hR : Tk.Reads w vr R) (hT : Lists.Reads w vt T) (lR : R.length ≤ 1048576) (lR' : ∀ i, i < R.length → (Tk.cl R i).length ≤ 1048576) (lT : T.length ≤ 1048576) :
    Calls Try.prog 32 #[Su.pv vr vt] w fun e w' => ∃ ra rc ta tc xs, e = .returned (Su.pv (.slice ra R.length rc) (.slice ta T.length tc)) ∧ SO w' w.heap.size (.slice ra R.length rc) (.slice ta T.length tc) xs R T ∧ Below w.heap.size w w' := by
  have TT : Hid (∀ w', Below w.heap.size w w' → Calls Try.prog 52 #[vt] w' fun e w'' => e = .returned (.slice (some ⟨w'.heap.size, 0, none⟩) T.length T.length) ∧ w''.ownsRow w'.heap.size 2 1 (.slice (some ⟨w'.heap.size, 0, none⟩) T.length T.length) T.length (ints T) ∧ Below w'.heap.size w' w'') := fun w' hb => Lists.to_any w' vt T (hT.on hb) lT
  have TR : Hid (∀ w', Below w.heap.size w w' → Calls Try.prog 51 #[vr] w' fun e w'' => ∃ u xs, e = .returned u ∧ Own w'' w'.heap.size u xs R ∧ Below w'.heap.size w' w'') := fun w' hb => Tm.toO_any w' vr R (hR.on hb) lR lR'
  obtain ⟨w0, hw0⟩ : ∃ w0, w0 = ((w.alloc (Obj.cells #[vr, vt] 25)).alloc (Obj.cells #[.slice none 0 0, .slice none 0 0] 32)).alloc (Obj.cells #[.slice none 0 0, .slice none 0 0] 32) := ⟨_, rfl⟩
  have HW0 : Hid (w0 = ((w.alloc (Obj.cells #[vr, vt] 25)).alloc (Obj.cells #[.slice none 0 0, .slice none 0 0] 32)).alloc (Obj.cells #[.slice none 0 0, .slice none 0 0] 32)) := hw0
  have B0 : Hid (Below w.heap.size w w0) := (by show Below _ _ _; rw [hw0]; exact (((Below.refl _ _).alloc (Nat.le_refl _) _).alloc (by simp) _).alloc (by simp; omega) _)
  have Z0 : Hid (w0.heap.size = w.heap.size + 3) := (by show _ = _; rw [hw0]; simp)
  have XA : Su.Box w0 w.heap.size vr vt := by rw [hw0]; unfold Su.Box; simp [go_sem]
  have XR : Su.Box w0 (w.heap.size + 1) (.slice none 0 0) (.slice none 0 0) := by rw [hw0]; unfold Su.Box; simp [go_sem]
  have XO : Su.Box w0 (w.heap.size + 1 + 1) (.slice none 0 0) (.slice none 0 0) := by rw [hw0]; unfold Su.Box; simp [go_sem]
  have FR : Su.Free w0 (w.heap.size + 1) := by rw [hw0]; unfold Su.Free; simp [go_sem]
  have FO : Su.Free w0 (w.heap.size + 1 + 1) := by rw [hw0]; unfold Su.Free; simp [go_sem]
  have HA : Hid (Su.Box w0 w.heap.size vr vt ∧ Su.Box w0 (w.heap.size + 1) (.slice none 0 0) (.slice none 0 0) ∧ Su.Box w0 (w.heap.size + 1 + 1) (.slice none 0 0) (.slice none 0 0) ∧ Su.Free w0 (w.heap.size + 1) ∧ Su.Free w0 (w.heap.size + 1 + 1)) := ⟨XA, XR, XO, FR, FO⟩
  obtain ⟨st, ct, et⟩ := hT.form
  obtain ⟨sr, cr, er⟩ := hR.form
  subst et er
  clear hT hR hw0 lT lR lR' XA XR XO FR FO
  generalize hlt : T.length = lt at *
  generalize hlr : R.length = lr at *
  have HLS : Hid (T.length = lt ∧ R.length = lr) := ⟨hlt, hlr⟩
  clear hlt hlr
  go_enter Try.func32, Try.ntmps32
  go_wp2_with fail
  rw [← HW0.out]
  refine (TR.out w0 B0.out).mono ?_
  rintro e w1 ⟨u1, xs1, rfl, x1, b1⟩
  have z0 := Z0.out
  have z1 := b1.size
  have B1 : Hid (Below w.heap.size w w1) := B0.out.trans (b1.mono B0.out.size)
  obtain ⟨ur, uc, er⟩ := x1.row.reads.form
  rw [HLS.out.2] at er
  subst er
  obtain ⟨A0, A1, A2, A3, A4⟩ := HA.out
  have HA1 : Su.Box w1 w.heap.size (.slice sr lr cr) (.slice st lt ct) ∧ Su.Box w1 (w.heap.size + 1) (.slice none 0 0) (.slice none 0 0) ∧ Su.Box w1 (w.heap.size + 1 + 1) (.slice none 0 0) (.slice none 0 0) ∧ Su.Free w1 (w.heap.size + 1) ∧ Su.Free w1 (w.heap.size + 1 + 1) := ⟨A0.on b1 (by omega), A1.on b1 (by omega), A2.on b1 (by omega), A3.on b1 (by omega), A4.on b1 (by omega)⟩
  obtain ⟨w1', hw1'⟩ : ∃ x, x = w1.setCell ⟨w.heap.size + 1 + 1, 0, none⟩ (.slice ur lr uc) := ⟨_, rfl⟩
  have HW1 : Hid (w1' = w1.setCell ⟨w.heap.size + 1 + 1, 0, none⟩ (.slice ur lr uc)) := hw1'
  have Z1 : Hid (w1'.heap.size = w1.heap.size) := (by show _ = _; rw [hw1']; simp)
  have B1' : Hid (Below w.heap.size w w1') := (by show Below _ _ _; rw [hw1']; exact B1.out.setCell (p := ⟨w.heap.size + 1 + 1, 0, none⟩) (by show _ ≤ w.heap.size + 1 + 1; omega) _)
  have G1 : Hid (Own w1' w0.heap.size (.slice ur lr uc) xs1 R) := (by show Own _ _ _ _ _; rw [hw1']; exact x1.kb (KB.of_set (S := fun b => b = w.heap.size + 1 + 1) w1 (w.heap.size + 1 + 1) _ _ rfl) (fun g hg e => by have := (x1.bs g hg).1; omega))
  have HB : Hid (Su.Box w1' w.heap.size (.slice sr lr cr) (.slice st lt ct) ∧ Su.Box w1' (w.heap.size + 1) (.slice none 0 0) (.slice none 0 0) ∧ Su.Box w1' (w.heap.size + 1 + 1) (.slice ur lr uc) (.slice none 0 0) ∧ Su.Free w1' (w.heap.size + 1) ∧ Su.Free w1' (w.heap.size + 1 + 1)) := (by
    show _ ∧ _
    rw [hw1']
    exact ⟨HA1.1.off (by omega), HA1.2.1.off (by omega), HA1.2.2.1.set0, HA1.2.2.2.1.off (by omega), HA1.2.2.2.2.own⟩)
  obtain ⟨⟨_, a2⟩, _, ⟨o1, _⟩, _, ⟨f1, _⟩⟩ := HA1
  have ZZ1 : Hid (w1.heap.size ≥ w0.heap.size) := z1
  clear hw1' x1 b1 z0 z1 A0 A1 A2 A3 A4
  go_wp2_with fail
  rw [← HW1.out]
  clear a2 o1 f1 HW1
  refine (TT.out w1' B1'.out).mono ?_
  rintro e w2 ⟨rfl, x2, b2⟩
  have z0 := Z0.out
  have z1 := Z1.out
  have zz1 := ZZ1.out
  have z2 := b2.size
  have B2 : Hid (Below w.heap.size w w2) := B1'.out.trans (b2.mono B1'.out.size)
  have G2 : Hid (Own w2 w0.heap.size (.slice ur lr uc) xs1 R) := G1.out.on b2
  have T2 : Hid (w2.ownsRow w1'.heap.size 2 1 (.slice (some ⟨w1'.heap.size, 0, none⟩) lt lt) lt (ints T)) := x2
  obtain ⟨A0, A1, A2, A3, A4⟩ := HB.out
  obtain ⟨p0, p1⟩ := A2.on b2 (by omega : w.heap.size + 1 + 1 < w1'.heap.size)
  obtain ⟨s0, s1⟩ := A1.on b2 (by omega : w.heap.size + 1 < w1'.heap.size)
  obtain ⟨f0, f1⟩ := A3.on b2 (by omega : w.heap.size + 1 < w1'.heap.size)
  obtain ⟨_, pf1⟩ := A4.on b2 (by omega : w.heap.size + 1 + 1 < w1'.heap.size)
  have BG : Hid (∀ g, Bs (.slice ur lr uc) xs1 R.length g → g < w1'.heap.size) := fun g hg => (G1.out.bs g hg).2
  have LE : Hid (w.heap.size + 3 ≤ w0.heap.size ∧ w.heap.size + 3 ≤ w1'.heap.size) := ⟨by omega, by omega⟩
  clear b2 x2 z0 z1 z2 zz1 A0 A1 A2 A3 A4
  go_wp2_with fail
  refine bodyPost_ret (v := .agg #[.slice ur lr uc, .slice (some ⟨w1'.heap.size, 0, none⟩) lt lt]) (by simp [results, Try.results32, go_sem, s0, s1]) rfl ⟨ur, uc, _, _, xs1, rfl, ⟨?_, ?_, ?_⟩, ?_⟩
  · refine Own.down (B := w0.heap.size) ?_ (by have := LE.out; omega)
    have l := LE.out
    have K : KB (fun b => b < w.heap.size + 3) w2 (((w2.setCell ⟨w.heap.size + 1 + 1, 1, none⟩ (.slice (some ⟨w1'.heap.size, 0, none⟩) lt lt)).setCell ⟨w.heap.size + 1, 0, none⟩ (.slice ur lr uc)).setCell ⟨w.heap.size + 1, 1, none⟩ (.slice (some ⟨w1'.heap.size, 0, none⟩) lt lt)) := ((KB.of_set (S := fun b => b < w.heap.size + 3) w2 _ _ _ (by show _ < _; omega)).trans (KB.of_set (S := fun b => b < w.heap.size + 3) _ _ _ _ (by show _ < _; omega))).trans (KB.of_set (S := fun b => b < w.heap.size + 3) _ _ _ _ (by show _ < _; omega))
    exact G2.out.kb K (fun g hg e => by have := (G2.out.bs g hg).1; omega)
  · refine Tk1.own_down (B := w1'.heap.size) ?_ (show w.heap.size ≤ w1'.heap.size by have := LE.out; omega)
    have := LE.out
    rw [HLS.out.1]
    exact Tk1.row_set (Tk1.row_set (Tk1.row_set T2.out _ _ _ (by omega)) _ _ _ (by omega)) _ _ _ (by omega)
  · intro i a hi hb hc
    have h1 := BG.out a (.inr ⟨i, hi, hb⟩)
    simp [Value.ownBlock] at hc
    omega
  · exact ((B2.out.setCell (p := ⟨w.heap.size + 1 + 1, 1, none⟩) (Nat.le_trans (Nat.le_succ _) (Nat.le_succ _)) _).setCell (p := ⟨w.heap.size + 1, 0, none⟩) (Nat.le_succ _) _).setCell (p := ⟨w.heap.size + 1, 1, none⟩) (Nat.le_succ _) _
end Go.Proofs.Ytpdmfhbpedimaaa.Sv
