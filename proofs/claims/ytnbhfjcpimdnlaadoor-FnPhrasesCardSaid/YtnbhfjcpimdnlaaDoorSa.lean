/- A saying drawn. -/
import Derived.Test.YtnbhfjcpimdnlaaDoorRw
import Derived.Test.YtnbhfjcpimdnlaaDoorRdJ
import Derived.Test.YtnbhfjcpimdnlaaDoorRdF
namespace Go.Proofs.YtnbhfjcpimdnlaaDoor.Ph
open Go.ChangeShapes Go.WideShapes Go.ChangeAt Go.RowKit
open Go.Proofs.YtnbhfjcpimdnlaaDoor.Rd (Turn Rd Drawn below_any once_any)
theorem rd_alloc {r : Nat} {w : World} (h : Rd r w) (o : Obj) : Rd r (w.alloc o) := h.kept ((Below.refl w.heap.size w).alloc (Nat.le_refl _) o) h.lt
theorem rd_set {r : Nat} {w : World} {g : Nat} (hg : r < g) (h : Rd r w) (o : Nat) (x : Value) : Rd r (w.setCell ⟨g, o, none⟩ x) := h.kept ((Below.refl g w).setCell (p := ⟨g, o, none⟩) (Nat.le_refl _) x) hg
theorem sok_mk {d f l k p : Int} (hd : 0 ≤ d ∧ d ≤ 8) (hf : 0 ≤ f ∧ f ≤ 12) (hl : 0 ≤ l ∧ l ≤ 12) (hk : 0 ≤ k ∧ k ≤ 3) (hp : 0 ≤ p ∧ p ≤ 100) (h1 : f = 0 ↔ d = 0) (h2 : p = 0 ↔ k = 0) : sok d f l k p = true := by
  unfold sok inn
  have e1 : ((f == 0) == (d == 0)) = true := by
    have e : (f == 0) = (d == 0) := by rw [Bool.eq_iff_iff]; simpa using h1
    rw [e]; simp
  have e2 : ((p == 0) == (k == 0)) = true := by
    have e : (p == 0) = (k == 0) := by rw [Bool.eq_iff_iff]; simpa using h2
    rw [e]; simp
  rw [e1, e2]
  simp only [Bool.and_eq_true, decide_eq_true_eq]
  exact ⟨hd, hf, hl, trivial, hk, hp, trivial⟩
set_option maxHeartbeats 4000000 in
set_option maxRecDepth 20000 in
theorem say_any (r : Nat) (w : World) (h : Rd r w) : Calls Tryd.prog 24 #[.pointer (some ⟨r, 0, none⟩)] w fun e w' => (∃ d f l k p, e = .returned (.agg #[.int .i64 d, .int .i64 f, .int .i64 l, .int .i64 k, .int .i64 p]) ∧ sok d f l k p = true) ∧ Rd r w' ∧ Turn r w w' := by
  have hr := h.lt
  obtain ⟨w0, hw0⟩ : ∃ w0, w0 = w.alloc (.cells #[.int .i64 0, .int .i64 0, .int .i64 0, .int .i64 0, .int .i64 0] 23) := ⟨_, rfl⟩
  have HW : Hid (w0 = w.alloc (.cells #[.int .i64 0, .int .i64 0, .int .i64 0, .int .i64 0, .int .i64 0] 23)) := hw0
  have T0 : Hid (Turn r w w0) := (by show Turn _ _ _; rw [hw0]; exact (Turn.refl _ _).alloc hr _)
  have R0 : Hid (Rd r w0) := (by show Rd _ _; rw [hw0]; exact rd_alloc h _)
  have A0 : Hid (SY w0 w.heap.size 0 0 0 0 0) := (by show SY _ _ _ _ _ _ _; rw [hw0]; exact heap_alloc_new w _)
  obtain ⟨A, hA⟩ : ∃ A, A = w.heap.size := ⟨_, rfl⟩
  have HA : Hid (A = w.heap.size) := hA
  rw [← hA] at A0
  have rA : r < A := by omega
  have B9 : Hid (∀ W, Rd r W → Calls Tryd.prog 25 #[.pointer (some ⟨r, 0, none⟩), .int .i64 9] W (Drawn r W fun u => 0 ≤ u ∧ u < 9)) := fun W h => below_any r W h 9 (by omega) (by omega)
  have B12 : Hid (∀ W, Rd r W → Calls Tryd.prog 25 #[.pointer (some ⟨r, 0, none⟩), .int .i64 12] W (Drawn r W fun u => 0 ≤ u ∧ u < 12)) := fun W h => below_any r W h 12 (by omega) (by omega)
  have B13 : Hid (∀ W, Rd r W → Calls Tryd.prog 25 #[.pointer (some ⟨r, 0, none⟩), .int .i64 13] W (Drawn r W fun u => 0 ≤ u ∧ u < 13)) := fun W h => below_any r W h 13 (by omega) (by omega)
  have B4 : Hid (∀ W, Rd r W → Calls Tryd.prog 25 #[.pointer (some ⟨r, 0, none⟩), .int .i64 4] W (Drawn r W fun u => 0 ≤ u ∧ u < 4)) := fun W h => below_any r W h 4 (by omega) (by omega)
  have B100 : Hid (∀ W, Rd r W → Calls Tryd.prog 25 #[.pointer (some ⟨r, 0, none⟩), .int .i64 100] W (Drawn r W fun u => 0 ≤ u ∧ u < 100)) := fun W h => below_any r W h 100 (by omega) (by omega)
  have O3 : Hid (∀ W, Rd r W → Calls Tryd.prog 31 #[.pointer (some ⟨r, 0, none⟩), .int .i64 3] W fun e w' => (∃ u : Bool, e = .returned (.bool u)) ∧ Rd r w' ∧ Turn r W w') := fun W h => once_any r W h 3 (by omega) (by omega)
  clear hw0 h hA
  go_enter Tryd.func24, Tryd.ntmps24
  go_upto_region 1 with fail
  rw [← HW.out, ← HA.out]
  clear HW
  go_wp2_with fail
  refine (B9.out w0 R0.out).mono ?_
  rintro e w1 ⟨⟨m1, hu1, rfl⟩, k1, k2⟩
  obtain ⟨hl1, hh1⟩ := hu1
  have R1 : Hid (Rd r w1) := k1
  have T1 : Hid (Turn r w w1) := T0.out.trans k2
  have A1 : Hid (SY w1 A 0 0 0 0 0) := blk_turn A0.out k2 (by omega)
  clear k1 k2 R0 T0 A0 B9
  go_wp2_with fail
  refine (B12.out w1 R1.out).mono ?_
  rintro e w2 ⟨⟨m2, hu2, rfl⟩, k1, k2⟩
  obtain ⟨hl2, hh2⟩ := hu2
  have R2 : Hid (Rd r w2) := k1
  have T2 : Hid (Turn r w w2) := T1.out.trans k2
  have A2 : Hid (SY w2 A 0 0 0 0 0) := blk_turn A1.out k2 (by omega)
  clear k1 k2 R1 T1 A1 B12
  go_wp2_with fail
  refine (B13.out w2 R2.out).mono ?_
  rintro e w3 ⟨⟨m3, hu3, rfl⟩, k1, k2⟩
  obtain ⟨hl3, hh3⟩ := hu3
  have R3 : Hid (Rd r w3) := k1
  have T3 : Hid (Turn r w w3) := T2.out.trans k2
  have A3 : Hid (SY w3 A 0 0 0 0 0) := blk_turn A2.out k2 (by omega)
  clear k1 k2 R2 T2 A2 B13
  go_wp2_with fail
  refine (B4.out w3 R3.out).mono ?_
  rintro e w4 ⟨⟨m4, hu4, rfl⟩, k1, k2⟩
  obtain ⟨hl4, hh4⟩ := hu4
  have R4 : Hid (Rd r w4) := k1
  have T4 : Hid (Turn r w w4) := T3.out.trans k2
  have A4 : Hid (SY w4 A 0 0 0 0 0) := blk_turn A3.out k2 (by omega)
  clear k1 k2 R3 T3 A3 B4
  go_wp2_with fail
  refine (B100.out w4 R4.out).mono ?_
  rintro e w5 ⟨⟨m5, hu5, rfl⟩, k1, k2⟩
  obtain ⟨hl5, hh5⟩ := hu5
  have R5 : Hid (Rd r w5) := k1
  have T5 : Hid (Turn r w w5) := T4.out.trans k2
  have A5 : Hid (SY w5 A 0 0 0 0 0) := blk_turn A4.out k2 (by omega)
  clear k1 k2 R4 T4 A4 B100
  obtain ⟨w6, hw6⟩ : ∃ w6, w6 = w5.alloc (.cells #[.int .i64 m1, .int .i64 (1 + m2), .int .i64 m3, .int .i64 m4, .int .i64 (1 + m5)] 23) := ⟨_, rfl⟩
  have HW6 : Hid (w6 = w5.alloc (.cells #[.int .i64 m1, .int .i64 (1 + m2), .int .i64 m3, .int .i64 m4, .int .i64 (1 + m5)] 23)) := hw6
  have S6 : Hid (SY w6 w5.heap.size m1 (1 + m2) m3 m4 (1 + m5)) := (by show SY _ _ _ _ _ _ _; rw [hw6]; exact heap_alloc_new w5 _)
  have T6 : Hid (Turn r w w6) := (by show Turn _ _ _; rw [hw6]; exact T5.out.alloc hr _)
  have R6 : Hid (Rd r w6) := (by show Rd _ _; rw [hw6]; exact rd_alloc R5.out _)
  have A6 : Hid (SY w6 A 0 0 0 0 0) := (by show SY _ _ _ _ _ _ _; rw [hw6]; exact A5.out.on ((Below.refl _ _).alloc (Nat.le_refl _) _) A5.out.lt)
  have bA : A < w5.heap.size := A5.out.lt
  have bw : w.heap.size ≤ w5.heap.size := T5.out.size
  clear hw6 A5 T5 R5
  go_upto_region 2 with fail
  rw [← HW6.out]
  clear HW6
  generalize w5.heap.size = b at *
  obtain ⟨f0, hf0⟩ : ∃ f0, f0 = 1 + m2 := ⟨_, rfl⟩
  obtain ⟨p0, hp0⟩ : ∃ p0, p0 = 1 + m5 := ⟨_, rfl⟩
  rw [← hf0, ← hp0] at S6
  have rb : r < b := by omega
  have f1 : 1 ≤ f0 ∧ f0 ≤ 12 := by omega
  have p1 : 1 ≤ p0 ∧ p0 ≤ 100 := by omega
  have l1 : 0 ≤ m3 ∧ m3 ≤ 12 := by omega
  clear hf0 hp0
  go_wp2_with fail
  refine (O3.out w6 R6.out).mono ?_
  rintro e w7 ⟨⟨q, rfl⟩, k1, k2⟩
  have R7 : Hid (Rd r w7) := k1
  have T7 : Hid (Turn r w w7) := T6.out.trans k2
  have A7 : Hid (SY w7 A 0 0 0 0 0) := blk_turn A6.out k2 (by omega)
  have S7 : Hid (SY w7 b m1 f0 m3 m4 p0) := blk_turn S6.out k2 (by omega)
  clear k1 k2 R6 T6 A6 S6
  go_upto_if 18 with fail
  go_cut [19] (fun _ wx => ∃ p : Int, (1 ≤ p ∧ p ≤ 100) ∧ Hid (SY wx b m1 f0 m3 m4 p) ∧ Hid (SY wx A 0 0 0 0 0) ∧ Hid (Rd r wx) ∧ Hid (Turn r w wx))
  case first =>
    cases q
    · go_wp2_with fail
      go_meet
      exact ⟨p0, p1, S7, A7, R7, T7⟩
    · obtain ⟨c0, c1, c2, c3, c4, cf⟩ := S7.out.cells
      have g := cf 4
      clear cf
      have SN : Hid (SY (w7.setCell ⟨b, 4, none⟩ (.int .i64 1)) b m1 f0 m3 m4 1) := S7.out.s4 _
      have TN : Hid (Turn r w (w7.setCell ⟨b, 4, none⟩ (.int .i64 1))) := T7.out.setCell (p := ⟨b, 4, none⟩) (by show _ ≤ b; exact bw) hr _
      have RN : Hid (Rd r (w7.setCell ⟨b, 4, none⟩ (.int .i64 1))) := rd_set rb R7.out 4 _
      have AN : Hid (SY (w7.setCell ⟨b, 4, none⟩ (.int .i64 1)) A 0 0 0 0 0) := A7.out.keep (by omega) 4 _
      go_wp2_with fail
      go_meet
      exact ⟨1, by omega, SN, AN, RN, TN⟩
  case rest =>
    obtain ⟨p, hp, S8, A8, R8, T8⟩ := hcut
    clear S7 A7 R7 T7 p1
    obtain ⟨wd, hwd⟩ : ∃ wd, wd = wc := ⟨_, rfl⟩
    subst hwd
    go_wp2_with fail
    refine (O3.out wd R8.out).mono ?_
    rintro e w9 ⟨⟨q', rfl⟩, k1, k2⟩
    have R9 : Hid (Rd r w9) := k1
    have T9 : Hid (Turn r w w9) := T8.out.trans k2
    have A9 : Hid (SY w9 A 0 0 0 0 0) := blk_turn A8.out k2 (by omega)
    have S9 : Hid (SY w9 b m1 f0 m3 m4 p) := blk_turn S8.out k2 (by omega)
    clear k1 k2 R8 T8 A8 S8
    go_upto_if 21 with fail
    go_cut [22] (fun _ wx => ∃ l : Int, (0 ≤ l ∧ l ≤ 12) ∧ Hid (SY wx b m1 f0 l m4 p) ∧ Hid (SY wx A 0 0 0 0 0) ∧ Hid (Rd r wx) ∧ Hid (Turn r w wx))
    case first =>
      cases q'
      · go_wp2_with fail
        go_meet
        exact ⟨m3, l1, S9, A9, R9, T9⟩
      · obtain ⟨c0, c1, c2, c3, c4, cf⟩ := S9.out.cells
        have g := cf 2
        clear cf
        have SN : Hid (SY (w9.setCell ⟨b, 2, none⟩ (.int .i64 f0)) b m1 f0 f0 m4 p) := S9.out.s2 _
        have TN : Hid (Turn r w (w9.setCell ⟨b, 2, none⟩ (.int .i64 f0))) := T9.out.setCell (p := ⟨b, 2, none⟩) (by show _ ≤ b; exact bw) hr _
        have RN : Hid (Rd r (w9.setCell ⟨b, 2, none⟩ (.int .i64 f0))) := rd_set rb R9.out 2 _
        have AN : Hid (SY (w9.setCell ⟨b, 2, none⟩ (.int .i64 f0)) A 0 0 0 0 0) := A9.out.keep (by omega) 2 _
        go_wp2_with fail
        go_meet
        exact ⟨f0, by omega, SN, AN, RN, TN⟩
    case rest =>
      obtain ⟨l, hl, S10, A10, R10, T10⟩ := hcut
      clear S9 A9 R9 T9 l1
      obtain ⟨we, hwe⟩ : ∃ we, we = wc := ⟨_, rfl⟩
      subst hwe
      obtain ⟨c0, c1, c2, c3, c4, -⟩ := S10.out.cells
      go_upto_if 27 with fail
      clear c0 c1 c2 c3 c4
      go_cut [28] (fun _ wx => ∃ f : Int, ((0 ≤ f ∧ f ≤ 12) ∧ (f = 0 ↔ m1 = 0)) ∧ Hid (SY wx b m1 f l m4 p) ∧ Hid (SY wx A 0 0 0 0 0) ∧ Hid (Rd r wx) ∧ Hid (Turn r w wx))
      case first =>
        obtain ⟨c0, c1, c2, c3, c4, cf⟩ := S10.out.cells
        have g := cf 1
        clear cf
        have SN : Hid (SY (we.setCell ⟨b, 1, none⟩ (.int .i64 0)) b m1 0 l m4 p) := S10.out.s1 _
        have TN : Hid (Turn r w (we.setCell ⟨b, 1, none⟩ (.int .i64 0))) := T10.out.setCell (p := ⟨b, 1, none⟩) (by show _ ≤ b; exact bw) hr _
        have RN : Hid (Rd r (we.setCell ⟨b, 1, none⟩ (.int .i64 0))) := rd_set rb R10.out 1 _
        have AN : Hid (SY (we.setCell ⟨b, 1, none⟩ (.int .i64 0)) A 0 0 0 0 0) := A10.out.keep (by omega) 1 _
        by_cases hd : m1 = 0
        · have e : (m1 == 0) = true := by simpa using hd
          go_wp2_with fail
          go_meet
          exact ⟨0, ⟨by omega, by simp [hd]⟩, SN, AN, RN, TN⟩
        · have e : (m1 == 0) = false := by simpa using hd
          go_wp2_with fail
          go_meet
          exact ⟨f0, ⟨by omega, by omega⟩, S10, A10, R10, T10⟩
      case rest =>
        obtain ⟨f, hf, S11, A11, R11, T11⟩ := hcut
        obtain ⟨hf, hfz⟩ := hf
        clear S10 A10 R10 T10
        obtain ⟨wf, hwf⟩ : ∃ wf, wf = wc := ⟨_, rfl⟩
        subst hwf
        obtain ⟨c0, c1, c2, c3, c4, -⟩ := S11.out.cells
        go_upto_if 31 with fail
        clear c0 c1 c2 c3 c4
        go_cut [32] (fun _ wx => ∃ p : Int, ((0 ≤ p ∧ p ≤ 100) ∧ (p = 0 ↔ m4 = 0)) ∧ Hid (SY wx b m1 f l m4 p) ∧ Hid (SY wx A 0 0 0 0 0) ∧ Hid (Rd r wx) ∧ Hid (Turn r w wx))
        case first =>
          obtain ⟨c0, c1, c2, c3, c4, cf⟩ := S11.out.cells
          have g := cf 4
          clear cf
          have SN : Hid (SY (wf.setCell ⟨b, 4, none⟩ (.int .i64 0)) b m1 f l m4 0) := S11.out.s4 _
          have TN : Hid (Turn r w (wf.setCell ⟨b, 4, none⟩ (.int .i64 0))) := T11.out.setCell (p := ⟨b, 4, none⟩) (by show _ ≤ b; exact bw) hr _
          have RN : Hid (Rd r (wf.setCell ⟨b, 4, none⟩ (.int .i64 0))) := rd_set rb R11.out 4 _
          have AN : Hid (SY (wf.setCell ⟨b, 4, none⟩ (.int .i64 0)) A 0 0 0 0 0) := A11.out.keep (by omega) 4 _
          by_cases hd : m4 = 0
          · have e : (m4 == 0) = true := by simpa using hd
            go_wp2_with fail
            go_meet
            exact ⟨0, ⟨by omega, by simp [hd]⟩, SN, AN, RN, TN⟩
          · have e : (m4 == 0) = false := by simpa using hd
            go_wp2_with fail
            go_meet
            exact ⟨p, ⟨by omega, by omega⟩, S11, A11, R11, T11⟩
        case rest =>
          obtain ⟨p', hp', S12, A12, R12, T12⟩ := hcut
          obtain ⟨hp', hpz⟩ := hp'
          clear S11 A11 R11 T11
          obtain ⟨wg, hwg⟩ : ∃ wg, wg = wc := ⟨_, rfl⟩
          subst hwg
          obtain ⟨c0, c1, c2, c3, c4, -⟩ := S12.out.cells
          obtain ⟨a0, a1, a2, a3, a4, af⟩ := A12.out.cells
          have g0 := af 0; have g1 := af 1; have g2 := af 2; have g3 := af 3; have g4 := af 4
          have wA : w.heap.size ≤ A := by have := HA.out; omega
          have RE : Hid (∀ y0 y1 y2 y3 y4 : Value, Rd r (((((wg.setCell ⟨A, 0, none⟩ y0).setCell ⟨A, 1, none⟩ y1).setCell ⟨A, 2, none⟩ y2).setCell ⟨A, 3, none⟩ y3).setCell ⟨A, 4, none⟩ y4)) := fun y0 y1 y2 y3 y4 => rd_set rA (rd_set rA (rd_set rA (rd_set rA (rd_set rA R12.out _ _) _ _) _ _) _ _) _ _
          have TE : Hid (∀ y0 y1 y2 y3 y4 : Value, Turn r w (((((wg.setCell ⟨A, 0, none⟩ y0).setCell ⟨A, 1, none⟩ y1).setCell ⟨A, 2, none⟩ y2).setCell ⟨A, 3, none⟩ y3).setCell ⟨A, 4, none⟩ y4)) := fun y0 y1 y2 y3 y4 => ((((T12.out.setCell (p := ⟨A, 0, none⟩) wA hr _).setCell (p := ⟨A, 1, none⟩) wA hr _).setCell (p := ⟨A, 2, none⟩) wA hr _).setCell (p := ⟨A, 3, none⟩) wA hr _).setCell (p := ⟨A, 4, none⟩) wA hr _
          clear af
          go_wp2_with fail
          refine bodyPost_ret (v := .agg #[.int .i64 m1, .int .i64 f, .int .i64 l, .int .i64 m4, .int .i64 p']) (by simp [results, Tryd.results24, go_sem, a0, a1, a2, a3, a4]) rfl ⟨⟨m1, f, l, m4, p', rfl, sok_mk (by omega) hf hl (by omega) hp' hfz hpz⟩, RE.out _ _ _ _ _, TE.out _ _ _ _ _⟩
end Go.Proofs.YtnbhfjcpimdnlaaDoor.Ph
