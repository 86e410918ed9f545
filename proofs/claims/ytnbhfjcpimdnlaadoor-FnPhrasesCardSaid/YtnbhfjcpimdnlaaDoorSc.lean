/- A saying, right or not, and a tongue drawn of a code. -/
import Derived.Test.YtnbhfjcpimdnlaaDoorSa
namespace Go.Proofs.YtnbhfjcpimdnlaaDoor.Ph
open Go.ChangeShapes Go.WideShapes Go.ChangeAt Go.RowKit
open Go.Proofs.YtnbhfjcpimdnlaaDoor.Rd (Turn Rd Drawn below_any once_any open_any)
set_option maxHeartbeats 4000000 in
set_option maxRecDepth 20000 in
theorem drawp_any (a : Option Addr) (n0 cap : Nat) (w : World) (hc : Go.Proofs.YtnbhfjcpimdnlaaDoor.Rd.Code w a n0 cap) (hn0 : n0 ≤ 1048576) : Calls Tryd.prog 9 #[.slice a n0 cap] w fun e w' => (∃ d f l k p t : Int, e = .returned (.tuple #[.agg #[.int .i64 d, .int .i64 f, .int .i64 l, .int .i64 k, .int .i64 p], .int .i64 t]) ∧ 0 ≤ t ∧ t < 5) ∧ Below w.heap.size w w' := by
  obtain ⟨w0, hw0⟩ : ∃ w0, w0 = w.alloc (.cells #[.int .i64 0, .int .i64 0, .int .i64 0, .int .i64 0, .int .i64 0] 23) := ⟨_, rfl⟩
  have HW0 : Hid (w0 = w.alloc (.cells #[.int .i64 0, .int .i64 0, .int .i64 0, .int .i64 0, .int .i64 0] 23)) := hw0
  have B0 : Below w.heap.size w w0 := by rw [hw0]; exact (Below.refl _ _).alloc (Nat.le_refl _) _
  have A0 : SY w0 w.heap.size 0 0 0 0 0 := by rw [hw0]; exact heap_alloc_new w _
  have z0 : w0.heap.size = w.heap.size + 1 := by rw [hw0]; simp
  have OP : Hid (Calls Tryd.prog 23 #[.slice a n0 cap] w0 fun e w' => e = .returned (.pointer (some ⟨w0.heap.size, 0, none⟩)) ∧ w' = w0.alloc (.cells #[.slice a n0 cap, .int .i64 0] 66)) := open_any _ a n0 cap rfl w0
  have K0 : Rd w0.heap.size (w0.alloc (.cells #[.slice a n0 cap, .int .i64 0] 66)) := Go.Proofs.YtnbhfjcpimdnlaaDoor.Rd.Rd.new hc hn0 B0
  obtain ⟨w1, hw1⟩ : ∃ w1, w1 = w0.alloc (.cells #[.slice a n0 cap, .int .i64 0] 66) := ⟨_, rfl⟩
  rw [← hw1] at OP K0
  have A1 : SY w1 w.heap.size 0 0 0 0 0 := by rw [hw1]; exact A0.on ((Below.refl _ _).alloc (Nat.le_refl _) _) A0.lt
  have B1 : Below w.heap.size w w1 := by rw [hw1]; exact B0.alloc B0.size _
  clear hc hw0 hw1 A0 B0
  obtain ⟨r, hrr⟩ : ∃ r, r = w0.heap.size := ⟨_, rfl⟩
  rw [← hrr] at OP K0
  have rl : w.heap.size < r := by omega
  have ar : w.heap.size ≠ r := by omega
  clear hrr z0
  go_enter Tryd.func9, Tryd.ntmps9
  go_upto_region 1 with fail
  rw [← HW0.out]
  clear HW0
  go_wp2_with fail
  refine OP.out.mono ?_
  rintro e w1' ⟨rfl, hw⟩
  subst hw
  clear OP
  go_wp2_with fail
  refine (say_any r _ K0).mono ?_
  rintro e w2 ⟨⟨d, f, l, k, p, rfl, -⟩, k2, t2⟩
  obtain ⟨w3, hw3⟩ : ∃ w3, w3 = w2.alloc (.cells #[.int .i64 d, .int .i64 f, .int .i64 l, .int .i64 k, .int .i64 p] 23) := ⟨_, rfl⟩
  have HW3 : Hid (w3 = w2.alloc (.cells #[.int .i64 d, .int .i64 f, .int .i64 l, .int .i64 k, .int .i64 p] 23)) := hw3
  have S3 : SY w3 w2.heap.size d f l k p := by rw [hw3]; exact heap_alloc_new w2 _
  have A2 : SY w2 w.heap.size 0 0 0 0 0 := blk_turn A1 t2 ar
  have A3 : SY w3 w.heap.size 0 0 0 0 0 := by rw [hw3]; exact A2.on ((Below.refl _ _).alloc (Nat.le_refl _) _) A2.lt
  have b2 : Below w.heap.size w w2 := B1.trans (t2.bel.mono (Nat.le_of_lt rl))
  have L3 : Below w.heap.size w w3 := by rw [hw3]; exact b2.alloc b2.size _
  have K3 : Rd r w3 := by rw [hw3]; exact rd_alloc k2 _
  have rb : r < w2.heap.size := k2.lt
  clear k2 t2 A1 B1 K0 hw3 b2 A2
  go_upto_region 3 with fail
  rw [← HW3.out]
  clear HW3
  generalize w2.heap.size = b at *
  go_wp2_with fail
  refine (below_any r _ K3 16 (by omega) (by omega)).mono ?_
  rintro e w4 ⟨⟨m, ⟨hm1, hm2⟩, rfl⟩, k4, t4⟩
  have K4 : Hid (Rd r w4) := k4
  have A4 : Hid (SY w4 w.heap.size 0 0 0 0 0) := blk_turn A3 t4 ar
  have S4 : Hid (SY w4 b d f l k p) := blk_turn S3 t4 (by omega)
  have L4 : Hid (Below w.heap.size w w4) := L3.trans (t4.bel.mono (Nat.le_of_lt rl))
  clear k4 t4 A3 S3 L3 K3
  by_cases m0 : m = 0
  · subst m0
    have kA : Hid (Rd r (w4.alloc (.cells #[.int .i64 (-1), .int .i64 9, .int .i64 0] 2))) := rd_alloc K4.out _
    have hne : w4.heap.size ≠ r := by have := K4.out.lt; omega
    have SA : Hid (SY (w4.alloc (.cells #[.int .i64 (-1), .int .i64 9, .int .i64 0] 2)) b d f l k p) := S4.out.on ((Below.refl _ _).alloc (Nat.le_refl _) _) S4.out.lt
    have AA : Hid (SY (w4.alloc (.cells #[.int .i64 (-1), .int .i64 9, .int .i64 0] 2)) w.heap.size 0 0 0 0 0) := A4.out.on ((Below.refl _ _).alloc (Nat.le_refl _) _) A4.out.lt
    have LA : Hid (Below w.heap.size w (w4.alloc (.cells #[.int .i64 (-1), .int .i64 9, .int .i64 0] 2))) := L4.out.alloc L4.out.size _
    go_wp2_with fail
    refine (below_any r _ kA.out 3 (by omega) (by omega)).mono ?_
    rintro e w5 ⟨⟨y, ⟨hy1, hy2⟩, rfl⟩, k5, t5⟩
    have c0 : w5.cell? ⟨w4.heap.size, 0, none⟩ = some (.int .i64 (-1)) := (t5.cell 0 (by simp) hne).trans (by simp [go_sem])
    have c1 : w5.cell? ⟨w4.heap.size, 1, none⟩ = some (.int .i64 9) := (t5.cell 1 (by simp) hne).trans (by simp [go_sem])
    have c2 : w5.cell? ⟨w4.heap.size, 2, none⟩ = some (.int .i64 0) := (t5.cell 2 (by simp) hne).trans (by simp [go_sem])
    have S5 : Hid (SY w5 b d f l k p) := blk_turn SA.out t5 (by omega)
    have A5 : Hid (SY w5 w.heap.size 0 0 0 0 0) := blk_turn AA.out t5 ar
    have K5 : Hid (Rd r w5) := k5
    have L5 : Hid (Below w.heap.size w w5) := LA.out.trans (t5.bel.mono (Nat.le_of_lt rl))
    clear k5 t5 kA SA AA LA K4 A4 S4 L4
    obtain ⟨s0, s1, s2, s3, s4, sf⟩ := S5.out.cells
    have sg := sf 0
    clear sf
    have SN : Hid (∀ z : Int, SY (w5.setCell ⟨b, 0, none⟩ (.int .i64 z)) b z f l k p) := fun z => S5.out.s0 z
    have AN : Hid (∀ z : Int, SY (w5.setCell ⟨b, 0, none⟩ (.int .i64 z)) w.heap.size 0 0 0 0 0) := fun z => A5.out.keep (by omega) 0 _
    have RN : Hid (∀ z : Int, Rd r (w5.setCell ⟨b, 0, none⟩ (.int .i64 z))) := fun z => rd_set rb K5.out 0 _
    have LN : Hid (∀ z : Int, Below w.heap.size w (w5.setCell ⟨b, 0, none⟩ (.int .i64 z))) := fun z => L5.out.setCell (p := ⟨b, 0, none⟩) (by show _ ≤ b; omega) _
    rcases (by omega : y = 0 ∨ y = 1 ∨ y = 2) with rfl | rfl | rfl
    · obtain ⟨wd, hwd⟩ : ∃ wd, wd = w5.setCell ⟨b, 0, none⟩ (.int .i64 (-1)) := ⟨_, rfl⟩
      have HWD : Hid (wd = w5.setCell ⟨b, 0, none⟩ (.int .i64 (-1))) := hwd
      have S6 : Hid (SY wd b (-1) f l k p) := (by show SY _ _ _ _ _ _ _; rw [hwd]; exact SN.out _)
      have A6 : Hid (SY wd w.heap.size 0 0 0 0 0) := (by show SY _ _ _ _ _ _ _; rw [hwd]; exact AN.out _)
      have K6 : Hid (Rd r wd) := (by show Rd _ _; rw [hwd]; exact RN.out _)
      have L6 : Hid (Below w.heap.size w wd) := (by show Below _ _ _; rw [hwd]; exact LN.out _)
      clear hwd SN AN RN LN S5 A5 K5 L5
      go_upto_region 12 with fail
      rw [← HWD.out]
      clear HWD s0 s1 s2 s3 s4 sg c0 c1 c2
      obtain ⟨c0, c1, c2, c3, c4, -⟩ := S6.out.cells
      have B5 : Hid (∀ n, Calls Tryd.prog 25 #[.pointer (some ⟨r, 0, none⟩), .int .i64 5] (wd.drewN n) (Drawn r (wd.drewN n) fun u => 0 ≤ u ∧ u < 5)) := fun n => below_any r _ (K6.out.drewN n) 5 (by omega) (by omega)
      go_region_with (go_at_call 25; refine (B5.out 1).mono ?_; rintro e w9 ⟨⟨y, ⟨hy1, hy2⟩, rfl⟩, k9, t9⟩; have S9 := blk_turn (w := wd.drewN 1) S6.out t9 (by omega); have A9 := blk_turn (w := wd.drewN 1) A6.out t9 ar; have L9 : Hid (Below w.heap.size w w9) := L6.out.trans ((Go.Proofs.YtnbhfjcpimdnlaaDoor.Rd.below_drewN (Below.refl w.heap.size wd) 1).trans (t9.bel.mono (Nat.le_of_lt rl))); obtain ⟨s0, s1, s2, s3, s4, -⟩ := SY.cells S9; obtain ⟨a0, a1, a2, a3, a4, af⟩ := SY.cells A9; have g0 := af 0; have g1 := af 1; have g2 := af 2; have g3 := af 3; have g4 := af 4; clear af t9 k9)
      all_goals go_wp2_with fail
      all_goals refine bodyPost_ret (v := .tuple #[.agg #[.int .i64 (-1), .int .i64 f, .int .i64 l, .int .i64 k, .int .i64 p], .int .i64 y]) (by simp [results, Tryd.results9, go_sem, a0, a1, a2, a3, a4]) rfl ⟨⟨_, _, _, _, _, y, rfl, hy1, hy2⟩, ?_⟩
      all_goals exact (((((L9.out.setCell (p := ⟨w.heap.size, 0, none⟩) (Nat.le_refl _) _).setCell (p := ⟨w.heap.size, 1, none⟩) (Nat.le_refl _) _).setCell (p := ⟨w.heap.size, 2, none⟩) (Nat.le_refl _) _).setCell (p := ⟨w.heap.size, 3, none⟩) (Nat.le_refl _) _).setCell (p := ⟨w.heap.size, 4, none⟩) (Nat.le_refl _) _)
    · obtain ⟨wd, hwd⟩ : ∃ wd, wd = w5.setCell ⟨b, 0, none⟩ (.int .i64 9) := ⟨_, rfl⟩
      have HWD : Hid (wd = w5.setCell ⟨b, 0, none⟩ (.int .i64 9)) := hwd
      have S6 : Hid (SY wd b 9 f l k p) := (by show SY _ _ _ _ _ _ _; rw [hwd]; exact SN.out _)
      have A6 : Hid (SY wd w.heap.size 0 0 0 0 0) := (by show SY _ _ _ _ _ _ _; rw [hwd]; exact AN.out _)
      have K6 : Hid (Rd r wd) := (by show Rd _ _; rw [hwd]; exact RN.out _)
      have L6 : Hid (Below w.heap.size w wd) := (by show Below _ _ _; rw [hwd]; exact LN.out _)
      clear hwd SN AN RN LN S5 A5 K5 L5
      go_upto_region 12 with fail
      rw [← HWD.out]
      clear HWD s0 s1 s2 s3 s4 sg c0 c1 c2
      obtain ⟨c0, c1, c2, c3, c4, -⟩ := S6.out.cells
      have B5 : Hid (∀ n, Calls Tryd.prog 25 #[.pointer (some ⟨r, 0, none⟩), .int .i64 5] (wd.drewN n) (Drawn r (wd.drewN n) fun u => 0 ≤ u ∧ u < 5)) := fun n => below_any r _ (K6.out.drewN n) 5 (by omega) (by omega)
      go_region_with (go_at_call 25; refine (B5.out 1).mono ?_; rintro e w9 ⟨⟨y, ⟨hy1, hy2⟩, rfl⟩, k9, t9⟩; have S9 := blk_turn (w := wd.drewN 1) S6.out t9 (by omega); have A9 := blk_turn (w := wd.drewN 1) A6.out t9 ar; have L9 : Hid (Below w.heap.size w w9) := L6.out.trans ((Go.Proofs.YtnbhfjcpimdnlaaDoor.Rd.below_drewN (Below.refl w.heap.size wd) 1).trans (t9.bel.mono (Nat.le_of_lt rl))); obtain ⟨s0, s1, s2, s3, s4, -⟩ := SY.cells S9; obtain ⟨a0, a1, a2, a3, a4, af⟩ := SY.cells A9; have g0 := af 0; have g1 := af 1; have g2 := af 2; have g3 := af 3; have g4 := af 4; clear af t9 k9)
      all_goals go_wp2_with fail
      all_goals refine bodyPost_ret (v := .tuple #[.agg #[.int .i64 9, .int .i64 f, .int .i64 l, .int .i64 k, .int .i64 p], .int .i64 y]) (by simp [results, Tryd.results9, go_sem, a0, a1, a2, a3, a4]) rfl ⟨⟨_, _, _, _, _, y, rfl, hy1, hy2⟩, ?_⟩
      all_goals exact (((((L9.out.setCell (p := ⟨w.heap.size, 0, none⟩) (Nat.le_refl _) _).setCell (p := ⟨w.heap.size, 1, none⟩) (Nat.le_refl _) _).setCell (p := ⟨w.heap.size, 2, none⟩) (Nat.le_refl _) _).setCell (p := ⟨w.heap.size, 3, none⟩) (Nat.le_refl _) _).setCell (p := ⟨w.heap.size, 4, none⟩) (Nat.le_refl _) _)
    · obtain ⟨wd, hwd⟩ : ∃ wd, wd = w5.setCell ⟨b, 0, none⟩ (.int .i64 0) := ⟨_, rfl⟩
      have HWD : Hid (wd = w5.setCell ⟨b, 0, none⟩ (.int .i64 0)) := hwd
      have S6 : Hid (SY wd b 0 f l k p) := (by show SY _ _ _ _ _ _ _; rw [hwd]; exact SN.out _)
      have A6 : Hid (SY wd w.heap.size 0 0 0 0 0) := (by show SY _ _ _ _ _ _ _; rw [hwd]; exact AN.out _)
      have K6 : Hid (Rd r wd) := (by show Rd _ _; rw [hwd]; exact RN.out _)
      have L6 : Hid (Below w.heap.size w wd) := (by show Below _ _ _; rw [hwd]; exact LN.out _)
      clear hwd SN AN RN LN S5 A5 K5 L5
      go_upto_region 12 with fail
      rw [← HWD.out]
      clear HWD s0 s1 s2 s3 s4 sg c0 c1 c2
      obtain ⟨c0, c1, c2, c3, c4, -⟩ := S6.out.cells
      have B5 : Hid (∀ n, Calls Tryd.prog 25 #[.pointer (some ⟨r, 0, none⟩), .int .i64 5] (wd.drewN n) (Drawn r (wd.drewN n) fun u => 0 ≤ u ∧ u < 5)) := fun n => below_any r _ (K6.out.drewN n) 5 (by omega) (by omega)
      go_region_with (go_at_call 25; refine (B5.out 1).mono ?_; rintro e w9 ⟨⟨y, ⟨hy1, hy2⟩, rfl⟩, k9, t9⟩; have S9 := blk_turn (w := wd.drewN 1) S6.out t9 (by omega); have A9 := blk_turn (w := wd.drewN 1) A6.out t9 ar; have L9 : Hid (Below w.heap.size w w9) := L6.out.trans ((Go.Proofs.YtnbhfjcpimdnlaaDoor.Rd.below_drewN (Below.refl w.heap.size wd) 1).trans (t9.bel.mono (Nat.le_of_lt rl))); obtain ⟨s0, s1, s2, s3, s4, -⟩ := SY.cells S9; obtain ⟨a0, a1, a2, a3, a4, af⟩ := SY.cells A9; have g0 := af 0; have g1 := af 1; have g2 := af 2; have g3 := af 3; have g4 := af 4; clear af t9 k9)
      all_goals go_wp2_with fail
      all_goals refine bodyPost_ret (v := .tuple #[.agg #[.int .i64 0, .int .i64 f, .int .i64 l, .int .i64 k, .int .i64 p], .int .i64 y]) (by simp [results, Tryd.results9, go_sem, a0, a1, a2, a3, a4]) rfl ⟨⟨_, _, _, _, _, y, rfl, hy1, hy2⟩, ?_⟩
      all_goals exact (((((L9.out.setCell (p := ⟨w.heap.size, 0, none⟩) (Nat.le_refl _) _).setCell (p := ⟨w.heap.size, 1, none⟩) (Nat.le_refl _) _).setCell (p := ⟨w.heap.size, 2, none⟩) (Nat.le_refl _) _).setCell (p := ⟨w.heap.size, 3, none⟩) (Nat.le_refl _) _).setCell (p := ⟨w.heap.size, 4, none⟩) (Nat.le_refl _) _)
  · have e0 : (m == 0) = false := by simpa using m0
    by_cases m1 : m = 1
    · subst m1
      have kA : Hid (Rd r (w4.alloc (.cells #[.int .i64 (-1), .int .i64 13, .int .i64 0] 2))) := rd_alloc K4.out _
      have hne : w4.heap.size ≠ r := by have := K4.out.lt; omega
      have SA : Hid (SY (w4.alloc (.cells #[.int .i64 (-1), .int .i64 13, .int .i64 0] 2)) b d f l k p) := S4.out.on ((Below.refl _ _).alloc (Nat.le_refl _) _) S4.out.lt
      have AA : Hid (SY (w4.alloc (.cells #[.int .i64 (-1), .int .i64 13, .int .i64 0] 2)) w.heap.size 0 0 0 0 0) := A4.out.on ((Below.refl _ _).alloc (Nat.le_refl _) _) A4.out.lt
      have LA : Hid (Below w.heap.size w (w4.alloc (.cells #[.int .i64 (-1), .int .i64 13, .int .i64 0] 2))) := L4.out.alloc L4.out.size _
      go_wp2_with fail
      refine (below_any r _ kA.out 3 (by omega) (by omega)).mono ?_
      rintro e w5 ⟨⟨y, ⟨hy1, hy2⟩, rfl⟩, k5, t5⟩
      have c0 : w5.cell? ⟨w4.heap.size, 0, none⟩ = some (.int .i64 (-1)) := (t5.cell 0 (by simp) hne).trans (by simp [go_sem])
      have c1 : w5.cell? ⟨w4.heap.size, 1, none⟩ = some (.int .i64 13) := (t5.cell 1 (by simp) hne).trans (by simp [go_sem])
      have c2 : w5.cell? ⟨w4.heap.size, 2, none⟩ = some (.int .i64 0) := (t5.cell 2 (by simp) hne).trans (by simp [go_sem])
      have S5 : Hid (SY w5 b d f l k p) := blk_turn SA.out t5 (by omega)
      have A5 : Hid (SY w5 w.heap.size 0 0 0 0 0) := blk_turn AA.out t5 ar
      have K5 : Hid (Rd r w5) := k5
      have L5 : Hid (Below w.heap.size w w5) := LA.out.trans (t5.bel.mono (Nat.le_of_lt rl))
      clear k5 t5 kA SA AA LA K4 A4 S4 L4
      obtain ⟨s0, s1, s2, s3, s4, sf⟩ := S5.out.cells
      have sg := sf 1
      clear sf
      have SN : Hid (∀ z : Int, SY (w5.setCell ⟨b, 1, none⟩ (.int .i64 z)) b d z l k p) := fun z => S5.out.s1 z
      have AN : Hid (∀ z : Int, SY (w5.setCell ⟨b, 1, none⟩ (.int .i64 z)) w.heap.size 0 0 0 0 0) := fun z => A5.out.keep (by omega) 1 _
      have RN : Hid (∀ z : Int, Rd r (w5.setCell ⟨b, 1, none⟩ (.int .i64 z))) := fun z => rd_set rb K5.out 1 _
      have LN : Hid (∀ z : Int, Below w.heap.size w (w5.setCell ⟨b, 1, none⟩ (.int .i64 z))) := fun z => L5.out.setCell (p := ⟨b, 1, none⟩) (by show _ ≤ b; omega) _
      rcases (by omega : y = 0 ∨ y = 1 ∨ y = 2) with rfl | rfl | rfl
      · obtain ⟨wd, hwd⟩ : ∃ wd, wd = w5.setCell ⟨b, 1, none⟩ (.int .i64 (-1)) := ⟨_, rfl⟩
        have HWD : Hid (wd = w5.setCell ⟨b, 1, none⟩ (.int .i64 (-1))) := hwd
        have S6 : Hid (SY wd b d (-1) l k p) := (by show SY _ _ _ _ _ _ _; rw [hwd]; exact SN.out _)
        have A6 : Hid (SY wd w.heap.size 0 0 0 0 0) := (by show SY _ _ _ _ _ _ _; rw [hwd]; exact AN.out _)
        have K6 : Hid (Rd r wd) := (by show Rd _ _; rw [hwd]; exact RN.out _)
        have L6 : Hid (Below w.heap.size w wd) := (by show Below _ _ _; rw [hwd]; exact LN.out _)
        clear hwd SN AN RN LN S5 A5 K5 L5
        go_upto_region 12 with fail
        rw [← HWD.out]
        clear HWD s0 s1 s2 s3 s4 sg c0 c1 c2
        obtain ⟨c0, c1, c2, c3, c4, -⟩ := S6.out.cells
        have B5 : Hid (∀ n, Calls Tryd.prog 25 #[.pointer (some ⟨r, 0, none⟩), .int .i64 5] (wd.drewN n) (Drawn r (wd.drewN n) fun u => 0 ≤ u ∧ u < 5)) := fun n => below_any r _ (K6.out.drewN n) 5 (by omega) (by omega)
        go_region_with (go_at_call 25; refine (B5.out 1).mono ?_; rintro e w9 ⟨⟨y, ⟨hy1, hy2⟩, rfl⟩, k9, t9⟩; have S9 := blk_turn (w := wd.drewN 1) S6.out t9 (by omega); have A9 := blk_turn (w := wd.drewN 1) A6.out t9 ar; have L9 : Hid (Below w.heap.size w w9) := L6.out.trans ((Go.Proofs.YtnbhfjcpimdnlaaDoor.Rd.below_drewN (Below.refl w.heap.size wd) 1).trans (t9.bel.mono (Nat.le_of_lt rl))); obtain ⟨s0, s1, s2, s3, s4, -⟩ := SY.cells S9; obtain ⟨a0, a1, a2, a3, a4, af⟩ := SY.cells A9; have g0 := af 0; have g1 := af 1; have g2 := af 2; have g3 := af 3; have g4 := af 4; clear af t9 k9)
        all_goals go_wp2_with fail
        all_goals refine bodyPost_ret (v := .tuple #[.agg #[.int .i64 d, .int .i64 (-1), .int .i64 l, .int .i64 k, .int .i64 p], .int .i64 y]) (by simp [results, Tryd.results9, go_sem, a0, a1, a2, a3, a4]) rfl ⟨⟨_, _, _, _, _, y, rfl, hy1, hy2⟩, ?_⟩
        all_goals exact (((((L9.out.setCell (p := ⟨w.heap.size, 0, none⟩) (Nat.le_refl _) _).setCell (p := ⟨w.heap.size, 1, none⟩) (Nat.le_refl _) _).setCell (p := ⟨w.heap.size, 2, none⟩) (Nat.le_refl _) _).setCell (p := ⟨w.heap.size, 3, none⟩) (Nat.le_refl _) _).setCell (p := ⟨w.heap.size, 4, none⟩) (Nat.le_refl _) _)
      · obtain ⟨wd, hwd⟩ : ∃ wd, wd = w5.setCell ⟨b, 1, none⟩ (.int .i64 13) := ⟨_, rfl⟩
        have HWD : Hid (wd = w5.setCell ⟨b, 1, none⟩ (.int .i64 13)) := hwd
        have S6 : Hid (SY wd b d 13 l k p) := (by show SY _ _ _ _ _ _ _; rw [hwd]; exact SN.out _)
        have A6 : Hid (SY wd w.heap.size 0 0 0 0 0) := (by show SY _ _ _ _ _ _ _; rw [hwd]; exact AN.out _)
        have K6 : Hid (Rd r wd) := (by show Rd _ _; rw [hwd]; exact RN.out _)
        have L6 : Hid (Below w.heap.size w wd) := (by show Below _ _ _; rw [hwd]; exact LN.out _)
        clear hwd SN AN RN LN S5 A5 K5 L5
        go_upto_region 12 with fail
        rw [← HWD.out]
        clear HWD s0 s1 s2 s3 s4 sg c0 c1 c2
        obtain ⟨c0, c1, c2, c3, c4, -⟩ := S6.out.cells
        have B5 : Hid (∀ n, Calls Tryd.prog 25 #[.pointer (some ⟨r, 0, none⟩), .int .i64 5] (wd.drewN n) (Drawn r (wd.drewN n) fun u => 0 ≤ u ∧ u < 5)) := fun n => below_any r _ (K6.out.drewN n) 5 (by omega) (by omega)
        go_region_with (go_at_call 25; refine (B5.out 1).mono ?_; rintro e w9 ⟨⟨y, ⟨hy1, hy2⟩, rfl⟩, k9, t9⟩; have S9 := blk_turn (w := wd.drewN 1) S6.out t9 (by omega); have A9 := blk_turn (w := wd.drewN 1) A6.out t9 ar; have L9 : Hid (Below w.heap.size w w9) := L6.out.trans ((Go.Proofs.YtnbhfjcpimdnlaaDoor.Rd.below_drewN (Below.refl w.heap.size wd) 1).trans (t9.bel.mono (Nat.le_of_lt rl))); obtain ⟨s0, s1, s2, s3, s4, -⟩ := SY.cells S9; obtain ⟨a0, a1, a2, a3, a4, af⟩ := SY.cells A9; have g0 := af 0; have g1 := af 1; have g2 := af 2; have g3 := af 3; have g4 := af 4; clear af t9 k9)
        all_goals go_wp2_with fail
        all_goals refine bodyPost_ret (v := .tuple #[.agg #[.int .i64 d, .int .i64 13, .int .i64 l, .int .i64 k, .int .i64 p], .int .i64 y]) (by simp [results, Tryd.results9, go_sem, a0, a1, a2, a3, a4]) rfl ⟨⟨_, _, _, _, _, y, rfl, hy1, hy2⟩, ?_⟩
        all_goals exact (((((L9.out.setCell (p := ⟨w.heap.size, 0, none⟩) (Nat.le_refl _) _).setCell (p := ⟨w.heap.size, 1, none⟩) (Nat.le_refl _) _).setCell (p := ⟨w.heap.size, 2, none⟩) (Nat.le_refl _) _).setCell (p := ⟨w.heap.size, 3, none⟩) (Nat.le_refl _) _).setCell (p := ⟨w.heap.size, 4, none⟩) (Nat.le_refl _) _)
      · obtain ⟨wd, hwd⟩ : ∃ wd, wd = w5.setCell ⟨b, 1, none⟩ (.int .i64 0) := ⟨_, rfl⟩
        have HWD : Hid (wd = w5.setCell ⟨b, 1, none⟩ (.int .i64 0)) := hwd
        have S6 : Hid (SY wd b d 0 l k p) := (by show SY _ _ _ _ _ _ _; rw [hwd]; exact SN.out _)
        have A6 : Hid (SY wd w.heap.size 0 0 0 0 0) := (by show SY _ _ _ _ _ _ _; rw [hwd]; exact AN.out _)
        have K6 : Hid (Rd r wd) := (by show Rd _ _; rw [hwd]; exact RN.out _)
        have L6 : Hid (Below w.heap.size w wd) := (by show Below _ _ _; rw [hwd]; exact LN.out _)
        clear hwd SN AN RN LN S5 A5 K5 L5
        go_upto_region 12 with fail
        rw [← HWD.out]
        clear HWD s0 s1 s2 s3 s4 sg c0 c1 c2
        obtain ⟨c0, c1, c2, c3, c4, -⟩ := S6.out.cells
        have B5 : Hid (∀ n, Calls Tryd.prog 25 #[.pointer (some ⟨r, 0, none⟩), .int .i64 5] (wd.drewN n) (Drawn r (wd.drewN n) fun u => 0 ≤ u ∧ u < 5)) := fun n => below_any r _ (K6.out.drewN n) 5 (by omega) (by omega)
        go_region_with (go_at_call 25; refine (B5.out 1).mono ?_; rintro e w9 ⟨⟨y, ⟨hy1, hy2⟩, rfl⟩, k9, t9⟩; have S9 := blk_turn (w := wd.drewN 1) S6.out t9 (by omega); have A9 := blk_turn (w := wd.drewN 1) A6.out t9 ar; have L9 : Hid (Below w.heap.size w w9) := L6.out.trans ((Go.Proofs.YtnbhfjcpimdnlaaDoor.Rd.below_drewN (Below.refl w.heap.size wd) 1).trans (t9.bel.mono (Nat.le_of_lt rl))); obtain ⟨s0, s1, s2, s3, s4, -⟩ := SY.cells S9; obtain ⟨a0, a1, a2, a3, a4, af⟩ := SY.cells A9; have g0 := af 0; have g1 := af 1; have g2 := af 2; have g3 := af 3; have g4 := af 4; clear af t9 k9)
        all_goals go_wp2_with fail
        all_goals refine bodyPost_ret (v := .tuple #[.agg #[.int .i64 d, .int .i64 0, .int .i64 l, .int .i64 k, .int .i64 p], .int .i64 y]) (by simp [results, Tryd.results9, go_sem, a0, a1, a2, a3, a4]) rfl ⟨⟨_, _, _, _, _, y, rfl, hy1, hy2⟩, ?_⟩
        all_goals exact (((((L9.out.setCell (p := ⟨w.heap.size, 0, none⟩) (Nat.le_refl _) _).setCell (p := ⟨w.heap.size, 1, none⟩) (Nat.le_refl _) _).setCell (p := ⟨w.heap.size, 2, none⟩) (Nat.le_refl _) _).setCell (p := ⟨w.heap.size, 3, none⟩) (Nat.le_refl _) _).setCell (p := ⟨w.heap.size, 4, none⟩) (Nat.le_refl _) _)
    · have e1 : (m == 1) = false := by simpa using m1
      by_cases m2 : m = 2
      · subst m2
        have kA : Hid (Rd r (w4.alloc (.cells #[.int .i64 0, .int .i64 100, .int .i64 101] 2))) := rd_alloc K4.out _
        have hne : w4.heap.size ≠ r := by have := K4.out.lt; omega
        have SA : Hid (SY (w4.alloc (.cells #[.int .i64 0, .int .i64 100, .int .i64 101] 2)) b d f l k p) := S4.out.on ((Below.refl _ _).alloc (Nat.le_refl _) _) S4.out.lt
        have AA : Hid (SY (w4.alloc (.cells #[.int .i64 0, .int .i64 100, .int .i64 101] 2)) w.heap.size 0 0 0 0 0) := A4.out.on ((Below.refl _ _).alloc (Nat.le_refl _) _) A4.out.lt
        have LA : Hid (Below w.heap.size w (w4.alloc (.cells #[.int .i64 0, .int .i64 100, .int .i64 101] 2))) := L4.out.alloc L4.out.size _
        go_wp2_with fail
        refine (below_any r _ kA.out 3 (by omega) (by omega)).mono ?_
        rintro e w5 ⟨⟨y, ⟨hy1, hy2⟩, rfl⟩, k5, t5⟩
        have c0 : w5.cell? ⟨w4.heap.size, 0, none⟩ = some (.int .i64 0) := (t5.cell 0 (by simp) hne).trans (by simp [go_sem])
        have c1 : w5.cell? ⟨w4.heap.size, 1, none⟩ = some (.int .i64 100) := (t5.cell 1 (by simp) hne).trans (by simp [go_sem])
        have c2 : w5.cell? ⟨w4.heap.size, 2, none⟩ = some (.int .i64 101) := (t5.cell 2 (by simp) hne).trans (by simp [go_sem])
        have S5 : Hid (SY w5 b d f l k p) := blk_turn SA.out t5 (by omega)
        have A5 : Hid (SY w5 w.heap.size 0 0 0 0 0) := blk_turn AA.out t5 ar
        have K5 : Hid (Rd r w5) := k5
        have L5 : Hid (Below w.heap.size w w5) := LA.out.trans (t5.bel.mono (Nat.le_of_lt rl))
        clear k5 t5 kA SA AA LA K4 A4 S4 L4
        obtain ⟨s0, s1, s2, s3, s4, sf⟩ := S5.out.cells
        have sg := sf 4
        clear sf
        have SN : Hid (∀ z : Int, SY (w5.setCell ⟨b, 4, none⟩ (.int .i64 z)) b d f l k z) := fun z => S5.out.s4 z
        have AN : Hid (∀ z : Int, SY (w5.setCell ⟨b, 4, none⟩ (.int .i64 z)) w.heap.size 0 0 0 0 0) := fun z => A5.out.keep (by omega) 4 _
        have RN : Hid (∀ z : Int, Rd r (w5.setCell ⟨b, 4, none⟩ (.int .i64 z))) := fun z => rd_set rb K5.out 4 _
        have LN : Hid (∀ z : Int, Below w.heap.size w (w5.setCell ⟨b, 4, none⟩ (.int .i64 z))) := fun z => L5.out.setCell (p := ⟨b, 4, none⟩) (by show _ ≤ b; omega) _
        rcases (by omega : y = 0 ∨ y = 1 ∨ y = 2) with rfl | rfl | rfl
        · obtain ⟨wd, hwd⟩ : ∃ wd, wd = w5.setCell ⟨b, 4, none⟩ (.int .i64 0) := ⟨_, rfl⟩
          have HWD : Hid (wd = w5.setCell ⟨b, 4, none⟩ (.int .i64 0)) := hwd
          have S6 : Hid (SY wd b d f l k 0) := (by show SY _ _ _ _ _ _ _; rw [hwd]; exact SN.out _)
          have A6 : Hid (SY wd w.heap.size 0 0 0 0 0) := (by show SY _ _ _ _ _ _ _; rw [hwd]; exact AN.out _)
          have K6 : Hid (Rd r wd) := (by show Rd _ _; rw [hwd]; exact RN.out _)
          have L6 : Hid (Below w.heap.size w wd) := (by show Below _ _ _; rw [hwd]; exact LN.out _)
          clear hwd SN AN RN LN S5 A5 K5 L5
          go_upto_region 12 with fail
          rw [← HWD.out]
          clear HWD s0 s1 s2 s3 s4 sg c0 c1 c2
          obtain ⟨c0, c1, c2, c3, c4, -⟩ := S6.out.cells
          have B5 : Hid (∀ n, Calls Tryd.prog 25 #[.pointer (some ⟨r, 0, none⟩), .int .i64 5] (wd.drewN n) (Drawn r (wd.drewN n) fun u => 0 ≤ u ∧ u < 5)) := fun n => below_any r _ (K6.out.drewN n) 5 (by omega) (by omega)
          go_region_with (go_at_call 25; refine (B5.out 1).mono ?_; rintro e w9 ⟨⟨y, ⟨hy1, hy2⟩, rfl⟩, k9, t9⟩; have S9 := blk_turn (w := wd.drewN 1) S6.out t9 (by omega); have A9 := blk_turn (w := wd.drewN 1) A6.out t9 ar; have L9 : Hid (Below w.heap.size w w9) := L6.out.trans ((Go.Proofs.YtnbhfjcpimdnlaaDoor.Rd.below_drewN (Below.refl w.heap.size wd) 1).trans (t9.bel.mono (Nat.le_of_lt rl))); obtain ⟨s0, s1, s2, s3, s4, -⟩ := SY.cells S9; obtain ⟨a0, a1, a2, a3, a4, af⟩ := SY.cells A9; have g0 := af 0; have g1 := af 1; have g2 := af 2; have g3 := af 3; have g4 := af 4; clear af t9 k9)
          all_goals go_wp2_with fail
          all_goals refine bodyPost_ret (v := .tuple #[.agg #[.int .i64 d, .int .i64 f, .int .i64 l, .int .i64 k, .int .i64 0], .int .i64 y]) (by simp [results, Tryd.results9, go_sem, a0, a1, a2, a3, a4]) rfl ⟨⟨_, _, _, _, _, y, rfl, hy1, hy2⟩, ?_⟩
          all_goals exact (((((L9.out.setCell (p := ⟨w.heap.size, 0, none⟩) (Nat.le_refl _) _).setCell (p := ⟨w.heap.size, 1, none⟩) (Nat.le_refl _) _).setCell (p := ⟨w.heap.size, 2, none⟩) (Nat.le_refl _) _).setCell (p := ⟨w.heap.size, 3, none⟩) (Nat.le_refl _) _).setCell (p := ⟨w.heap.size, 4, none⟩) (Nat.le_refl _) _)
        · obtain ⟨wd, hwd⟩ : ∃ wd, wd = w5.setCell ⟨b, 4, none⟩ (.int .i64 100) := ⟨_, rfl⟩
          have HWD : Hid (wd = w5.setCell ⟨b, 4, none⟩ (.int .i64 100)) := hwd
          have S6 : Hid (SY wd b d f l k 100) := (by show SY _ _ _ _ _ _ _; rw [hwd]; exact SN.out _)
          have A6 : Hid (SY wd w.heap.size 0 0 0 0 0) := (by show SY _ _ _ _ _ _ _; rw [hwd]; exact AN.out _)
          have K6 : Hid (Rd r wd) := (by show Rd _ _; rw [hwd]; exact RN.out _)
          have L6 : Hid (Below w.heap.size w wd) := (by show Below _ _ _; rw [hwd]; exact LN.out _)
          clear hwd SN AN RN LN S5 A5 K5 L5
          go_upto_region 12 with fail
          rw [← HWD.out]
          clear HWD s0 s1 s2 s3 s4 sg c0 c1 c2
          obtain ⟨c0, c1, c2, c3, c4, -⟩ := S6.out.cells
          have B5 : Hid (∀ n, Calls Tryd.prog 25 #[.pointer (some ⟨r, 0, none⟩), .int .i64 5] (wd.drewN n) (Drawn r (wd.drewN n) fun u => 0 ≤ u ∧ u < 5)) := fun n => below_any r _ (K6.out.drewN n) 5 (by omega) (by omega)
          go_region_with (go_at_call 25; refine (B5.out 1).mono ?_; rintro e w9 ⟨⟨y, ⟨hy1, hy2⟩, rfl⟩, k9, t9⟩; have S9 := blk_turn (w := wd.drewN 1) S6.out t9 (by omega); have A9 := blk_turn (w := wd.drewN 1) A6.out t9 ar; have L9 : Hid (Below w.heap.size w w9) := L6.out.trans ((Go.Proofs.YtnbhfjcpimdnlaaDoor.Rd.below_drewN (Below.refl w.heap.size wd) 1).trans (t9.bel.mono (Nat.le_of_lt rl))); obtain ⟨s0, s1, s2, s3, s4, -⟩ := SY.cells S9; obtain ⟨a0, a1, a2, a3, a4, af⟩ := SY.cells A9; have g0 := af 0; have g1 := af 1; have g2 := af 2; have g3 := af 3; have g4 := af 4; clear af t9 k9)
          all_goals go_wp2_with fail
          all_goals refine bodyPost_ret (v := .tuple #[.agg #[.int .i64 d, .int .i64 f, .int .i64 l, .int .i64 k, .int .i64 100], .int .i64 y]) (by simp [results, Tryd.results9, go_sem, a0, a1, a2, a3, a4]) rfl ⟨⟨_, _, _, _, _, y, rfl, hy1, hy2⟩, ?_⟩
          all_goals exact (((((L9.out.setCell (p := ⟨w.heap.size, 0, none⟩) (Nat.le_refl _) _).setCell (p := ⟨w.heap.size, 1, none⟩) (Nat.le_refl _) _).setCell (p := ⟨w.heap.size, 2, none⟩) (Nat.le_refl _) _).setCell (p := ⟨w.heap.size, 3, none⟩) (Nat.le_refl _) _).setCell (p := ⟨w.heap.size, 4, none⟩) (Nat.le_refl _) _)
        · obtain ⟨wd, hwd⟩ : ∃ wd, wd = w5.setCell ⟨b, 4, none⟩ (.int .i64 101) := ⟨_, rfl⟩
          have HWD : Hid (wd = w5.setCell ⟨b, 4, none⟩ (.int .i64 101)) := hwd
          have S6 : Hid (SY wd b d f l k 101) := (by show SY _ _ _ _ _ _ _; rw [hwd]; exact SN.out _)
          have A6 : Hid (SY wd w.heap.size 0 0 0 0 0) := (by show SY _ _ _ _ _ _ _; rw [hwd]; exact AN.out _)
          have K6 : Hid (Rd r wd) := (by show Rd _ _; rw [hwd]; exact RN.out _)
          have L6 : Hid (Below w.heap.size w wd) := (by show Below _ _ _; rw [hwd]; exact LN.out _)
          clear hwd SN AN RN LN S5 A5 K5 L5
          go_upto_region 12 with fail
          rw [← HWD.out]
          clear HWD s0 s1 s2 s3 s4 sg c0 c1 c2
          obtain ⟨c0, c1, c2, c3, c4, -⟩ := S6.out.cells
          have B5 : Hid (∀ n, Calls Tryd.prog 25 #[.pointer (some ⟨r, 0, none⟩), .int .i64 5] (wd.drewN n) (Drawn r (wd.drewN n) fun u => 0 ≤ u ∧ u < 5)) := fun n => below_any r _ (K6.out.drewN n) 5 (by omega) (by omega)
          go_region_with (go_at_call 25; refine (B5.out 1).mono ?_; rintro e w9 ⟨⟨y, ⟨hy1, hy2⟩, rfl⟩, k9, t9⟩; have S9 := blk_turn (w := wd.drewN 1) S6.out t9 (by omega); have A9 := blk_turn (w := wd.drewN 1) A6.out t9 ar; have L9 : Hid (Below w.heap.size w w9) := L6.out.trans ((Go.Proofs.YtnbhfjcpimdnlaaDoor.Rd.below_drewN (Below.refl w.heap.size wd) 1).trans (t9.bel.mono (Nat.le_of_lt rl))); obtain ⟨s0, s1, s2, s3, s4, -⟩ := SY.cells S9; obtain ⟨a0, a1, a2, a3, a4, af⟩ := SY.cells A9; have g0 := af 0; have g1 := af 1; have g2 := af 2; have g3 := af 3; have g4 := af 4; clear af t9 k9)
          all_goals go_wp2_with fail
          all_goals refine bodyPost_ret (v := .tuple #[.agg #[.int .i64 d, .int .i64 f, .int .i64 l, .int .i64 k, .int .i64 101], .int .i64 y]) (by simp [results, Tryd.results9, go_sem, a0, a1, a2, a3, a4]) rfl ⟨⟨_, _, _, _, _, y, rfl, hy1, hy2⟩, ?_⟩
          all_goals exact (((((L9.out.setCell (p := ⟨w.heap.size, 0, none⟩) (Nat.le_refl _) _).setCell (p := ⟨w.heap.size, 1, none⟩) (Nat.le_refl _) _).setCell (p := ⟨w.heap.size, 2, none⟩) (Nat.le_refl _) _).setCell (p := ⟨w.heap.size, 3, none⟩) (Nat.le_refl _) _).setCell (p := ⟨w.heap.size, 4, none⟩) (Nat.le_refl _) _)
      · have e2 : (m == 2) = false := by simpa using m2
        by_cases m3 : m = 3
        · subst m3
          have kA : Hid (Rd r (w4.alloc (.cells #[.int .i64 (-1), .int .i64 4] 2))) := rd_alloc K4.out _
          have hne : w4.heap.size ≠ r := by have := K4.out.lt; omega
          have SA : Hid (SY (w4.alloc (.cells #[.int .i64 (-1), .int .i64 4] 2)) b d f l k p) := S4.out.on ((Below.refl _ _).alloc (Nat.le_refl _) _) S4.out.lt
          have AA : Hid (SY (w4.alloc (.cells #[.int .i64 (-1), .int .i64 4] 2)) w.heap.size 0 0 0 0 0) := A4.out.on ((Below.refl _ _).alloc (Nat.le_refl _) _) A4.out.lt
          have LA : Hid (Below w.heap.size w (w4.alloc (.cells #[.int .i64 (-1), .int .i64 4] 2))) := L4.out.alloc L4.out.size _
          go_wp2_with fail
          refine (below_any r _ kA.out 2 (by omega) (by omega)).mono ?_
          rintro e w5 ⟨⟨y, ⟨hy1, hy2⟩, rfl⟩, k5, t5⟩
          have c0 : w5.cell? ⟨w4.heap.size, 0, none⟩ = some (.int .i64 (-1)) := (t5.cell 0 (by simp) hne).trans (by simp [go_sem])
          have c1 : w5.cell? ⟨w4.heap.size, 1, none⟩ = some (.int .i64 4) := (t5.cell 1 (by simp) hne).trans (by simp [go_sem])
          have S5 : Hid (SY w5 b d f l k p) := blk_turn SA.out t5 (by omega)
          have A5 : Hid (SY w5 w.heap.size 0 0 0 0 0) := blk_turn AA.out t5 ar
          have K5 : Hid (Rd r w5) := k5
          have L5 : Hid (Below w.heap.size w w5) := LA.out.trans (t5.bel.mono (Nat.le_of_lt rl))
          clear k5 t5 kA SA AA LA K4 A4 S4 L4
          obtain ⟨s0, s1, s2, s3, s4, sf⟩ := S5.out.cells
          have sg := sf 3
          clear sf
          have SN : Hid (∀ z : Int, SY (w5.setCell ⟨b, 3, none⟩ (.int .i64 z)) b d f l z p) := fun z => S5.out.s3 z
          have AN : Hid (∀ z : Int, SY (w5.setCell ⟨b, 3, none⟩ (.int .i64 z)) w.heap.size 0 0 0 0 0) := fun z => A5.out.keep (by omega) 3 _
          have RN : Hid (∀ z : Int, Rd r (w5.setCell ⟨b, 3, none⟩ (.int .i64 z))) := fun z => rd_set rb K5.out 3 _
          have LN : Hid (∀ z : Int, Below w.heap.size w (w5.setCell ⟨b, 3, none⟩ (.int .i64 z))) := fun z => L5.out.setCell (p := ⟨b, 3, none⟩) (by show _ ≤ b; omega) _
          rcases (by omega : y = 0 ∨ y = 1) with rfl | rfl
          · obtain ⟨wd, hwd⟩ : ∃ wd, wd = w5.setCell ⟨b, 3, none⟩ (.int .i64 (-1)) := ⟨_, rfl⟩
            have HWD : Hid (wd = w5.setCell ⟨b, 3, none⟩ (.int .i64 (-1))) := hwd
            have S6 : Hid (SY wd b d f l (-1) p) := (by show SY _ _ _ _ _ _ _; rw [hwd]; exact SN.out _)
            have A6 : Hid (SY wd w.heap.size 0 0 0 0 0) := (by show SY _ _ _ _ _ _ _; rw [hwd]; exact AN.out _)
            have K6 : Hid (Rd r wd) := (by show Rd _ _; rw [hwd]; exact RN.out _)
            have L6 : Hid (Below w.heap.size w wd) := (by show Below _ _ _; rw [hwd]; exact LN.out _)
            clear hwd SN AN RN LN S5 A5 K5 L5
            go_upto_region 12 with fail
            rw [← HWD.out]
            clear HWD s0 s1 s2 s3 s4 sg c0 c1
            obtain ⟨c0, c1, c2, c3, c4, -⟩ := S6.out.cells
            have B5 : Hid (∀ n, Calls Tryd.prog 25 #[.pointer (some ⟨r, 0, none⟩), .int .i64 5] (wd.drewN n) (Drawn r (wd.drewN n) fun u => 0 ≤ u ∧ u < 5)) := fun n => below_any r _ (K6.out.drewN n) 5 (by omega) (by omega)
            go_region_with (go_at_call 25; refine (B5.out 1).mono ?_; rintro e w9 ⟨⟨y, ⟨hy1, hy2⟩, rfl⟩, k9, t9⟩; have S9 := blk_turn (w := wd.drewN 1) S6.out t9 (by omega); have A9 := blk_turn (w := wd.drewN 1) A6.out t9 ar; have L9 : Hid (Below w.heap.size w w9) := L6.out.trans ((Go.Proofs.YtnbhfjcpimdnlaaDoor.Rd.below_drewN (Below.refl w.heap.size wd) 1).trans (t9.bel.mono (Nat.le_of_lt rl))); obtain ⟨s0, s1, s2, s3, s4, -⟩ := SY.cells S9; obtain ⟨a0, a1, a2, a3, a4, af⟩ := SY.cells A9; have g0 := af 0; have g1 := af 1; have g2 := af 2; have g3 := af 3; have g4 := af 4; clear af t9 k9)
            all_goals go_wp2_with fail
            all_goals refine bodyPost_ret (v := .tuple #[.agg #[.int .i64 d, .int .i64 f, .int .i64 l, .int .i64 (-1), .int .i64 p], .int .i64 y]) (by simp [results, Tryd.results9, go_sem, a0, a1, a2, a3, a4]) rfl ⟨⟨_, _, _, _, _, y, rfl, hy1, hy2⟩, ?_⟩
            all_goals exact (((((L9.out.setCell (p := ⟨w.heap.size, 0, none⟩) (Nat.le_refl _) _).setCell (p := ⟨w.heap.size, 1, none⟩) (Nat.le_refl _) _).setCell (p := ⟨w.heap.size, 2, none⟩) (Nat.le_refl _) _).setCell (p := ⟨w.heap.size, 3, none⟩) (Nat.le_refl _) _).setCell (p := ⟨w.heap.size, 4, none⟩) (Nat.le_refl _) _)
          · obtain ⟨wd, hwd⟩ : ∃ wd, wd = w5.setCell ⟨b, 3, none⟩ (.int .i64 4) := ⟨_, rfl⟩
            have HWD : Hid (wd = w5.setCell ⟨b, 3, none⟩ (.int .i64 4)) := hwd
            have S6 : Hid (SY wd b d f l 4 p) := (by show SY _ _ _ _ _ _ _; rw [hwd]; exact SN.out _)
            have A6 : Hid (SY wd w.heap.size 0 0 0 0 0) := (by show SY _ _ _ _ _ _ _; rw [hwd]; exact AN.out _)
            have K6 : Hid (Rd r wd) := (by show Rd _ _; rw [hwd]; exact RN.out _)
            have L6 : Hid (Below w.heap.size w wd) := (by show Below _ _ _; rw [hwd]; exact LN.out _)
            clear hwd SN AN RN LN S5 A5 K5 L5
            go_upto_region 12 with fail
            rw [← HWD.out]
            clear HWD s0 s1 s2 s3 s4 sg c0 c1
            obtain ⟨c0, c1, c2, c3, c4, -⟩ := S6.out.cells
            have B5 : Hid (∀ n, Calls Tryd.prog 25 #[.pointer (some ⟨r, 0, none⟩), .int .i64 5] (wd.drewN n) (Drawn r (wd.drewN n) fun u => 0 ≤ u ∧ u < 5)) := fun n => below_any r _ (K6.out.drewN n) 5 (by omega) (by omega)
            go_region_with (go_at_call 25; refine (B5.out 1).mono ?_; rintro e w9 ⟨⟨y, ⟨hy1, hy2⟩, rfl⟩, k9, t9⟩; have S9 := blk_turn (w := wd.drewN 1) S6.out t9 (by omega); have A9 := blk_turn (w := wd.drewN 1) A6.out t9 ar; have L9 : Hid (Below w.heap.size w w9) := L6.out.trans ((Go.Proofs.YtnbhfjcpimdnlaaDoor.Rd.below_drewN (Below.refl w.heap.size wd) 1).trans (t9.bel.mono (Nat.le_of_lt rl))); obtain ⟨s0, s1, s2, s3, s4, -⟩ := SY.cells S9; obtain ⟨a0, a1, a2, a3, a4, af⟩ := SY.cells A9; have g0 := af 0; have g1 := af 1; have g2 := af 2; have g3 := af 3; have g4 := af 4; clear af t9 k9)
            all_goals go_wp2_with fail
            all_goals refine bodyPost_ret (v := .tuple #[.agg #[.int .i64 d, .int .i64 f, .int .i64 l, .int .i64 4, .int .i64 p], .int .i64 y]) (by simp [results, Tryd.results9, go_sem, a0, a1, a2, a3, a4]) rfl ⟨⟨_, _, _, _, _, y, rfl, hy1, hy2⟩, ?_⟩
            all_goals exact (((((L9.out.setCell (p := ⟨w.heap.size, 0, none⟩) (Nat.le_refl _) _).setCell (p := ⟨w.heap.size, 1, none⟩) (Nat.le_refl _) _).setCell (p := ⟨w.heap.size, 2, none⟩) (Nat.le_refl _) _).setCell (p := ⟨w.heap.size, 3, none⟩) (Nat.le_refl _) _).setCell (p := ⟨w.heap.size, 4, none⟩) (Nat.le_refl _) _)
        · have e3 : (m == 3) = false := by simpa using m3
          obtain ⟨wd, hwd⟩ : ∃ wd, wd = w4 := ⟨_, rfl⟩
          subst hwd
          go_upto_region 12 with fail
          obtain ⟨c0, c1, c2, c3, c4, -⟩ := S4.out.cells
          have B5 : Hid (∀ n, Calls Tryd.prog 25 #[.pointer (some ⟨r, 0, none⟩), .int .i64 5] (wd.drewN n) (Drawn r (wd.drewN n) fun u => 0 ≤ u ∧ u < 5)) := fun n => below_any r _ (K4.out.drewN n) 5 (by omega) (by omega)
          go_region_with (go_at_call 25; refine (B5.out 1).mono ?_; rintro e w9 ⟨⟨y, ⟨hy1, hy2⟩, rfl⟩, k9, t9⟩; have S9 := blk_turn (w := wd.drewN 1) S4.out t9 (by omega); have A9 := blk_turn (w := wd.drewN 1) A4.out t9 ar; have L9 : Hid (Below w.heap.size w w9) := L4.out.trans ((Go.Proofs.YtnbhfjcpimdnlaaDoor.Rd.below_drewN (Below.refl w.heap.size wd) 1).trans (t9.bel.mono (Nat.le_of_lt rl))); obtain ⟨s0, s1, s2, s3, s4, -⟩ := SY.cells S9; obtain ⟨a0, a1, a2, a3, a4, af⟩ := SY.cells A9; have g0 := af 0; have g1 := af 1; have g2 := af 2; have g3 := af 3; have g4 := af 4; clear af t9 k9)
          all_goals go_wp2_with fail
          all_goals refine bodyPost_ret (v := .tuple #[.agg #[.int .i64 d, .int .i64 f, .int .i64 l, .int .i64 k, .int .i64 p], .int .i64 y]) (by simp [results, Tryd.results9, go_sem, a0, a1, a2, a3, a4]) rfl ⟨⟨_, _, _, _, _, y, rfl, hy1, hy2⟩, ?_⟩
          all_goals exact (((((L9.out.setCell (p := ⟨w.heap.size, 0, none⟩) (Nat.le_refl _) _).setCell (p := ⟨w.heap.size, 1, none⟩) (Nat.le_refl _) _).setCell (p := ⟨w.heap.size, 2, none⟩) (Nat.le_refl _) _).setCell (p := ⟨w.heap.size, 3, none⟩) (Nat.le_refl _) _).setCell (p := ⟨w.heap.size, 4, none⟩) (Nat.le_refl _) _)
end Go.Proofs.YtnbhfjcpimdnlaaDoor.Ph
