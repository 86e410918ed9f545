/- A heading, right or not, drawn of a code. -/
import Derived.Test.YtepofpmdkphhdaaDoorHg
namespace Go.Proofs.YtepofpmdkphhdaaDoor.Hd
open Go.ChangeShapes Go.WideShapes Go.ChangeAt Go.RowKit
open Go.Proofs.YtepofpmdkphhdaaDoor.Rd Mk Fig Head
theorem done_all {w wx : World} {x0 x1 : ByteArray} {x2 : Int} {x3 : ByteArray} {x4 x5 x6 : Int} {x7 : ByteArray} (B : HB wx w.heap.size x0 x1 x2 x3 x4 x5 x6 x7) (t : Below w.heap.size w wx) (K A : ByteArray) (n : Int) (C : ByteArray) (d h m : Int) (M : ByteArray) :
    HB ((((((((wx.setCell ⟨w.heap.size, 0, none⟩ (.string K)).setCell ⟨w.heap.size, 1, none⟩ (.string A)).setCell ⟨w.heap.size, 2, none⟩ (.int .i64 n)).setCell ⟨w.heap.size, 3, none⟩ (.string C)).setCell ⟨w.heap.size, 4, none⟩ (.int .i64 d)).setCell ⟨w.heap.size, 5, none⟩ (.int .i64 h)).setCell ⟨w.heap.size, 6, none⟩ (.int .i64 m)).setCell ⟨w.heap.size, 7, none⟩ (.string M)) w.heap.size K A n C d h m M ∧ Below w.heap.size w ((((((((wx.setCell ⟨w.heap.size, 0, none⟩ (.string K)).setCell ⟨w.heap.size, 1, none⟩ (.string A)).setCell ⟨w.heap.size, 2, none⟩ (.int .i64 n)).setCell ⟨w.heap.size, 3, none⟩ (.string C)).setCell ⟨w.heap.size, 4, none⟩ (.int .i64 d)).setCell ⟨w.heap.size, 5, none⟩ (.int .i64 h)).setCell ⟨w.heap.size, 6, none⟩ (.int .i64 m)).setCell ⟨w.heap.size, 7, none⟩ (.string M)) := by
  have g : w.heap.size ≤ w.heap.size := Nat.le_refl _
  refine ⟨B.all K A n C d h m M, ?_⟩
  exact (((((((t.setCell (p := ⟨w.heap.size, 0, none⟩) g _).setCell (p := ⟨w.heap.size, 1, none⟩) g _).setCell (p := ⟨w.heap.size, 2, none⟩) g _).setCell (p := ⟨w.heap.size, 3, none⟩) g _).setCell (p := ⟨w.heap.size, 4, none⟩) g _).setCell (p := ⟨w.heap.size, 5, none⟩) g _).setCell (p := ⟨w.heap.size, 6, none⟩) g _).setCell (p := ⟨w.heap.size, 7, none⟩) g _
set_option maxRecDepth 20000 in
set_option maxHeartbeats 8000000 in
theorem drawh_any (a : Option Addr) (n0 cap : Nat) (w : World) (hc : Rd.Code w a n0 cap) (hn0 : n0 ≤ 1048576) (FZ : Hid (∀ (K A : ByteArray) (n : Int) (C : ByteArray) (d h m : Int) (M : ByteArray), fault K A n C d h m M = 0 → K.size ≤ 4 ∧ A.size ≤ 4)) :
    Calls Tryd.prog 5 #[.slice a n0 cap] w fun e w' => ∃ (K A : ByteArray) (n : Int) (C : ByteArray) (d h m : Int) (M : ByteArray), e = .returned (hd K A n C d h m M) ∧ K.size ≤ 4 ∧ A.size ≤ 4 ∧ Below w.heap.size w w' := by
  obtain ⟨w0, hw0⟩ : ∃ w0, w0 = w.alloc oH := ⟨_, rfl⟩
  have HW0 : Hid (w0 = w.alloc oH) := hw0
  have B0 : Below w.heap.size w w0 := by rw [hw0]; exact (Below.refl _ _).alloc (Nat.le_refl _) _
  have A0 : HB w0 w.heap.size E E 0 E 0 0 0 E := by rw [hw0]; exact heap_alloc_new w _
  have z0 : w0.heap.size = w.heap.size + 1 := by rw [hw0]; simp
  have OP : Hid (Calls Tryd.prog 11 #[.slice a n0 cap] w0 fun e w' => e = .returned (.pointer (some ⟨w0.heap.size, 0, none⟩)) ∧ w' = w0.alloc (.cells #[.slice a n0 cap, .int .i64 0] 52)) := open_any _ a n0 cap rfl w0
  have K0 : Rd w0.heap.size (w0.alloc (.cells #[.slice a n0 cap, .int .i64 0] 52)) := Rd.new hc hn0 B0
  obtain ⟨w1, hw1⟩ : ∃ w1, w1 = w0.alloc (.cells #[.slice a n0 cap, .int .i64 0] 52) := ⟨_, rfl⟩
  rw [← hw1] at OP K0
  have A1 : HB w1 w.heap.size E E 0 E 0 0 0 E := by rw [hw1]; exact blk_alloc A0 _
  have B1 : Below w.heap.size w w1 := by rw [hw1]; exact B0.alloc B0.size _
  clear hc hw0 hw1 A0 B0
  obtain ⟨r, hrr⟩ : ∃ r, r = w0.heap.size := ⟨_, rfl⟩
  rw [← hrr] at OP K0
  have rl : w.heap.size < r := by omega
  have ar : w.heap.size ≠ r := by omega
  clear hrr z0
  go_enter Tryd.func5, Tryd.ntmps5
  go_wp2_with fail
  rw [← HW0.out]
  refine OP.out.mono ?_
  rintro e w1' ⟨rfl, hw⟩
  subst hw
  clear OP
  go_wp2_with fail
  refine (heading_any r _ K0).mono ?_
  rintro e w2 ⟨⟨K, A, n, C, d, h, m, M, rfl, hz⟩, k2, t2⟩
  have SZ : Hid (K.size ≤ 4 ∧ A.size ≤ 4) := FZ.out K A n C d h m M hz
  obtain ⟨w3, hw3⟩ : ∃ w3, w3 = w2.alloc (.cells #[.string K, .string A, .int .i64 n, .string C, .int .i64 d, .int .i64 h, .int .i64 m, .string M] 25) := ⟨_, rfl⟩
  have HW3 : Hid (w3 = w2.alloc (.cells #[.string K, .string A, .int .i64 n, .string C, .int .i64 d, .int .i64 h, .int .i64 m, .string M] 25)) := hw3
  have A3 : HB w3 w.heap.size E E 0 E 0 0 0 E := by rw [hw3]; exact blk_alloc (blk_turn A1 t2 ar) _
  have B3 : HB w3 w2.heap.size K A n C d h m M := by rw [hw3]; exact heap_alloc_new w2 _
  have b2 : Below w.heap.size w w2 := B1.trans (t2.bel.mono (Nat.le_of_lt rl))
  have L3 : Below w.heap.size w w3 := by rw [hw3]; exact b2.alloc b2.size _
  have K3 : Rd r w3 := by rw [hw3]; exact k2.kept ((Below.refl (r + 1) w2).alloc (by have := k2.lt; omega) _) (by omega)
  have gr0 : w2.heap.size ≠ r := by have := k2.lt; omega
  have gl0 : w.heap.size < w2.heap.size := by have := k2.lt; omega
  clear k2 t2 A1 B1 K0 hz hw3 b2 FZ
  go_upto_region 3 with fail
  rw [← HW3.out]
  clear HW3 HW0
  obtain ⟨g, hg⟩ : ∃ g, g = w2.heap.size := ⟨_, rfl⟩
  rw [← hg] at B3 gr0 gl0 ⊢
  clear hg
  go_wp2_with fail
  refine (below_any r _ K3 16 (by omega) (by omega)).mono ?_
  rintro e w4 ⟨⟨u, ⟨hu1, hu2⟩, rfl⟩, K4, t4⟩
  have gr : g ≠ r := gr0
  have gne : w.heap.size ≠ g := by omega
  have A4 : HB w4 w.heap.size E E 0 E 0 0 0 E := blk_turn A3 t4 ar
  have B4 : HB w4 g K A n C d h m M := blk_turn B3 t4 gr
  have L4 : Below w.heap.size w w4 := L3.trans (t4.bel.mono (Nat.le_of_lt rl))
  clear A3 B3 L3 K3 t4 gr0
  by_cases u0 : u = 0
  · subst u0
    have kA : Hid (Rd r (w4.alloc (.cells #[.string ⟨#[83]⟩, .string ⟨#[83, 77, 77]⟩, .string ⟨#[115, 109]⟩, .string ⟨#[]⟩] 9))) := K4.kept ((Below.refl w4.heap.size w4).alloc (Nat.le_refl _) _) K4.lt
    have hne : w4.heap.size ≠ r := by have := K4.lt; omega
    go_wp2_with fail
    refine (below_any r _ kA.out 4 (by omega) (by omega)).mono ?_
    rintro e w5 ⟨⟨y, ⟨hy1, hy2⟩, rfl⟩, k5, t5⟩
    have c0 : w5.cell? ⟨w4.heap.size, 0, none⟩ = some (.string ⟨#[83]⟩) := (t5.cell 0 (by simp) hne).trans (by simp [go_sem])
    have c1 : w5.cell? ⟨w4.heap.size, 1, none⟩ = some (.string ⟨#[83, 77, 77]⟩) := (t5.cell 1 (by simp) hne).trans (by simp [go_sem])
    have c2 : w5.cell? ⟨w4.heap.size, 2, none⟩ = some (.string ⟨#[115, 109]⟩) := (t5.cell 2 (by simp) hne).trans (by simp [go_sem])
    have c3 : w5.cell? ⟨w4.heap.size, 3, none⟩ = some (.string ⟨#[]⟩) := (t5.cell 3 (by simp) hne).trans (by simp [go_sem])
    have B5 : HB w5 g K A n C d h m M := blk_turn (blk_alloc B4 _) t5 gr
    have A5 : HB w5 w.heap.size E E 0 E 0 0 0 E := blk_turn (blk_alloc A4 _) t5 ar
    have L5 : Below w.heap.size w w5 := (L4.alloc L4.size _).trans (t5.bel.mono (Nat.le_of_lt rl))
    clear k5 t5 kA A4 B4 L4 K4
    rcases (by omega : y = 0 ∨ y = 1 ∨ y = 2 ∨ y = 3) with rfl | rfl | rfl | rfl
    · obtain ⟨w9, hw9⟩ : ∃ x, x = w5.setCell ⟨g, 0, none⟩ (.string (⟨#[83]⟩ : ByteArray)) := ⟨_, rfl⟩
      have HW9 : Hid (w9 = w5.setCell ⟨g, 0, none⟩ (.string (⟨#[83]⟩ : ByteArray))) := hw9
      have B9 : HB w9 g (⟨#[83]⟩ : ByteArray) A n C d h m M := by rw [hw9]; exact B5.s0 _
      have A9 : HB w9 w.heap.size E E 0 E 0 0 0 E := by rw [hw9]; exact A5.keep gne _ _
      have L9 : Below w.heap.size w w9 := by rw [hw9]; exact L5.setCell (p := ⟨g, 0, none⟩) (by show w.heap.size ≤ g; omega) _
      obtain ⟨e0, e1, e2, e3, e4, e5, e6, e7, ef⟩ := B5.cells
      have f0 := ef 0
      go_upto_region 18 with fail
      clear hw9
      rw [← HW9.out]
      clear e0 e1 e2 e3 e4 e5 e6 e7 ef f0
      obtain ⟨e0, e1, e2, e3, e4, e5, e6, e7, -⟩ := B9.cells
      obtain ⟨a0, a1, a2, a3, a4, a5, a6, a7, af⟩ := A9.cells
      have g0 := af 0; have g1 := af 1; have g2 := af 2; have g3 := af 3; have g4 := af 4; have g5 := af 5; have g6 := af 6; have g7 := af 7
      have FI : Hid (HB ((((((((w9.setCell ⟨w.heap.size, 0, none⟩ (.string (⟨#[83]⟩ : ByteArray))).setCell ⟨w.heap.size, 1, none⟩ (.string A)).setCell ⟨w.heap.size, 2, none⟩ (.int .i64 n)).setCell ⟨w.heap.size, 3, none⟩ (.string C)).setCell ⟨w.heap.size, 4, none⟩ (.int .i64 d)).setCell ⟨w.heap.size, 5, none⟩ (.int .i64 h)).setCell ⟨w.heap.size, 6, none⟩ (.int .i64 m)).setCell ⟨w.heap.size, 7, none⟩ (.string M)) w.heap.size (⟨#[83]⟩ : ByteArray) A n C d h m M ∧ Below w.heap.size w ((((((((w9.setCell ⟨w.heap.size, 0, none⟩ (.string (⟨#[83]⟩ : ByteArray))).setCell ⟨w.heap.size, 1, none⟩ (.string A)).setCell ⟨w.heap.size, 2, none⟩ (.int .i64 n)).setCell ⟨w.heap.size, 3, none⟩ (.string C)).setCell ⟨w.heap.size, 4, none⟩ (.int .i64 d)).setCell ⟨w.heap.size, 5, none⟩ (.int .i64 h)).setCell ⟨w.heap.size, 6, none⟩ (.int .i64 m)).setCell ⟨w.heap.size, 7, none⟩ (.string M))) := done_all A9 L9 (⟨#[83]⟩ : ByteArray) A n C d h m M
      clear af
      go_wp2_with fail
      exact bodyPost_ret (v := hd (⟨#[83]⟩ : ByteArray) A n C d h m M) (results_cell_row Tryd.results5 _ _ w.heap.size 25 _ (0, 0) _ rfl FI.out.1 Tryd.underlying25 rfl size25) rfl ⟨(⟨#[83]⟩ : ByteArray), A, n, C, d, h, m, M, rfl, by decide, SZ.out.2, FI.out.2⟩
    · obtain ⟨w9, hw9⟩ : ∃ x, x = w5.setCell ⟨g, 0, none⟩ (.string (⟨#[83, 77, 77]⟩ : ByteArray)) := ⟨_, rfl⟩
      have HW9 : Hid (w9 = w5.setCell ⟨g, 0, none⟩ (.string (⟨#[83, 77, 77]⟩ : ByteArray))) := hw9
      have B9 : HB w9 g (⟨#[83, 77, 77]⟩ : ByteArray) A n C d h m M := by rw [hw9]; exact B5.s0 _
      have A9 : HB w9 w.heap.size E E 0 E 0 0 0 E := by rw [hw9]; exact A5.keep gne _ _
      have L9 : Below w.heap.size w w9 := by rw [hw9]; exact L5.setCell (p := ⟨g, 0, none⟩) (by show w.heap.size ≤ g; omega) _
      obtain ⟨e0, e1, e2, e3, e4, e5, e6, e7, ef⟩ := B5.cells
      have f0 := ef 0
      go_upto_region 18 with fail
      clear hw9
      rw [← HW9.out]
      clear e0 e1 e2 e3 e4 e5 e6 e7 ef f0
      obtain ⟨e0, e1, e2, e3, e4, e5, e6, e7, -⟩ := B9.cells
      obtain ⟨a0, a1, a2, a3, a4, a5, a6, a7, af⟩ := A9.cells
      have g0 := af 0; have g1 := af 1; have g2 := af 2; have g3 := af 3; have g4 := af 4; have g5 := af 5; have g6 := af 6; have g7 := af 7
      have FI : Hid (HB ((((((((w9.setCell ⟨w.heap.size, 0, none⟩ (.string (⟨#[83, 77, 77]⟩ : ByteArray))).setCell ⟨w.heap.size, 1, none⟩ (.string A)).setCell ⟨w.heap.size, 2, none⟩ (.int .i64 n)).setCell ⟨w.heap.size, 3, none⟩ (.string C)).setCell ⟨w.heap.size, 4, none⟩ (.int .i64 d)).setCell ⟨w.heap.size, 5, none⟩ (.int .i64 h)).setCell ⟨w.heap.size, 6, none⟩ (.int .i64 m)).setCell ⟨w.heap.size, 7, none⟩ (.string M)) w.heap.size (⟨#[83, 77, 77]⟩ : ByteArray) A n C d h m M ∧ Below w.heap.size w ((((((((w9.setCell ⟨w.heap.size, 0, none⟩ (.string (⟨#[83, 77, 77]⟩ : ByteArray))).setCell ⟨w.heap.size, 1, none⟩ (.string A)).setCell ⟨w.heap.size, 2, none⟩ (.int .i64 n)).setCell ⟨w.heap.size, 3, none⟩ (.string C)).setCell ⟨w.heap.size, 4, none⟩ (.int .i64 d)).setCell ⟨w.heap.size, 5, none⟩ (.int .i64 h)).setCell ⟨w.heap.size, 6, none⟩ (.int .i64 m)).setCell ⟨w.heap.size, 7, none⟩ (.string M))) := done_all A9 L9 (⟨#[83, 77, 77]⟩ : ByteArray) A n C d h m M
      clear af
      go_wp2_with fail
      exact bodyPost_ret (v := hd (⟨#[83, 77, 77]⟩ : ByteArray) A n C d h m M) (results_cell_row Tryd.results5 _ _ w.heap.size 25 _ (0, 0) _ rfl FI.out.1 Tryd.underlying25 rfl size25) rfl ⟨(⟨#[83, 77, 77]⟩ : ByteArray), A, n, C, d, h, m, M, rfl, by decide, SZ.out.2, FI.out.2⟩
    · obtain ⟨w9, hw9⟩ : ∃ x, x = w5.setCell ⟨g, 0, none⟩ (.string (⟨#[115, 109]⟩ : ByteArray)) := ⟨_, rfl⟩
      have HW9 : Hid (w9 = w5.setCell ⟨g, 0, none⟩ (.string (⟨#[115, 109]⟩ : ByteArray))) := hw9
      have B9 : HB w9 g (⟨#[115, 109]⟩ : ByteArray) A n C d h m M := by rw [hw9]; exact B5.s0 _
      have A9 : HB w9 w.heap.size E E 0 E 0 0 0 E := by rw [hw9]; exact A5.keep gne _ _
      have L9 : Below w.heap.size w w9 := by rw [hw9]; exact L5.setCell (p := ⟨g, 0, none⟩) (by show w.heap.size ≤ g; omega) _
      obtain ⟨e0, e1, e2, e3, e4, e5, e6, e7, ef⟩ := B5.cells
      have f0 := ef 0
      go_upto_region 18 with fail
      clear hw9
      rw [← HW9.out]
      clear e0 e1 e2 e3 e4 e5 e6 e7 ef f0
      obtain ⟨e0, e1, e2, e3, e4, e5, e6, e7, -⟩ := B9.cells
      obtain ⟨a0, a1, a2, a3, a4, a5, a6, a7, af⟩ := A9.cells
      have g0 := af 0; have g1 := af 1; have g2 := af 2; have g3 := af 3; have g4 := af 4; have g5 := af 5; have g6 := af 6; have g7 := af 7
      have FI : Hid (HB ((((((((w9.setCell ⟨w.heap.size, 0, none⟩ (.string (⟨#[115, 109]⟩ : ByteArray))).setCell ⟨w.heap.size, 1, none⟩ (.string A)).setCell ⟨w.heap.size, 2, none⟩ (.int .i64 n)).setCell ⟨w.heap.size, 3, none⟩ (.string C)).setCell ⟨w.heap.size, 4, none⟩ (.int .i64 d)).setCell ⟨w.heap.size, 5, none⟩ (.int .i64 h)).setCell ⟨w.heap.size, 6, none⟩ (.int .i64 m)).setCell ⟨w.heap.size, 7, none⟩ (.string M)) w.heap.size (⟨#[115, 109]⟩ : ByteArray) A n C d h m M ∧ Below w.heap.size w ((((((((w9.setCell ⟨w.heap.size, 0, none⟩ (.string (⟨#[115, 109]⟩ : ByteArray))).setCell ⟨w.heap.size, 1, none⟩ (.string A)).setCell ⟨w.heap.size, 2, none⟩ (.int .i64 n)).setCell ⟨w.heap.size, 3, none⟩ (.string C)).setCell ⟨w.heap.size, 4, none⟩ (.int .i64 d)).setCell ⟨w.heap.size, 5, none⟩ (.int .i64 h)).setCell ⟨w.heap.size, 6, none⟩ (.int .i64 m)).setCell ⟨w.heap.size, 7, none⟩ (.string M))) := done_all A9 L9 (⟨#[115, 109]⟩ : ByteArray) A n C d h m M
      clear af
      go_wp2_with fail
      exact bodyPost_ret (v := hd (⟨#[115, 109]⟩ : ByteArray) A n C d h m M) (results_cell_row Tryd.results5 _ _ w.heap.size 25 _ (0, 0) _ rfl FI.out.1 Tryd.underlying25 rfl size25) rfl ⟨(⟨#[115, 109]⟩ : ByteArray), A, n, C, d, h, m, M, rfl, by decide, SZ.out.2, FI.out.2⟩
    · obtain ⟨w9, hw9⟩ : ∃ x, x = w5.setCell ⟨g, 0, none⟩ (.string (⟨#[]⟩ : ByteArray)) := ⟨_, rfl⟩
      have HW9 : Hid (w9 = w5.setCell ⟨g, 0, none⟩ (.string (⟨#[]⟩ : ByteArray))) := hw9
      have B9 : HB w9 g (⟨#[]⟩ : ByteArray) A n C d h m M := by rw [hw9]; exact B5.s0 _
      have A9 : HB w9 w.heap.size E E 0 E 0 0 0 E := by rw [hw9]; exact A5.keep gne _ _
      have L9 : Below w.heap.size w w9 := by rw [hw9]; exact L5.setCell (p := ⟨g, 0, none⟩) (by show w.heap.size ≤ g; omega) _
      obtain ⟨e0, e1, e2, e3, e4, e5, e6, e7, ef⟩ := B5.cells
      have f0 := ef 0
      go_upto_region 18 with fail
      clear hw9
      rw [← HW9.out]
      clear e0 e1 e2 e3 e4 e5 e6 e7 ef f0
      obtain ⟨e0, e1, e2, e3, e4, e5, e6, e7, -⟩ := B9.cells
      obtain ⟨a0, a1, a2, a3, a4, a5, a6, a7, af⟩ := A9.cells
      have g0 := af 0; have g1 := af 1; have g2 := af 2; have g3 := af 3; have g4 := af 4; have g5 := af 5; have g6 := af 6; have g7 := af 7
      have FI : Hid (HB ((((((((w9.setCell ⟨w.heap.size, 0, none⟩ (.string (⟨#[]⟩ : ByteArray))).setCell ⟨w.heap.size, 1, none⟩ (.string A)).setCell ⟨w.heap.size, 2, none⟩ (.int .i64 n)).setCell ⟨w.heap.size, 3, none⟩ (.string C)).setCell ⟨w.heap.size, 4, none⟩ (.int .i64 d)).setCell ⟨w.heap.size, 5, none⟩ (.int .i64 h)).setCell ⟨w.heap.size, 6, none⟩ (.int .i64 m)).setCell ⟨w.heap.size, 7, none⟩ (.string M)) w.heap.size (⟨#[]⟩ : ByteArray) A n C d h m M ∧ Below w.heap.size w ((((((((w9.setCell ⟨w.heap.size, 0, none⟩ (.string (⟨#[]⟩ : ByteArray))).setCell ⟨w.heap.size, 1, none⟩ (.string A)).setCell ⟨w.heap.size, 2, none⟩ (.int .i64 n)).setCell ⟨w.heap.size, 3, none⟩ (.string C)).setCell ⟨w.heap.size, 4, none⟩ (.int .i64 d)).setCell ⟨w.heap.size, 5, none⟩ (.int .i64 h)).setCell ⟨w.heap.size, 6, none⟩ (.int .i64 m)).setCell ⟨w.heap.size, 7, none⟩ (.string M))) := done_all A9 L9 (⟨#[]⟩ : ByteArray) A n C d h m M
      clear af
      go_wp2_with fail
      exact bodyPost_ret (v := hd (⟨#[]⟩ : ByteArray) A n C d h m M) (results_cell_row Tryd.results5 _ _ w.heap.size 25 _ (0, 0) _ rfl FI.out.1 Tryd.underlying25 rfl size25) rfl ⟨(⟨#[]⟩ : ByteArray), A, n, C, d, h, m, M, rfl, by decide, SZ.out.2, FI.out.2⟩
  by_cases u1 : u = 1
  · subst u1
    obtain ⟨w9, hw9⟩ : ∃ x, x = w4.setCell ⟨g, 1, none⟩ (.string (⟨#[49, 76]⟩ : ByteArray)) := ⟨_, rfl⟩
    have HW9 : Hid (w9 = w4.setCell ⟨g, 1, none⟩ (.string (⟨#[49, 76]⟩ : ByteArray))) := hw9
    have B9 : HB w9 g K (⟨#[49, 76]⟩ : ByteArray) n C d h m M := by rw [hw9]; exact B4.s1 _
    have A9 : HB w9 w.heap.size E E 0 E 0 0 0 E := by rw [hw9]; exact A4.keep gne _ _
    have L9 : Below w.heap.size w w9 := by rw [hw9]; exact L4.setCell (p := ⟨g, 1, none⟩) (by show w.heap.size ≤ g; omega) _
    obtain ⟨e0, e1, e2, e3, e4, e5, e6, e7, ef⟩ := B4.cells
    have f1 := ef 1
    go_upto_region 18 with fail
    clear hw9
    rw [← HW9.out]
    clear e0 e1 e2 e3 e4 e5 e6 e7 ef f1
    obtain ⟨e0, e1, e2, e3, e4, e5, e6, e7, -⟩ := B9.cells
    obtain ⟨a0, a1, a2, a3, a4, a5, a6, a7, af⟩ := A9.cells
    have g0 := af 0; have g1 := af 1; have g2 := af 2; have g3 := af 3; have g4 := af 4; have g5 := af 5; have g6 := af 6; have g7 := af 7
    have FI : Hid (HB ((((((((w9.setCell ⟨w.heap.size, 0, none⟩ (.string K)).setCell ⟨w.heap.size, 1, none⟩ (.string (⟨#[49, 76]⟩ : ByteArray))).setCell ⟨w.heap.size, 2, none⟩ (.int .i64 n)).setCell ⟨w.heap.size, 3, none⟩ (.string C)).setCell ⟨w.heap.size, 4, none⟩ (.int .i64 d)).setCell ⟨w.heap.size, 5, none⟩ (.int .i64 h)).setCell ⟨w.heap.size, 6, none⟩ (.int .i64 m)).setCell ⟨w.heap.size, 7, none⟩ (.string M)) w.heap.size K (⟨#[49, 76]⟩ : ByteArray) n C d h m M ∧ Below w.heap.size w ((((((((w9.setCell ⟨w.heap.size, 0, none⟩ (.string K)).setCell ⟨w.heap.size, 1, none⟩ (.string (⟨#[49, 76]⟩ : ByteArray))).setCell ⟨w.heap.size, 2, none⟩ (.int .i64 n)).setCell ⟨w.heap.size, 3, none⟩ (.string C)).setCell ⟨w.heap.size, 4, none⟩ (.int .i64 d)).setCell ⟨w.heap.size, 5, none⟩ (.int .i64 h)).setCell ⟨w.heap.size, 6, none⟩ (.int .i64 m)).setCell ⟨w.heap.size, 7, none⟩ (.string M))) := done_all A9 L9 K (⟨#[49, 76]⟩ : ByteArray) n C d h m M
    clear af
    go_wp2_with fail
    exact bodyPost_ret (v := hd K (⟨#[49, 76]⟩ : ByteArray) n C d h m M) (results_cell_row Tryd.results5 _ _ w.heap.size 25 _ (0, 0) _ rfl FI.out.1 Tryd.underlying25 rfl size25) rfl ⟨K, (⟨#[49, 76]⟩ : ByteArray), n, C, d, h, m, M, rfl, SZ.out.1, by decide, FI.out.2⟩
  by_cases u2 : u = 2
  · subst u2
    have kA : Hid (Rd r (w4.alloc (.cells #[.int .i64 (-1), .int .i64 100, .int .i64 99] 2))) := K4.kept ((Below.refl w4.heap.size w4).alloc (Nat.le_refl _) _) K4.lt
    have hne : w4.heap.size ≠ r := by have := K4.lt; omega
    go_wp2_with fail
    refine (below_any r _ kA.out 3 (by omega) (by omega)).mono ?_
    rintro e w5 ⟨⟨y, ⟨hy1, hy2⟩, rfl⟩, k5, t5⟩
    have c0 : w5.cell? ⟨w4.heap.size, 0, none⟩ = some (.int .i64 (-1)) := (t5.cell 0 (by simp) hne).trans (by simp [go_sem])
    have c1 : w5.cell? ⟨w4.heap.size, 1, none⟩ = some (.int .i64 100) := (t5.cell 1 (by simp) hne).trans (by simp [go_sem])
    have c2 : w5.cell? ⟨w4.heap.size, 2, none⟩ = some (.int .i64 99) := (t5.cell 2 (by simp) hne).trans (by simp [go_sem])
    have B5 : HB w5 g K A n C d h m M := blk_turn (blk_alloc B4 _) t5 gr
    have A5 : HB w5 w.heap.size E E 0 E 0 0 0 E := blk_turn (blk_alloc A4 _) t5 ar
    have L5 : Below w.heap.size w w5 := (L4.alloc L4.size _).trans (t5.bel.mono (Nat.le_of_lt rl))
    clear k5 t5 kA A4 B4 L4 K4
    rcases (by omega : y = 0 ∨ y = 1 ∨ y = 2) with rfl | rfl | rfl
    · obtain ⟨w9, hw9⟩ : ∃ x, x = w5.setCell ⟨g, 2, none⟩ (.int .i64 (-1 : Int)) := ⟨_, rfl⟩
      have HW9 : Hid (w9 = w5.setCell ⟨g, 2, none⟩ (.int .i64 (-1 : Int))) := hw9
      have B9 : HB w9 g K A (-1 : Int) C d h m M := by rw [hw9]; exact B5.s2 _
      have A9 : HB w9 w.heap.size E E 0 E 0 0 0 E := by rw [hw9]; exact A5.keep gne _ _
      have L9 : Below w.heap.size w w9 := by rw [hw9]; exact L5.setCell (p := ⟨g, 2, none⟩) (by show w.heap.size ≤ g; omega) _
      obtain ⟨e0, e1, e2, e3, e4, e5, e6, e7, ef⟩ := B5.cells
      have f2 := ef 2
      go_upto_region 18 with fail
      clear hw9
      rw [← HW9.out]
      clear e0 e1 e2 e3 e4 e5 e6 e7 ef f2
      obtain ⟨e0, e1, e2, e3, e4, e5, e6, e7, -⟩ := B9.cells
      obtain ⟨a0, a1, a2, a3, a4, a5, a6, a7, af⟩ := A9.cells
      have g0 := af 0; have g1 := af 1; have g2 := af 2; have g3 := af 3; have g4 := af 4; have g5 := af 5; have g6 := af 6; have g7 := af 7
      have FI : Hid (HB ((((((((w9.setCell ⟨w.heap.size, 0, none⟩ (.string K)).setCell ⟨w.heap.size, 1, none⟩ (.string A)).setCell ⟨w.heap.size, 2, none⟩ (.int .i64 (-1 : Int))).setCell ⟨w.heap.size, 3, none⟩ (.string C)).setCell ⟨w.heap.size, 4, none⟩ (.int .i64 d)).setCell ⟨w.heap.size, 5, none⟩ (.int .i64 h)).setCell ⟨w.heap.size, 6, none⟩ (.int .i64 m)).setCell ⟨w.heap.size, 7, none⟩ (.string M)) w.heap.size K A (-1 : Int) C d h m M ∧ Below w.heap.size w ((((((((w9.setCell ⟨w.heap.size, 0, none⟩ (.string K)).setCell ⟨w.heap.size, 1, none⟩ (.string A)).setCell ⟨w.heap.size, 2, none⟩ (.int .i64 (-1 : Int))).setCell ⟨w.heap.size, 3, none⟩ (.string C)).setCell ⟨w.heap.size, 4, none⟩ (.int .i64 d)).setCell ⟨w.heap.size, 5, none⟩ (.int .i64 h)).setCell ⟨w.heap.size, 6, none⟩ (.int .i64 m)).setCell ⟨w.heap.size, 7, none⟩ (.string M))) := done_all A9 L9 K A (-1 : Int) C d h m M
      clear af
      go_wp2_with fail
      exact bodyPost_ret (v := hd K A (-1 : Int) C d h m M) (results_cell_row Tryd.results5 _ _ w.heap.size 25 _ (0, 0) _ rfl FI.out.1 Tryd.underlying25 rfl size25) rfl ⟨K, A, (-1 : Int), C, d, h, m, M, rfl, SZ.out.1, SZ.out.2, FI.out.2⟩
    · obtain ⟨w9, hw9⟩ : ∃ x, x = w5.setCell ⟨g, 2, none⟩ (.int .i64 (100 : Int)) := ⟨_, rfl⟩
      have HW9 : Hid (w9 = w5.setCell ⟨g, 2, none⟩ (.int .i64 (100 : Int))) := hw9
      have B9 : HB w9 g K A (100 : Int) C d h m M := by rw [hw9]; exact B5.s2 _
      have A9 : HB w9 w.heap.size E E 0 E 0 0 0 E := by rw [hw9]; exact A5.keep gne _ _
      have L9 : Below w.heap.size w w9 := by rw [hw9]; exact L5.setCell (p := ⟨g, 2, none⟩) (by show w.heap.size ≤ g; omega) _
      obtain ⟨e0, e1, e2, e3, e4, e5, e6, e7, ef⟩ := B5.cells
      have f2 := ef 2
      go_upto_region 18 with fail
      clear hw9
      rw [← HW9.out]
      clear e0 e1 e2 e3 e4 e5 e6 e7 ef f2
      obtain ⟨e0, e1, e2, e3, e4, e5, e6, e7, -⟩ := B9.cells
      obtain ⟨a0, a1, a2, a3, a4, a5, a6, a7, af⟩ := A9.cells
      have g0 := af 0; have g1 := af 1; have g2 := af 2; have g3 := af 3; have g4 := af 4; have g5 := af 5; have g6 := af 6; have g7 := af 7
      have FI : Hid (HB ((((((((w9.setCell ⟨w.heap.size, 0, none⟩ (.string K)).setCell ⟨w.heap.size, 1, none⟩ (.string A)).setCell ⟨w.heap.size, 2, none⟩ (.int .i64 (100 : Int))).setCell ⟨w.heap.size, 3, none⟩ (.string C)).setCell ⟨w.heap.size, 4, none⟩ (.int .i64 d)).setCell ⟨w.heap.size, 5, none⟩ (.int .i64 h)).setCell ⟨w.heap.size, 6, none⟩ (.int .i64 m)).setCell ⟨w.heap.size, 7, none⟩ (.string M)) w.heap.size K A (100 : Int) C d h m M ∧ Below w.heap.size w ((((((((w9.setCell ⟨w.heap.size, 0, none⟩ (.string K)).setCell ⟨w.heap.size, 1, none⟩ (.string A)).setCell ⟨w.heap.size, 2, none⟩ (.int .i64 (100 : Int))).setCell ⟨w.heap.size, 3, none⟩ (.string C)).setCell ⟨w.heap.size, 4, none⟩ (.int .i64 d)).setCell ⟨w.heap.size, 5, none⟩ (.int .i64 h)).setCell ⟨w.heap.size, 6, none⟩ (.int .i64 m)).setCell ⟨w.heap.size, 7, none⟩ (.string M))) := done_all A9 L9 K A (100 : Int) C d h m M
      clear af
      go_wp2_with fail
      exact bodyPost_ret (v := hd K A (100 : Int) C d h m M) (results_cell_row Tryd.results5 _ _ w.heap.size 25 _ (0, 0) _ rfl FI.out.1 Tryd.underlying25 rfl size25) rfl ⟨K, A, (100 : Int), C, d, h, m, M, rfl, SZ.out.1, SZ.out.2, FI.out.2⟩
    · obtain ⟨w9, hw9⟩ : ∃ x, x = w5.setCell ⟨g, 2, none⟩ (.int .i64 (99 : Int)) := ⟨_, rfl⟩
      have HW9 : Hid (w9 = w5.setCell ⟨g, 2, none⟩ (.int .i64 (99 : Int))) := hw9
      have B9 : HB w9 g K A (99 : Int) C d h m M := by rw [hw9]; exact B5.s2 _
      have A9 : HB w9 w.heap.size E E 0 E 0 0 0 E := by rw [hw9]; exact A5.keep gne _ _
      have L9 : Below w.heap.size w w9 := by rw [hw9]; exact L5.setCell (p := ⟨g, 2, none⟩) (by show w.heap.size ≤ g; omega) _
      obtain ⟨e0, e1, e2, e3, e4, e5, e6, e7, ef⟩ := B5.cells
      have f2 := ef 2
      go_upto_region 18 with fail
      clear hw9
      rw [← HW9.out]
      clear e0 e1 e2 e3 e4 e5 e6 e7 ef f2
      obtain ⟨e0, e1, e2, e3, e4, e5, e6, e7, -⟩ := B9.cells
      obtain ⟨a0, a1, a2, a3, a4, a5, a6, a7, af⟩ := A9.cells
      have g0 := af 0; have g1 := af 1; have g2 := af 2; have g3 := af 3; have g4 := af 4; have g5 := af 5; have g6 := af 6; have g7 := af 7
      have FI : Hid (HB ((((((((w9.setCell ⟨w.heap.size, 0, none⟩ (.string K)).setCell ⟨w.heap.size, 1, none⟩ (.string A)).setCell ⟨w.heap.size, 2, none⟩ (.int .i64 (99 : Int))).setCell ⟨w.heap.size, 3, none⟩ (.string C)).setCell ⟨w.heap.size, 4, none⟩ (.int .i64 d)).setCell ⟨w.heap.size, 5, none⟩ (.int .i64 h)).setCell ⟨w.heap.size, 6, none⟩ (.int .i64 m)).setCell ⟨w.heap.size, 7, none⟩ (.string M)) w.heap.size K A (99 : Int) C d h m M ∧ Below w.heap.size w ((((((((w9.setCell ⟨w.heap.size, 0, none⟩ (.string K)).setCell ⟨w.heap.size, 1, none⟩ (.string A)).setCell ⟨w.heap.size, 2, none⟩ (.int .i64 (99 : Int))).setCell ⟨w.heap.size, 3, none⟩ (.string C)).setCell ⟨w.heap.size, 4, none⟩ (.int .i64 d)).setCell ⟨w.heap.size, 5, none⟩ (.int .i64 h)).setCell ⟨w.heap.size, 6, none⟩ (.int .i64 m)).setCell ⟨w.heap.size, 7, none⟩ (.string M))) := done_all A9 L9 K A (99 : Int) C d h m M
      clear af
      go_wp2_with fail
      exact bodyPost_ret (v := hd K A (99 : Int) C d h m M) (results_cell_row Tryd.results5 _ _ w.heap.size 25 _ (0, 0) _ rfl FI.out.1 Tryd.underlying25 rfl size25) rfl ⟨K, A, (99 : Int), C, d, h, m, M, rfl, SZ.out.1, SZ.out.2, FI.out.2⟩
  by_cases u3 : u = 3
  · subst u3
    have kA : Hid (Rd r (w4.alloc (.cells #[.string ⟨#[49, 77, 77, 67]⟩, .string ⟨#[65, 77, 77]⟩, .string ⟨#[65, 77, 32, 67]⟩] 9))) := K4.kept ((Below.refl w4.heap.size w4).alloc (Nat.le_refl _) _) K4.lt
    have hne : w4.heap.size ≠ r := by have := K4.lt; omega
    go_wp2_with fail
    refine (below_any r _ kA.out 3 (by omega) (by omega)).mono ?_
    rintro e w5 ⟨⟨y, ⟨hy1, hy2⟩, rfl⟩, k5, t5⟩
    have c0 : w5.cell? ⟨w4.heap.size, 0, none⟩ = some (.string ⟨#[49, 77, 77, 67]⟩) := (t5.cell 0 (by simp) hne).trans (by simp [go_sem])
    have c1 : w5.cell? ⟨w4.heap.size, 1, none⟩ = some (.string ⟨#[65, 77, 77]⟩) := (t5.cell 1 (by simp) hne).trans (by simp [go_sem])
    have c2 : w5.cell? ⟨w4.heap.size, 2, none⟩ = some (.string ⟨#[65, 77, 32, 67]⟩) := (t5.cell 2 (by simp) hne).trans (by simp [go_sem])
    have B5 : HB w5 g K A n C d h m M := blk_turn (blk_alloc B4 _) t5 gr
    have A5 : HB w5 w.heap.size E E 0 E 0 0 0 E := blk_turn (blk_alloc A4 _) t5 ar
    have L5 : Below w.heap.size w w5 := (L4.alloc L4.size _).trans (t5.bel.mono (Nat.le_of_lt rl))
    clear k5 t5 kA A4 B4 L4 K4
    rcases (by omega : y = 0 ∨ y = 1 ∨ y = 2) with rfl | rfl | rfl
    · obtain ⟨w9, hw9⟩ : ∃ x, x = w5.setCell ⟨g, 3, none⟩ (.string (⟨#[49, 77, 77, 67]⟩ : ByteArray)) := ⟨_, rfl⟩
      have HW9 : Hid (w9 = w5.setCell ⟨g, 3, none⟩ (.string (⟨#[49, 77, 77, 67]⟩ : ByteArray))) := hw9
      have B9 : HB w9 g K A n (⟨#[49, 77, 77, 67]⟩ : ByteArray) d h m M := by rw [hw9]; exact B5.s3 _
      have A9 : HB w9 w.heap.size E E 0 E 0 0 0 E := by rw [hw9]; exact A5.keep gne _ _
      have L9 : Below w.heap.size w w9 := by rw [hw9]; exact L5.setCell (p := ⟨g, 3, none⟩) (by show w.heap.size ≤ g; omega) _
      obtain ⟨e0, e1, e2, e3, e4, e5, e6, e7, ef⟩ := B5.cells
      have f3 := ef 3
      go_upto_region 18 with fail
      clear hw9
      rw [← HW9.out]
      clear e0 e1 e2 e3 e4 e5 e6 e7 ef f3
      obtain ⟨e0, e1, e2, e3, e4, e5, e6, e7, -⟩ := B9.cells
      obtain ⟨a0, a1, a2, a3, a4, a5, a6, a7, af⟩ := A9.cells
      have g0 := af 0; have g1 := af 1; have g2 := af 2; have g3 := af 3; have g4 := af 4; have g5 := af 5; have g6 := af 6; have g7 := af 7
      have FI : Hid (HB ((((((((w9.setCell ⟨w.heap.size, 0, none⟩ (.string K)).setCell ⟨w.heap.size, 1, none⟩ (.string A)).setCell ⟨w.heap.size, 2, none⟩ (.int .i64 n)).setCell ⟨w.heap.size, 3, none⟩ (.string (⟨#[49, 77, 77, 67]⟩ : ByteArray))).setCell ⟨w.heap.size, 4, none⟩ (.int .i64 d)).setCell ⟨w.heap.size, 5, none⟩ (.int .i64 h)).setCell ⟨w.heap.size, 6, none⟩ (.int .i64 m)).setCell ⟨w.heap.size, 7, none⟩ (.string M)) w.heap.size K A n (⟨#[49, 77, 77, 67]⟩ : ByteArray) d h m M ∧ Below w.heap.size w ((((((((w9.setCell ⟨w.heap.size, 0, none⟩ (.string K)).setCell ⟨w.heap.size, 1, none⟩ (.string A)).setCell ⟨w.heap.size, 2, none⟩ (.int .i64 n)).setCell ⟨w.heap.size, 3, none⟩ (.string (⟨#[49, 77, 77, 67]⟩ : ByteArray))).setCell ⟨w.heap.size, 4, none⟩ (.int .i64 d)).setCell ⟨w.heap.size, 5, none⟩ (.int .i64 h)).setCell ⟨w.heap.size, 6, none⟩ (.int .i64 m)).setCell ⟨w.heap.size, 7, none⟩ (.string M))) := done_all A9 L9 K A n (⟨#[49, 77, 77, 67]⟩ : ByteArray) d h m M
      clear af
      go_wp2_with fail
      exact bodyPost_ret (v := hd K A n (⟨#[49, 77, 77, 67]⟩ : ByteArray) d h m M) (results_cell_row Tryd.results5 _ _ w.heap.size 25 _ (0, 0) _ rfl FI.out.1 Tryd.underlying25 rfl size25) rfl ⟨K, A, n, (⟨#[49, 77, 77, 67]⟩ : ByteArray), d, h, m, M, rfl, SZ.out.1, SZ.out.2, FI.out.2⟩
    · obtain ⟨w9, hw9⟩ : ∃ x, x = w5.setCell ⟨g, 3, none⟩ (.string (⟨#[65, 77, 77]⟩ : ByteArray)) := ⟨_, rfl⟩
      have HW9 : Hid (w9 = w5.setCell ⟨g, 3, none⟩ (.string (⟨#[65, 77, 77]⟩ : ByteArray))) := hw9
      have B9 : HB w9 g K A n (⟨#[65, 77, 77]⟩ : ByteArray) d h m M := by rw [hw9]; exact B5.s3 _
      have A9 : HB w9 w.heap.size E E 0 E 0 0 0 E := by rw [hw9]; exact A5.keep gne _ _
      have L9 : Below w.heap.size w w9 := by rw [hw9]; exact L5.setCell (p := ⟨g, 3, none⟩) (by show w.heap.size ≤ g; omega) _
      obtain ⟨e0, e1, e2, e3, e4, e5, e6, e7, ef⟩ := B5.cells
      have f3 := ef 3
      go_upto_region 18 with fail
      clear hw9
      rw [← HW9.out]
      clear e0 e1 e2 e3 e4 e5 e6 e7 ef f3
      obtain ⟨e0, e1, e2, e3, e4, e5, e6, e7, -⟩ := B9.cells
      obtain ⟨a0, a1, a2, a3, a4, a5, a6, a7, af⟩ := A9.cells
      have g0 := af 0; have g1 := af 1; have g2 := af 2; have g3 := af 3; have g4 := af 4; have g5 := af 5; have g6 := af 6; have g7 := af 7
      have FI : Hid (HB ((((((((w9.setCell ⟨w.heap.size, 0, none⟩ (.string K)).setCell ⟨w.heap.size, 1, none⟩ (.string A)).setCell ⟨w.heap.size, 2, none⟩ (.int .i64 n)).setCell ⟨w.heap.size, 3, none⟩ (.string (⟨#[65, 77, 77]⟩ : ByteArray))).setCell ⟨w.heap.size, 4, none⟩ (.int .i64 d)).setCell ⟨w.heap.size, 5, none⟩ (.int .i64 h)).setCell ⟨w.heap.size, 6, none⟩ (.int .i64 m)).setCell ⟨w.heap.size, 7, none⟩ (.string M)) w.heap.size K A n (⟨#[65, 77, 77]⟩ : ByteArray) d h m M ∧ Below w.heap.size w ((((((((w9.setCell ⟨w.heap.size, 0, none⟩ (.string K)).setCell ⟨w.heap.size, 1, none⟩ (.string A)).setCell ⟨w.heap.size, 2, none⟩ (.int .i64 n)).setCell ⟨w.heap.size, 3, none⟩ (.string (⟨#[65, 77, 77]⟩ : ByteArray))).setCell ⟨w.heap.size, 4, none⟩ (.int .i64 d)).setCell ⟨w.heap.size, 5, none⟩ (.int .i64 h)).setCell ⟨w.heap.size, 6, none⟩ (.int .i64 m)).setCell ⟨w.heap.size, 7, none⟩ (.string M))) := done_all A9 L9 K A n (⟨#[65, 77, 77]⟩ : ByteArray) d h m M
      clear af
      go_wp2_with fail
      exact bodyPost_ret (v := hd K A n (⟨#[65, 77, 77]⟩ : ByteArray) d h m M) (results_cell_row Tryd.results5 _ _ w.heap.size 25 _ (0, 0) _ rfl FI.out.1 Tryd.underlying25 rfl size25) rfl ⟨K, A, n, (⟨#[65, 77, 77]⟩ : ByteArray), d, h, m, M, rfl, SZ.out.1, SZ.out.2, FI.out.2⟩
    · obtain ⟨w9, hw9⟩ : ∃ x, x = w5.setCell ⟨g, 3, none⟩ (.string (⟨#[65, 77, 32, 67]⟩ : ByteArray)) := ⟨_, rfl⟩
      have HW9 : Hid (w9 = w5.setCell ⟨g, 3, none⟩ (.string (⟨#[65, 77, 32, 67]⟩ : ByteArray))) := hw9
      have B9 : HB w9 g K A n (⟨#[65, 77, 32, 67]⟩ : ByteArray) d h m M := by rw [hw9]; exact B5.s3 _
      have A9 : HB w9 w.heap.size E E 0 E 0 0 0 E := by rw [hw9]; exact A5.keep gne _ _
      have L9 : Below w.heap.size w w9 := by rw [hw9]; exact L5.setCell (p := ⟨g, 3, none⟩) (by show w.heap.size ≤ g; omega) _
      obtain ⟨e0, e1, e2, e3, e4, e5, e6, e7, ef⟩ := B5.cells
      have f3 := ef 3
      go_upto_region 18 with fail
      clear hw9
      rw [← HW9.out]
      clear e0 e1 e2 e3 e4 e5 e6 e7 ef f3
      obtain ⟨e0, e1, e2, e3, e4, e5, e6, e7, -⟩ := B9.cells
      obtain ⟨a0, a1, a2, a3, a4, a5, a6, a7, af⟩ := A9.cells
      have g0 := af 0; have g1 := af 1; have g2 := af 2; have g3 := af 3; have g4 := af 4; have g5 := af 5; have g6 := af 6; have g7 := af 7
      have FI : Hid (HB ((((((((w9.setCell ⟨w.heap.size, 0, none⟩ (.string K)).setCell ⟨w.heap.size, 1, none⟩ (.string A)).setCell ⟨w.heap.size, 2, none⟩ (.int .i64 n)).setCell ⟨w.heap.size, 3, none⟩ (.string (⟨#[65, 77, 32, 67]⟩ : ByteArray))).setCell ⟨w.heap.size, 4, none⟩ (.int .i64 d)).setCell ⟨w.heap.size, 5, none⟩ (.int .i64 h)).setCell ⟨w.heap.size, 6, none⟩ (.int .i64 m)).setCell ⟨w.heap.size, 7, none⟩ (.string M)) w.heap.size K A n (⟨#[65, 77, 32, 67]⟩ : ByteArray) d h m M ∧ Below w.heap.size w ((((((((w9.setCell ⟨w.heap.size, 0, none⟩ (.string K)).setCell ⟨w.heap.size, 1, none⟩ (.string A)).setCell ⟨w.heap.size, 2, none⟩ (.int .i64 n)).setCell ⟨w.heap.size, 3, none⟩ (.string (⟨#[65, 77, 32, 67]⟩ : ByteArray))).setCell ⟨w.heap.size, 4, none⟩ (.int .i64 d)).setCell ⟨w.heap.size, 5, none⟩ (.int .i64 h)).setCell ⟨w.heap.size, 6, none⟩ (.int .i64 m)).setCell ⟨w.heap.size, 7, none⟩ (.string M))) := done_all A9 L9 K A n (⟨#[65, 77, 32, 67]⟩ : ByteArray) d h m M
      clear af
      go_wp2_with fail
      exact bodyPost_ret (v := hd K A n (⟨#[65, 77, 32, 67]⟩ : ByteArray) d h m M) (results_cell_row Tryd.results5 _ _ w.heap.size 25 _ (0, 0) _ rfl FI.out.1 Tryd.underlying25 rfl size25) rfl ⟨K, A, n, (⟨#[65, 77, 32, 67]⟩ : ByteArray), d, h, m, M, rfl, SZ.out.1, SZ.out.2, FI.out.2⟩
  by_cases u4 : u = 4
  · subst u4
    have kA : Hid (Rd r (w4.alloc (.cells #[.int .i64 0, .int .i64 32] 2))) := K4.kept ((Below.refl w4.heap.size w4).alloc (Nat.le_refl _) _) K4.lt
    have hne : w4.heap.size ≠ r := by have := K4.lt; omega
    go_wp2_with fail
    refine (below_any r _ kA.out 2 (by omega) (by omega)).mono ?_
    rintro e w5 ⟨⟨y, ⟨hy1, hy2⟩, rfl⟩, k5, t5⟩
    have c0 : w5.cell? ⟨w4.heap.size, 0, none⟩ = some (.int .i64 0) := (t5.cell 0 (by simp) hne).trans (by simp [go_sem])
    have c1 : w5.cell? ⟨w4.heap.size, 1, none⟩ = some (.int .i64 32) := (t5.cell 1 (by simp) hne).trans (by simp [go_sem])
    have B5 : HB w5 g K A n C d h m M := blk_turn (blk_alloc B4 _) t5 gr
    have A5 : HB w5 w.heap.size E E 0 E 0 0 0 E := blk_turn (blk_alloc A4 _) t5 ar
    have L5 : Below w.heap.size w w5 := (L4.alloc L4.size _).trans (t5.bel.mono (Nat.le_of_lt rl))
    clear k5 t5 kA A4 B4 L4 K4
    rcases (by omega : y = 0 ∨ y = 1) with rfl | rfl
    · obtain ⟨w9, hw9⟩ : ∃ x, x = w5.setCell ⟨g, 4, none⟩ (.int .i64 (0 : Int)) := ⟨_, rfl⟩
      have HW9 : Hid (w9 = w5.setCell ⟨g, 4, none⟩ (.int .i64 (0 : Int))) := hw9
      have B9 : HB w9 g K A n C (0 : Int) h m M := by rw [hw9]; exact B5.s4 _
      have A9 : HB w9 w.heap.size E E 0 E 0 0 0 E := by rw [hw9]; exact A5.keep gne _ _
      have L9 : Below w.heap.size w w9 := by rw [hw9]; exact L5.setCell (p := ⟨g, 4, none⟩) (by show w.heap.size ≤ g; omega) _
      obtain ⟨e0, e1, e2, e3, e4, e5, e6, e7, ef⟩ := B5.cells
      have f4 := ef 4
      go_upto_region 18 with fail
      clear hw9
      rw [← HW9.out]
      clear e0 e1 e2 e3 e4 e5 e6 e7 ef f4
      obtain ⟨e0, e1, e2, e3, e4, e5, e6, e7, -⟩ := B9.cells
      obtain ⟨a0, a1, a2, a3, a4, a5, a6, a7, af⟩ := A9.cells
      have g0 := af 0; have g1 := af 1; have g2 := af 2; have g3 := af 3; have g4 := af 4; have g5 := af 5; have g6 := af 6; have g7 := af 7
      have FI : Hid (HB ((((((((w9.setCell ⟨w.heap.size, 0, none⟩ (.string K)).setCell ⟨w.heap.size, 1, none⟩ (.string A)).setCell ⟨w.heap.size, 2, none⟩ (.int .i64 n)).setCell ⟨w.heap.size, 3, none⟩ (.string C)).setCell ⟨w.heap.size, 4, none⟩ (.int .i64 (0 : Int))).setCell ⟨w.heap.size, 5, none⟩ (.int .i64 h)).setCell ⟨w.heap.size, 6, none⟩ (.int .i64 m)).setCell ⟨w.heap.size, 7, none⟩ (.string M)) w.heap.size K A n C (0 : Int) h m M ∧ Below w.heap.size w ((((((((w9.setCell ⟨w.heap.size, 0, none⟩ (.string K)).setCell ⟨w.heap.size, 1, none⟩ (.string A)).setCell ⟨w.heap.size, 2, none⟩ (.int .i64 n)).setCell ⟨w.heap.size, 3, none⟩ (.string C)).setCell ⟨w.heap.size, 4, none⟩ (.int .i64 (0 : Int))).setCell ⟨w.heap.size, 5, none⟩ (.int .i64 h)).setCell ⟨w.heap.size, 6, none⟩ (.int .i64 m)).setCell ⟨w.heap.size, 7, none⟩ (.string M))) := done_all A9 L9 K A n C (0 : Int) h m M
      clear af
      go_wp2_with fail
      exact bodyPost_ret (v := hd K A n C (0 : Int) h m M) (results_cell_row Tryd.results5 _ _ w.heap.size 25 _ (0, 0) _ rfl FI.out.1 Tryd.underlying25 rfl size25) rfl ⟨K, A, n, C, (0 : Int), h, m, M, rfl, SZ.out.1, SZ.out.2, FI.out.2⟩
    · obtain ⟨w9, hw9⟩ : ∃ x, x = w5.setCell ⟨g, 4, none⟩ (.int .i64 (32 : Int)) := ⟨_, rfl⟩
      have HW9 : Hid (w9 = w5.setCell ⟨g, 4, none⟩ (.int .i64 (32 : Int))) := hw9
      have B9 : HB w9 g K A n C (32 : Int) h m M := by rw [hw9]; exact B5.s4 _
      have A9 : HB w9 w.heap.size E E 0 E 0 0 0 E := by rw [hw9]; exact A5.keep gne _ _
      have L9 : Below w.heap.size w w9 := by rw [hw9]; exact L5.setCell (p := ⟨g, 4, none⟩) (by show w.heap.size ≤ g; omega) _
      obtain ⟨e0, e1, e2, e3, e4, e5, e6, e7, ef⟩ := B5.cells
      have f4 := ef 4
      go_upto_region 18 with fail
      clear hw9
      rw [← HW9.out]
      clear e0 e1 e2 e3 e4 e5 e6 e7 ef f4
      obtain ⟨e0, e1, e2, e3, e4, e5, e6, e7, -⟩ := B9.cells
      obtain ⟨a0, a1, a2, a3, a4, a5, a6, a7, af⟩ := A9.cells
      have g0 := af 0; have g1 := af 1; have g2 := af 2; have g3 := af 3; have g4 := af 4; have g5 := af 5; have g6 := af 6; have g7 := af 7
      have FI : Hid (HB ((((((((w9.setCell ⟨w.heap.size, 0, none⟩ (.string K)).setCell ⟨w.heap.size, 1, none⟩ (.string A)).setCell ⟨w.heap.size, 2, none⟩ (.int .i64 n)).setCell ⟨w.heap.size, 3, none⟩ (.string C)).setCell ⟨w.heap.size, 4, none⟩ (.int .i64 (32 : Int))).setCell ⟨w.heap.size, 5, none⟩ (.int .i64 h)).setCell ⟨w.heap.size, 6, none⟩ (.int .i64 m)).setCell ⟨w.heap.size, 7, none⟩ (.string M)) w.heap.size K A n C (32 : Int) h m M ∧ Below w.heap.size w ((((((((w9.setCell ⟨w.heap.size, 0, none⟩ (.string K)).setCell ⟨w.heap.size, 1, none⟩ (.string A)).setCell ⟨w.heap.size, 2, none⟩ (.int .i64 n)).setCell ⟨w.heap.size, 3, none⟩ (.string C)).setCell ⟨w.heap.size, 4, none⟩ (.int .i64 (32 : Int))).setCell ⟨w.heap.size, 5, none⟩ (.int .i64 h)).setCell ⟨w.heap.size, 6, none⟩ (.int .i64 m)).setCell ⟨w.heap.size, 7, none⟩ (.string M))) := done_all A9 L9 K A n C (32 : Int) h m M
      clear af
      go_wp2_with fail
      exact bodyPost_ret (v := hd K A n C (32 : Int) h m M) (results_cell_row Tryd.results5 _ _ w.heap.size 25 _ (0, 0) _ rfl FI.out.1 Tryd.underlying25 rfl size25) rfl ⟨K, A, n, C, (32 : Int), h, m, M, rfl, SZ.out.1, SZ.out.2, FI.out.2⟩
  by_cases u5 : u = 5
  · subst u5
    obtain ⟨w9, hw9⟩ : ∃ x, x = w4.setCell ⟨g, 5, none⟩ (.int .i64 (24 : Int)) := ⟨_, rfl⟩
    have HW9 : Hid (w9 = w4.setCell ⟨g, 5, none⟩ (.int .i64 (24 : Int))) := hw9
    have B9 : HB w9 g K A n C d (24 : Int) m M := by rw [hw9]; exact B4.s5 _
    have A9 : HB w9 w.heap.size E E 0 E 0 0 0 E := by rw [hw9]; exact A4.keep gne _ _
    have L9 : Below w.heap.size w w9 := by rw [hw9]; exact L4.setCell (p := ⟨g, 5, none⟩) (by show w.heap.size ≤ g; omega) _
    obtain ⟨e0, e1, e2, e3, e4, e5, e6, e7, ef⟩ := B4.cells
    have f5 := ef 5
    go_upto_region 18 with fail
    clear hw9
    rw [← HW9.out]
    clear e0 e1 e2 e3 e4 e5 e6 e7 ef f5
    obtain ⟨e0, e1, e2, e3, e4, e5, e6, e7, -⟩ := B9.cells
    obtain ⟨a0, a1, a2, a3, a4, a5, a6, a7, af⟩ := A9.cells
    have g0 := af 0; have g1 := af 1; have g2 := af 2; have g3 := af 3; have g4 := af 4; have g5 := af 5; have g6 := af 6; have g7 := af 7
    have FI : Hid (HB ((((((((w9.setCell ⟨w.heap.size, 0, none⟩ (.string K)).setCell ⟨w.heap.size, 1, none⟩ (.string A)).setCell ⟨w.heap.size, 2, none⟩ (.int .i64 n)).setCell ⟨w.heap.size, 3, none⟩ (.string C)).setCell ⟨w.heap.size, 4, none⟩ (.int .i64 d)).setCell ⟨w.heap.size, 5, none⟩ (.int .i64 (24 : Int))).setCell ⟨w.heap.size, 6, none⟩ (.int .i64 m)).setCell ⟨w.heap.size, 7, none⟩ (.string M)) w.heap.size K A n C d (24 : Int) m M ∧ Below w.heap.size w ((((((((w9.setCell ⟨w.heap.size, 0, none⟩ (.string K)).setCell ⟨w.heap.size, 1, none⟩ (.string A)).setCell ⟨w.heap.size, 2, none⟩ (.int .i64 n)).setCell ⟨w.heap.size, 3, none⟩ (.string C)).setCell ⟨w.heap.size, 4, none⟩ (.int .i64 d)).setCell ⟨w.heap.size, 5, none⟩ (.int .i64 (24 : Int))).setCell ⟨w.heap.size, 6, none⟩ (.int .i64 m)).setCell ⟨w.heap.size, 7, none⟩ (.string M))) := done_all A9 L9 K A n C d (24 : Int) m M
    clear af
    go_wp2_with fail
    exact bodyPost_ret (v := hd K A n C d (24 : Int) m M) (results_cell_row Tryd.results5 _ _ w.heap.size 25 _ (0, 0) _ rfl FI.out.1 Tryd.underlying25 rfl size25) rfl ⟨K, A, n, C, d, (24 : Int), m, M, rfl, SZ.out.1, SZ.out.2, FI.out.2⟩
  by_cases u6 : u = 6
  · subst u6
    have kA : Hid (Rd r (w4.alloc (.cells #[.string ⟨#[82, 82, 89]⟩, .string ⟨#[88]⟩, .string ⟨#[80, 65, 49]⟩] 9))) := K4.kept ((Below.refl w4.heap.size w4).alloc (Nat.le_refl _) _) K4.lt
    have hne : w4.heap.size ≠ r := by have := K4.lt; omega
    go_wp2_with fail
    refine (below_any r _ kA.out 3 (by omega) (by omega)).mono ?_
    rintro e w5 ⟨⟨y, ⟨hy1, hy2⟩, rfl⟩, k5, t5⟩
    have c0 : w5.cell? ⟨w4.heap.size, 0, none⟩ = some (.string ⟨#[82, 82, 89]⟩) := (t5.cell 0 (by simp) hne).trans (by simp [go_sem])
    have c1 : w5.cell? ⟨w4.heap.size, 1, none⟩ = some (.string ⟨#[88]⟩) := (t5.cell 1 (by simp) hne).trans (by simp [go_sem])
    have c2 : w5.cell? ⟨w4.heap.size, 2, none⟩ = some (.string ⟨#[80, 65, 49]⟩) := (t5.cell 2 (by simp) hne).trans (by simp [go_sem])
    have B5 : HB w5 g K A n C d h m M := blk_turn (blk_alloc B4 _) t5 gr
    have A5 : HB w5 w.heap.size E E 0 E 0 0 0 E := blk_turn (blk_alloc A4 _) t5 ar
    have L5 : Below w.heap.size w w5 := (L4.alloc L4.size _).trans (t5.bel.mono (Nat.le_of_lt rl))
    clear k5 t5 kA A4 B4 L4 K4
    rcases (by omega : y = 0 ∨ y = 1 ∨ y = 2) with rfl | rfl | rfl
    · obtain ⟨w9, hw9⟩ : ∃ x, x = w5.setCell ⟨g, 7, none⟩ (.string (⟨#[82, 82, 89]⟩ : ByteArray)) := ⟨_, rfl⟩
      have HW9 : Hid (w9 = w5.setCell ⟨g, 7, none⟩ (.string (⟨#[82, 82, 89]⟩ : ByteArray))) := hw9
      have B9 : HB w9 g K A n C d h m (⟨#[82, 82, 89]⟩ : ByteArray) := by rw [hw9]; exact B5.s7 _
      have A9 : HB w9 w.heap.size E E 0 E 0 0 0 E := by rw [hw9]; exact A5.keep gne _ _
      have L9 : Below w.heap.size w w9 := by rw [hw9]; exact L5.setCell (p := ⟨g, 7, none⟩) (by show w.heap.size ≤ g; omega) _
      obtain ⟨e0, e1, e2, e3, e4, e5, e6, e7, ef⟩ := B5.cells
      have f7 := ef 7
      go_upto_region 18 with fail
      clear hw9
      rw [← HW9.out]
      clear e0 e1 e2 e3 e4 e5 e6 e7 ef f7
      obtain ⟨e0, e1, e2, e3, e4, e5, e6, e7, -⟩ := B9.cells
      obtain ⟨a0, a1, a2, a3, a4, a5, a6, a7, af⟩ := A9.cells
      have g0 := af 0; have g1 := af 1; have g2 := af 2; have g3 := af 3; have g4 := af 4; have g5 := af 5; have g6 := af 6; have g7 := af 7
      have FI : Hid (HB ((((((((w9.setCell ⟨w.heap.size, 0, none⟩ (.string K)).setCell ⟨w.heap.size, 1, none⟩ (.string A)).setCell ⟨w.heap.size, 2, none⟩ (.int .i64 n)).setCell ⟨w.heap.size, 3, none⟩ (.string C)).setCell ⟨w.heap.size, 4, none⟩ (.int .i64 d)).setCell ⟨w.heap.size, 5, none⟩ (.int .i64 h)).setCell ⟨w.heap.size, 6, none⟩ (.int .i64 m)).setCell ⟨w.heap.size, 7, none⟩ (.string (⟨#[82, 82, 89]⟩ : ByteArray))) w.heap.size K A n C d h m (⟨#[82, 82, 89]⟩ : ByteArray) ∧ Below w.heap.size w ((((((((w9.setCell ⟨w.heap.size, 0, none⟩ (.string K)).setCell ⟨w.heap.size, 1, none⟩ (.string A)).setCell ⟨w.heap.size, 2, none⟩ (.int .i64 n)).setCell ⟨w.heap.size, 3, none⟩ (.string C)).setCell ⟨w.heap.size, 4, none⟩ (.int .i64 d)).setCell ⟨w.heap.size, 5, none⟩ (.int .i64 h)).setCell ⟨w.heap.size, 6, none⟩ (.int .i64 m)).setCell ⟨w.heap.size, 7, none⟩ (.string (⟨#[82, 82, 89]⟩ : ByteArray)))) := done_all A9 L9 K A n C d h m (⟨#[82, 82, 89]⟩ : ByteArray)
      clear af
      go_wp2_with fail
      exact bodyPost_ret (v := hd K A n C d h m (⟨#[82, 82, 89]⟩ : ByteArray)) (results_cell_row Tryd.results5 _ _ w.heap.size 25 _ (0, 0) _ rfl FI.out.1 Tryd.underlying25 rfl size25) rfl ⟨K, A, n, C, d, h, m, (⟨#[82, 82, 89]⟩ : ByteArray), rfl, SZ.out.1, SZ.out.2, FI.out.2⟩
    · obtain ⟨w9, hw9⟩ : ∃ x, x = w5.setCell ⟨g, 7, none⟩ (.string (⟨#[88]⟩ : ByteArray)) := ⟨_, rfl⟩
      have HW9 : Hid (w9 = w5.setCell ⟨g, 7, none⟩ (.string (⟨#[88]⟩ : ByteArray))) := hw9
      have B9 : HB w9 g K A n C d h m (⟨#[88]⟩ : ByteArray) := by rw [hw9]; exact B5.s7 _
      have A9 : HB w9 w.heap.size E E 0 E 0 0 0 E := by rw [hw9]; exact A5.keep gne _ _
      have L9 : Below w.heap.size w w9 := by rw [hw9]; exact L5.setCell (p := ⟨g, 7, none⟩) (by show w.heap.size ≤ g; omega) _
      obtain ⟨e0, e1, e2, e3, e4, e5, e6, e7, ef⟩ := B5.cells
      have f7 := ef 7
      go_upto_region 18 with fail
      clear hw9
      rw [← HW9.out]
      clear e0 e1 e2 e3 e4 e5 e6 e7 ef f7
      obtain ⟨e0, e1, e2, e3, e4, e5, e6, e7, -⟩ := B9.cells
      obtain ⟨a0, a1, a2, a3, a4, a5, a6, a7, af⟩ := A9.cells
      have g0 := af 0; have g1 := af 1; have g2 := af 2; have g3 := af 3; have g4 := af 4; have g5 := af 5; have g6 := af 6; have g7 := af 7
      have FI : Hid (HB ((((((((w9.setCell ⟨w.heap.size, 0, none⟩ (.string K)).setCell ⟨w.heap.size, 1, none⟩ (.string A)).setCell ⟨w.heap.size, 2, none⟩ (.int .i64 n)).setCell ⟨w.heap.size, 3, none⟩ (.string C)).setCell ⟨w.heap.size, 4, none⟩ (.int .i64 d)).setCell ⟨w.heap.size, 5, none⟩ (.int .i64 h)).setCell ⟨w.heap.size, 6, none⟩ (.int .i64 m)).setCell ⟨w.heap.size, 7, none⟩ (.string (⟨#[88]⟩ : ByteArray))) w.heap.size K A n C d h m (⟨#[88]⟩ : ByteArray) ∧ Below w.heap.size w ((((((((w9.setCell ⟨w.heap.size, 0, none⟩ (.string K)).setCell ⟨w.heap.size, 1, none⟩ (.string A)).setCell ⟨w.heap.size, 2, none⟩ (.int .i64 n)).setCell ⟨w.heap.size, 3, none⟩ (.string C)).setCell ⟨w.heap.size, 4, none⟩ (.int .i64 d)).setCell ⟨w.heap.size, 5, none⟩ (.int .i64 h)).setCell ⟨w.heap.size, 6, none⟩ (.int .i64 m)).setCell ⟨w.heap.size, 7, none⟩ (.string (⟨#[88]⟩ : ByteArray)))) := done_all A9 L9 K A n C d h m (⟨#[88]⟩ : ByteArray)
      clear af
      go_wp2_with fail
      exact bodyPost_ret (v := hd K A n C d h m (⟨#[88]⟩ : ByteArray)) (results_cell_row Tryd.results5 _ _ w.heap.size 25 _ (0, 0) _ rfl FI.out.1 Tryd.underlying25 rfl size25) rfl ⟨K, A, n, C, d, h, m, (⟨#[88]⟩ : ByteArray), rfl, SZ.out.1, SZ.out.2, FI.out.2⟩
    · obtain ⟨w9, hw9⟩ : ∃ x, x = w5.setCell ⟨g, 7, none⟩ (.string (⟨#[80, 65, 49]⟩ : ByteArray)) := ⟨_, rfl⟩
      have HW9 : Hid (w9 = w5.setCell ⟨g, 7, none⟩ (.string (⟨#[80, 65, 49]⟩ : ByteArray))) := hw9
      have B9 : HB w9 g K A n C d h m (⟨#[80, 65, 49]⟩ : ByteArray) := by rw [hw9]; exact B5.s7 _
      have A9 : HB w9 w.heap.size E E 0 E 0 0 0 E := by rw [hw9]; exact A5.keep gne _ _
      have L9 : Below w.heap.size w w9 := by rw [hw9]; exact L5.setCell (p := ⟨g, 7, none⟩) (by show w.heap.size ≤ g; omega) _
      obtain ⟨e0, e1, e2, e3, e4, e5, e6, e7, ef⟩ := B5.cells
      have f7 := ef 7
      go_upto_region 18 with fail
      clear hw9
      rw [← HW9.out]
      clear e0 e1 e2 e3 e4 e5 e6 e7 ef f7
      obtain ⟨e0, e1, e2, e3, e4, e5, e6, e7, -⟩ := B9.cells
      obtain ⟨a0, a1, a2, a3, a4, a5, a6, a7, af⟩ := A9.cells
      have g0 := af 0; have g1 := af 1; have g2 := af 2; have g3 := af 3; have g4 := af 4; have g5 := af 5; have g6 := af 6; have g7 := af 7
      have FI : Hid (HB ((((((((w9.setCell ⟨w.heap.size, 0, none⟩ (.string K)).setCell ⟨w.heap.size, 1, none⟩ (.string A)).setCell ⟨w.heap.size, 2, none⟩ (.int .i64 n)).setCell ⟨w.heap.size, 3, none⟩ (.string C)).setCell ⟨w.heap.size, 4, none⟩ (.int .i64 d)).setCell ⟨w.heap.size, 5, none⟩ (.int .i64 h)).setCell ⟨w.heap.size, 6, none⟩ (.int .i64 m)).setCell ⟨w.heap.size, 7, none⟩ (.string (⟨#[80, 65, 49]⟩ : ByteArray))) w.heap.size K A n C d h m (⟨#[80, 65, 49]⟩ : ByteArray) ∧ Below w.heap.size w ((((((((w9.setCell ⟨w.heap.size, 0, none⟩ (.string K)).setCell ⟨w.heap.size, 1, none⟩ (.string A)).setCell ⟨w.heap.size, 2, none⟩ (.int .i64 n)).setCell ⟨w.heap.size, 3, none⟩ (.string C)).setCell ⟨w.heap.size, 4, none⟩ (.int .i64 d)).setCell ⟨w.heap.size, 5, none⟩ (.int .i64 h)).setCell ⟨w.heap.size, 6, none⟩ (.int .i64 m)).setCell ⟨w.heap.size, 7, none⟩ (.string (⟨#[80, 65, 49]⟩ : ByteArray)))) := done_all A9 L9 K A n C d h m (⟨#[80, 65, 49]⟩ : ByteArray)
      clear af
      go_wp2_with fail
      exact bodyPost_ret (v := hd K A n C d h m (⟨#[80, 65, 49]⟩ : ByteArray)) (results_cell_row Tryd.results5 _ _ w.heap.size 25 _ (0, 0) _ rfl FI.out.1 Tryd.underlying25 rfl size25) rfl ⟨K, A, n, C, d, h, m, (⟨#[80, 65, 49]⟩ : ByteArray), rfl, SZ.out.1, SZ.out.2, FI.out.2⟩
  obtain ⟨e0, e1, e2, e3, e4, e5, e6, e7, -⟩ := B4.cells
  obtain ⟨a0, a1, a2, a3, a4, a5, a6, a7, af⟩ := A4.cells
  have g0 := af 0; have g1 := af 1; have g2 := af 2; have g3 := af 3; have g4 := af 4; have g5 := af 5; have g6 := af 6; have g7 := af 7
  have FI : Hid (HB ((((((((w4.setCell ⟨w.heap.size, 0, none⟩ (.string K)).setCell ⟨w.heap.size, 1, none⟩ (.string A)).setCell ⟨w.heap.size, 2, none⟩ (.int .i64 n)).setCell ⟨w.heap.size, 3, none⟩ (.string C)).setCell ⟨w.heap.size, 4, none⟩ (.int .i64 d)).setCell ⟨w.heap.size, 5, none⟩ (.int .i64 h)).setCell ⟨w.heap.size, 6, none⟩ (.int .i64 m)).setCell ⟨w.heap.size, 7, none⟩ (.string M)) w.heap.size K A n C d h m M ∧ Below w.heap.size w ((((((((w4.setCell ⟨w.heap.size, 0, none⟩ (.string K)).setCell ⟨w.heap.size, 1, none⟩ (.string A)).setCell ⟨w.heap.size, 2, none⟩ (.int .i64 n)).setCell ⟨w.heap.size, 3, none⟩ (.string C)).setCell ⟨w.heap.size, 4, none⟩ (.int .i64 d)).setCell ⟨w.heap.size, 5, none⟩ (.int .i64 h)).setCell ⟨w.heap.size, 6, none⟩ (.int .i64 m)).setCell ⟨w.heap.size, 7, none⟩ (.string M))) := done_all A4 L4 K A n C d h m M
  clear af
  go_wp2_with fail
  exact bodyPost_ret (v := hd K A n C d h m M) (results_cell_row Tryd.results5 _ _ w.heap.size 25 _ (0, 0) _ rfl FI.out.1 Tryd.underlying25 rfl size25) rfl ⟨K, A, n, C, d, h, m, M, rfl, SZ.out.1, SZ.out.2, FI.out.2⟩
end Go.Proofs.YtepofpmdkphhdaaDoor.Hd
