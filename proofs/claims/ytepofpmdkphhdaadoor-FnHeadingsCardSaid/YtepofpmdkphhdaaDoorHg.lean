/- A heading drawn of a code. -/
import Derived.Test.YtepofpmdkphhdaaDoorH0
namespace Go.Proofs.YtepofpmdkphhdaaDoor.Hd
open Go.ChangeShapes Go.WideShapes Go.ChangeAt Go.RowKit
open Go.Proofs.YtepofpmdkphhdaaDoor.Rd Mk Fig Head
theorem size25 : (Tryd.prog.info? 25).map (·.size) = some 8 := by kernel_rfl
/-- the answer's box, filled -/
theorem filled {r : Nat} {W wx : World} {x0 x1 : ByteArray} {x2 : Int} {x3 : ByteArray} {x4 x5 x6 : Int} {x7 : ByteArray} (B : HB wx W.heap.size x0 x1 x2 x3 x4 x5 x6 x7) (k : Rd r wx) (t : Turn r W wx) (hr : r < W.heap.size) (K A : ByteArray) (n : Int) (C : ByteArray) (d h m : Int) (M : ByteArray) :
    HB ((((((((wx.setCell ⟨W.heap.size, 0, none⟩ (.string K)).setCell ⟨W.heap.size, 1, none⟩ (.string A)).setCell ⟨W.heap.size, 2, none⟩ (.int .i64 n)).setCell ⟨W.heap.size, 3, none⟩ (.string C)).setCell ⟨W.heap.size, 4, none⟩ (.int .i64 d)).setCell ⟨W.heap.size, 5, none⟩ (.int .i64 h)).setCell ⟨W.heap.size, 6, none⟩ (.int .i64 m)).setCell ⟨W.heap.size, 7, none⟩ (.string M)) W.heap.size K A n C d h m M ∧ Rd r ((((((((wx.setCell ⟨W.heap.size, 0, none⟩ (.string K)).setCell ⟨W.heap.size, 1, none⟩ (.string A)).setCell ⟨W.heap.size, 2, none⟩ (.int .i64 n)).setCell ⟨W.heap.size, 3, none⟩ (.string C)).setCell ⟨W.heap.size, 4, none⟩ (.int .i64 d)).setCell ⟨W.heap.size, 5, none⟩ (.int .i64 h)).setCell ⟨W.heap.size, 6, none⟩ (.int .i64 m)).setCell ⟨W.heap.size, 7, none⟩ (.string M)) ∧ Turn r W ((((((((wx.setCell ⟨W.heap.size, 0, none⟩ (.string K)).setCell ⟨W.heap.size, 1, none⟩ (.string A)).setCell ⟨W.heap.size, 2, none⟩ (.int .i64 n)).setCell ⟨W.heap.size, 3, none⟩ (.string C)).setCell ⟨W.heap.size, 4, none⟩ (.int .i64 d)).setCell ⟨W.heap.size, 5, none⟩ (.int .i64 h)).setCell ⟨W.heap.size, 6, none⟩ (.int .i64 m)).setCell ⟨W.heap.size, 7, none⟩ (.string M)) := by
  have g : W.heap.size ≤ W.heap.size := Nat.le_refl _
  refine ⟨B.all K A n C d h m M, k.kept (B := r + 1) ?_ (by omega), ?_⟩
  · exact (((((((((Below.refl _ _).setCell (p := ⟨W.heap.size, 0, none⟩) hr _).setCell (p := ⟨W.heap.size, 1, none⟩) hr _).setCell (p := ⟨W.heap.size, 2, none⟩) hr _).setCell (p := ⟨W.heap.size, 3, none⟩) hr _).setCell (p := ⟨W.heap.size, 4, none⟩) hr _).setCell (p := ⟨W.heap.size, 5, none⟩) hr _).setCell (p := ⟨W.heap.size, 6, none⟩) hr _).setCell (p := ⟨W.heap.size, 7, none⟩) hr _)
  · exact (((((((t.setCell (p := ⟨W.heap.size, 0, none⟩) g hr _).setCell (p := ⟨W.heap.size, 1, none⟩) g hr _).setCell (p := ⟨W.heap.size, 2, none⟩) g hr _).setCell (p := ⟨W.heap.size, 3, none⟩) g hr _).setCell (p := ⟨W.heap.size, 4, none⟩) g hr _).setCell (p := ⟨W.heap.size, 5, none⟩) g hr _).setCell (p := ⟨W.heap.size, 6, none⟩) g hr _).setCell (p := ⟨W.heap.size, 7, none⟩) g hr _
theorem right_of {K A : ByteArray} {n : Int} {C : ByteArray} {d h m : Int} {M : ByteArray} (h1 : two K = true) (h2 : two A = true) (h3 : 0 ≤ n ∧ n ≤ 99) (h4 : cen C = true) (h5 : 1 ≤ d ∧ d ≤ 31) (h6 : 0 ≤ h ∧ h ≤ 23) (h7 : 0 ≤ m ∧ m ≤ 59) (h8 : 0 ≤ (markOf M).1) : fault K A n C d h m M = 0 := by
  have e : ¬ (markOf M).1 < 0 := by omega
  unfold fault
  simp [h1, h2, h4, wi, h3.1, h3.2, h5.1, h5.2, h6.1, h6.2, h7.1, h7.2, e]
theorem cca : 0 ≤ (markOf ⟨#[67, 67, 65]⟩).1 := by decide
set_option maxRecDepth 20000 in
set_option maxHeartbeats 4000000 in
theorem heading_any (r : Nat) (W : World) (h : Rd r W) : Calls Tryd.prog 12 #[.pointer (some ⟨r, 0, none⟩)] W fun e w' => (∃ (K A : ByteArray) (n : Int) (C : ByteArray) (d h m : Int) (M : ByteArray), e = .returned (hd K A n C d h m M) ∧ fault K A n C d h m M = 0) ∧ Rd r w' ∧ Turn r W w' := by
  have hr := h.lt
  have Z0 : Hid (Sn r W none none none none (W.alloc oH)) := ⟨heap_alloc_new W _, h.kept ((Below.refl W.heap.size W).alloc (Nat.le_refl _) _) hr, (Turn.refl r W).alloc hr _, (fun b e => by cases e), (fun b e => by cases e), (fun b e => by cases e), (fun b e => by cases e), hr⟩
  clear h
  go_enter Tryd.func12, Tryd.ntmps12
  go_upto_region 1 with fail
  obtain ⟨W0, hW0⟩ : ∃ W0, W0 = W.alloc oH := ⟨_, rfl⟩
  rw [← hW0] at Z0 ⊢
  clear hW0
  go_cut [3] (fun x wx => ∃ bx : Nat, x = .pointer (some ⟨bx, 0, none⟩) ∧ Hid (Fin r W bx wx))
  case first =>
    have S0 : Hid (Sn r W none none none none W0.drew) := Z0.out.turn ((Turn.refl r W0).drewN 1) (Z0.out.rd.drewN 1)
    clear Z0
    refine wp_region_held_drew (S := Sn r W none none none none) (by kernel_rfl) S0.out (fun hS => ?_)
    refine wpAnyH_take (i := 1) (oi := { dst := some 7, op := Go.Op.move (Go.Operand.tmp 0), type := 33, pos := "l04_bulletins.go:338", after := #[], guard := none }) (v := .pointer (some ⟨r, 0, none⟩)) rfl (by kernel_rfl) (by kernel_rfl) (by kernel_rfl) (fun _ _ _ h => h) (Or.inl ⟨by rfl, ?_⟩) (by assumption) ?_
    · intro w hSw; go_simp
    (try simp only [Act.put, List.setIfInBounds_toArray, List.set_cons_zero, List.set_cons_succ])
    refine wpAnyH_take (i := 6) (oi := { dst := some 12, op := Go.Op.move (Go.Operand.tmp 0), type := 33, pos := "l04_bulletins.go:338", after := #[], guard := none }) (v := .pointer (some ⟨r, 0, none⟩)) rfl (by kernel_rfl) (by kernel_rfl) (by kernel_rfl) (fun _ _ _ h => h) (Or.inl ⟨by rfl, ?_⟩) (by assumption) ?_
    · intro w hSw; go_simp
    (try simp only [Act.put, List.setIfInBounds_toArray, List.set_cons_zero, List.set_cons_succ])
    refine wpAnyH_take (i := 10) (oi := { dst := some 16, op := Go.Op.move (Go.Operand.tmp 0), type := 33, pos := "l04_bulletins.go:338", after := #[], guard := none }) (v := .pointer (some ⟨r, 0, none⟩)) rfl (by kernel_rfl) (by kernel_rfl) (by kernel_rfl) (fun _ _ _ h => h) (Or.inl ⟨by rfl, ?_⟩) (by assumption) ?_
    · intro w hSw; go_simp
    (try simp only [Act.put, List.setIfInBounds_toArray, List.set_cons_zero, List.set_cons_succ])
    refine wpAnyH_take (i := 13) (oi := { dst := some 19, op := Go.Op.move (Go.Operand.tmp 0), type := 33, pos := "l04_bulletins.go:338", after := #[], guard := none }) (v := .pointer (some ⟨r, 0, none⟩)) rfl (by kernel_rfl) (by kernel_rfl) (by kernel_rfl) (fun _ _ _ h => h) (Or.inl ⟨by rfl, ?_⟩) (by assumption) ?_
    · intro w hSw; go_simp
    (try simp only [Act.put, List.setIfInBounds_toArray, List.set_cons_zero, List.set_cons_succ])
    refine wpAnyH_take (i := 17) (oi := { dst := some 23, op := Go.Op.move (Go.Operand.tmp 0), type := 33, pos := "l04_bulletins.go:338", after := #[], guard := none }) (v := .pointer (some ⟨r, 0, none⟩)) rfl (by kernel_rfl) (by kernel_rfl) (by kernel_rfl) (fun _ _ _ h => h) (Or.inl ⟨by rfl, ?_⟩) (by assumption) ?_
    · intro w hSw; go_simp
    (try simp only [Act.put, List.setIfInBounds_toArray, List.set_cons_zero, List.set_cons_succ])
    refine wpAnyH_take (i := 20) (oi := { dst := some 26, op := Go.Op.move (Go.Operand.tmp 0), type := 33, pos := "l04_bulletins.go:338", after := #[], guard := none }) (v := .pointer (some ⟨r, 0, none⟩)) rfl (by kernel_rfl) (by kernel_rfl) (by kernel_rfl) (fun _ _ _ h => h) (Or.inl ⟨by rfl, ?_⟩) (by assumption) ?_
    · intro w hSw; go_simp
    (try simp only [Act.put, List.setIfInBounds_toArray, List.set_cons_zero, List.set_cons_succ])
    refine wpAnyH_take (i := 22) (oi := { dst := some 28, op := Go.Op.move (Go.Operand.tmp 0), type := 33, pos := "l04_bulletins.go:338", after := #[], guard := none }) (v := .pointer (some ⟨r, 0, none⟩)) rfl (by kernel_rfl) (by kernel_rfl) (by kernel_rfl) (fun _ _ _ h => h) (Or.inl ⟨by rfl, ?_⟩) (by assumption) ?_
    · intro w hSw; go_simp
    (try simp only [Act.put, List.setIfInBounds_toArray, List.set_cons_zero, List.set_cons_succ])
    refine wpAnyH_take (i := 24) (oi := { dst := some 30, op := Go.Op.move (Go.Operand.tmp 0), type := 33, pos := "l04_bulletins.go:338", after := #[], guard := none }) (v := .pointer (some ⟨r, 0, none⟩)) rfl (by kernel_rfl) (by kernel_rfl) (by kernel_rfl) (fun _ _ _ h => h) (Or.inl ⟨by rfl, ?_⟩) (by assumption) ?_
    · intro w hSw; go_simp
    (try simp only [Act.put, List.setIfInBounds_toArray, List.set_cons_zero, List.set_cons_succ])
    refine st00000 (fun _ _ d _ _ h => by cases d <;> exact h) ?_ _ hS
    intro bx u6 u7 u8 u9 u10 u11 u12 u13 u14 u15 u16 u17 u18 u19 u20 u21 u22 u23 u24 u25 u26 u27 u28 u29 u30 u31 u32 w hF
    have HF : Hid (Fin r W bx w) := hF
    clear hF
    go_wp2_with fail
    go_meet
    exact ⟨bx, rfl, HF⟩
  case rest =>
    obtain ⟨bx, rfl, F⟩ := hcut
    obtain ⟨K, A, n, C, d, h, m, M, B, p1, p2, p3, p4, p5, p6, p7, p8⟩ := F.out.ex
    have PP : Hid (two K = true ∧ two A = true ∧ (0 ≤ n ∧ n ≤ 99) ∧ cen C = true ∧ (1 ≤ d ∧ d ≤ 31) ∧ (0 ≤ h ∧ h ≤ 23) ∧ (0 ≤ m ∧ m ≤ 59)) := ⟨p1, p2, p3, p4, p5, p6, p7⟩
    have AN := F.out.an
    have RD := F.out.rd
    have TN := F.out.tn
    have LTb := F.out.lt
    have bne : W.heap.size ≠ bx := by omega
    have HBX : Hid (HB wc bx K A n C d h m M) := B
    clear p1 p2 p3 p4 p5 p6 p7 p8 F
    obtain ⟨e0, e1, e2, e3, e4, e5, e6, e7, -⟩ := B.cells
    clear B
    go_wp2_with fail
    refine (smark_any M wc).mono ?_
    rintro e w2 ⟨rfl, q, hw⟩
    have B2 : HB w2 bx K A n C d h m M := by rw [hw]; exact HBX.out
    have A2 : HB w2 W.heap.size E E 0 E 0 0 0 E := by rw [hw]; exact AN
    have R2 : Rd r w2 := by rw [hw]; exact RD.drewN q
    have T2 : Turn r W w2 := by rw [hw]; exact TN.drewN q
    clear hw e0 e1 e2 e3 e4 e5 e6 e7 HBX AN RD TN
    obtain ⟨e0, e1, e2, e3, e4, e5, e6, e7, ef⟩ := B2.cells
    obtain ⟨a0, a1, a2, a3, a4, a5, a6, a7, af⟩ := A2.cells
    have f7 := ef 7
    have g0 := af 0; have g1 := af 1; have g2 := af 2; have g3 := af 3; have g4 := af 4; have g5 := af 5; have g6 := af 6; have g7 := af 7
    by_cases hk : (markOf M).1 < 0
    · obtain ⟨w3, hw3⟩ : ∃ w3, w3 = w2.setCell ⟨bx, 7, none⟩ (.string ⟨#[67, 67, 65]⟩) := ⟨_, rfl⟩
      have HW3 : Hid (w3 = w2.setCell ⟨bx, 7, none⟩ (.string ⟨#[67, 67, 65]⟩)) := hw3
      have B3 : HB w3 bx K A n C d h m ⟨#[67, 67, 65]⟩ := by rw [hw3]; exact B2.s7 _
      have A3 : HB w3 W.heap.size E E 0 E 0 0 0 E := by rw [hw3]; exact A2.keep bne _ _
      have R3 : Rd r w3 := by rw [hw3]; exact R2.kept ((Below.refl (r + 1) w2).setCell (p := ⟨bx, 7, none⟩) (by show r + 1 ≤ bx; omega) _) (by omega)
      have T3 : Turn r W w3 := by rw [hw3]; exact T2.setCell (p := ⟨bx, 7, none⟩) (by show W.heap.size ≤ bx; omega) hr _
      have FI : Hid (HB ((((((((w3.setCell ⟨W.heap.size, 0, none⟩ (.string K)).setCell ⟨W.heap.size, 1, none⟩ (.string A)).setCell ⟨W.heap.size, 2, none⟩ (.int .i64 n)).setCell ⟨W.heap.size, 3, none⟩ (.string C)).setCell ⟨W.heap.size, 4, none⟩ (.int .i64 d)).setCell ⟨W.heap.size, 5, none⟩ (.int .i64 h)).setCell ⟨W.heap.size, 6, none⟩ (.int .i64 m)).setCell ⟨W.heap.size, 7, none⟩ (.string ⟨#[67, 67, 65]⟩)) W.heap.size K A n C d h m ⟨#[67, 67, 65]⟩ ∧ Rd r ((((((((w3.setCell ⟨W.heap.size, 0, none⟩ (.string K)).setCell ⟨W.heap.size, 1, none⟩ (.string A)).setCell ⟨W.heap.size, 2, none⟩ (.int .i64 n)).setCell ⟨W.heap.size, 3, none⟩ (.string C)).setCell ⟨W.heap.size, 4, none⟩ (.int .i64 d)).setCell ⟨W.heap.size, 5, none⟩ (.int .i64 h)).setCell ⟨W.heap.size, 6, none⟩ (.int .i64 m)).setCell ⟨W.heap.size, 7, none⟩ (.string ⟨#[67, 67, 65]⟩)) ∧ Turn r W ((((((((w3.setCell ⟨W.heap.size, 0, none⟩ (.string K)).setCell ⟨W.heap.size, 1, none⟩ (.string A)).setCell ⟨W.heap.size, 2, none⟩ (.int .i64 n)).setCell ⟨W.heap.size, 3, none⟩ (.string C)).setCell ⟨W.heap.size, 4, none⟩ (.int .i64 d)).setCell ⟨W.heap.size, 5, none⟩ (.int .i64 h)).setCell ⟨W.heap.size, 6, none⟩ (.int .i64 m)).setCell ⟨W.heap.size, 7, none⟩ (.string ⟨#[67, 67, 65]⟩))) := filled A3 R3 T3 hr K A n C d h m ⟨#[67, 67, 65]⟩
      go_upto_region 5 with fail
      clear hw3
      rw [← HW3.out]
      clear e0 e1 e2 e3 e4 e5 e6 e7 ef a0 a1 a2 a3 a4 a5 a6 a7 af f7 g0 g1 g2 g3 g4 g5 g6 g7 A2 B2 R2 T2
      obtain ⟨e0, e1, e2, e3, e4, e5, e6, e7, -⟩ := B3.cells
      obtain ⟨a0, a1, a2, a3, a4, a5, a6, a7, af⟩ := A3.cells
      have g0 := af 0; have g1 := af 1; have g2 := af 2; have g3 := af 3; have g4 := af 4; have g5 := af 5; have g6 := af 6; have g7 := af 7
      clear af A3 B3 R3 T3
      go_wp2_with fail
      exact bodyPost_ret (v := hd K A n C d h m ⟨#[67, 67, 65]⟩) (results_cell_row Tryd.results12 _ _ W.heap.size 25 _ (0, 0) _ rfl FI.out.1 Tryd.underlying25 rfl size25) rfl ⟨⟨K, A, n, C, d, h, m, _, rfl, right_of PP.out.1 PP.out.2.1 PP.out.2.2.1 PP.out.2.2.2.1 PP.out.2.2.2.2.1 PP.out.2.2.2.2.2.1 PP.out.2.2.2.2.2.2 cca⟩, FI.out.2.1, FI.out.2.2⟩
    · have FI : Hid (HB ((((((((w2.setCell ⟨W.heap.size, 0, none⟩ (.string K)).setCell ⟨W.heap.size, 1, none⟩ (.string A)).setCell ⟨W.heap.size, 2, none⟩ (.int .i64 n)).setCell ⟨W.heap.size, 3, none⟩ (.string C)).setCell ⟨W.heap.size, 4, none⟩ (.int .i64 d)).setCell ⟨W.heap.size, 5, none⟩ (.int .i64 h)).setCell ⟨W.heap.size, 6, none⟩ (.int .i64 m)).setCell ⟨W.heap.size, 7, none⟩ (.string M)) W.heap.size K A n C d h m M ∧ Rd r ((((((((w2.setCell ⟨W.heap.size, 0, none⟩ (.string K)).setCell ⟨W.heap.size, 1, none⟩ (.string A)).setCell ⟨W.heap.size, 2, none⟩ (.int .i64 n)).setCell ⟨W.heap.size, 3, none⟩ (.string C)).setCell ⟨W.heap.size, 4, none⟩ (.int .i64 d)).setCell ⟨W.heap.size, 5, none⟩ (.int .i64 h)).setCell ⟨W.heap.size, 6, none⟩ (.int .i64 m)).setCell ⟨W.heap.size, 7, none⟩ (.string M)) ∧ Turn r W ((((((((w2.setCell ⟨W.heap.size, 0, none⟩ (.string K)).setCell ⟨W.heap.size, 1, none⟩ (.string A)).setCell ⟨W.heap.size, 2, none⟩ (.int .i64 n)).setCell ⟨W.heap.size, 3, none⟩ (.string C)).setCell ⟨W.heap.size, 4, none⟩ (.int .i64 d)).setCell ⟨W.heap.size, 5, none⟩ (.int .i64 h)).setCell ⟨W.heap.size, 6, none⟩ (.int .i64 m)).setCell ⟨W.heap.size, 7, none⟩ (.string M))) := filled A2 R2 T2 hr K A n C d h m M
      have hk0 : 0 ≤ (markOf M).1 := by omega
      clear ef af A2 B2 R2 T2
      go_wp2_with fail
      exact bodyPost_ret (v := hd K A n C d h m M) (results_cell_row Tryd.results12 _ _ W.heap.size 25 _ (0, 0) _ rfl FI.out.1 Tryd.underlying25 rfl size25) rfl ⟨⟨K, A, n, C, d, h, m, _, rfl, right_of PP.out.1 PP.out.2.1 PP.out.2.2.1 PP.out.2.2.2.1 PP.out.2.2.2.2.1 PP.out.2.2.2.2.2.1 PP.out.2.2.2.2.2.2 hk0⟩, FI.out.2.1, FI.out.2.2⟩
end Go.Proofs.YtepofpmdkphhdaaDoor.Hd
