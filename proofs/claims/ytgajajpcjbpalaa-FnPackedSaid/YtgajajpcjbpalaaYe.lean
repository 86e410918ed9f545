/- Rounding whole numbers: the program. -/
import Derived.Test.YtgajajpcjbpalaaYd
import Derived.Test.YtgajajpcjbpalaaXoV
import Derived.Deep.Cut
import Derived.Deep.DeepCutAuto
namespace Go.Proofs.Ytgajajpcjbpalaa.Pkd
open Go.ChangeShapes Go.WideShapes Go.ChangeAt Go.RowKit
open Go.Proofs.Ytgajajpcjbpalaa.Lists Go.Proofs.Ytgajajpcjbpalaa.Flt Go.Proofs.Ytgajajpcjbpalaa.Fls


theorem cell_far (w : World) (a p : Addr) (v : Value) (h : p.block ≠ a.block) : (w.setCell a v).cell? p = w.cell? p := World.cell?_of_block (Below.heap_setCell w a v p.block h)
theorem cell_one_at (w : World) (v0 : Value) (t : TypeId) : ∀ j u, [v0][j]? = some u → (w.alloc (Obj.cells #[v0] t)).cell? ((⟨w.heap.size, 0, none⟩ : Addr).add j) = some u := by
  intro j u hj
  match j, hj with
  | 0, hj => simp at hj; subst hj; simp [Addr.add]
theorem cell_al {w : World} {g x : Nat} {u : Value} {ob : Obj} (h : w.cell? ⟨g, x, none⟩ = some u) : (w.alloc ob).cell? ⟨g, x, none⟩ = some u := by
  rw [World.cell?_alloc_some w _ ob (by rw [h]; rfl)]; exact h
structure PB (w wx : World) (A : Nat) (b e r : Int) (v : Value) (n : Nat) (Q : List Int) : Prop where
  eA : A = w.heap.size + 2
  bl : Below w.heap.size w wx
  b0 : wx.cell? ⟨w.heap.size, 0, none⟩ = some (.int .i64 b)
  bx : Box7 wx A (.int .i64 0) (.int .i64 0) (.int .i64 r) (.int .i64 e) (.int .i64 b) (.slice none 0 0) v
  fz : ∀ j, wx.frozen? ⟨A, j, none⟩ = false
  b4 : Box7 wx (w.heap.size + 1) (.int .i64 0) (.int .i64 0) (.int .i64 0) (.int .i64 0) (.int .i64 0) (.slice none 0 0) (.slice none 0 0)
  f4 : ∀ j, wx.frozen? ⟨w.heap.size + 1, j, none⟩ = false
  row : wx.ownsRow (A + 1) 2 1 v n (ints Q)
theorem PB.lt {w wx : World} {A n : Nat} {b e r : Int} {v : Value} {Q : List Int} (h : PB w wx A b e r v n Q) : A < wx.heap.size := World.block_lt_of_cell? wx ⟨A, 0, none⟩ h.bx.1
theorem PB.drewN {w wx : World} {A n : Nat} {b e r : Int} {v : Value} {Q : List Int} (h : PB w wx A b e r v n Q) (m : Nat) : PB w (wx.drewN m) A b e r v n Q := ⟨h.eA, below_drewN h.bl m, h.b0, h.bx, h.fz, h.b4, h.f4, h.row⟩
theorem PB.set2 {w wx : World} {A n : Nat} {b e r : Int} {v : Value} {Q : List Int} (h : PB w wx A b e r v n Q) (x : Int) : PB w (wx.setCell ⟨A, 2, none⟩ (.int .i64 x)) A b e x v n Q := by
  have e0 := h.eA
  exact ⟨h.eA, h.bl.setCell (p := ⟨A, 2, none⟩) (by show _ ≤ A; omega) _, by rw [cell_far _ _ _ _ (by show w.heap.size ≠ A; omega)]; exact h.b0, h.bx.put2, fun j => by rw [World.frozen?_setCell]; exact h.fz j, h.b4.far (by omega), fun j => by rw [World.frozen?_setCell]; exact h.f4 j, set_row h.row A 2 _ (by omega)⟩
theorem PB.set3 {w wx : World} {A n : Nat} {b e r : Int} {v : Value} {Q : List Int} (h : PB w wx A b e r v n Q) (x : Int) : PB w (wx.setCell ⟨A, 3, none⟩ (.int .i64 x)) A b x r v n Q := by
  have e0 := h.eA
  exact ⟨h.eA, h.bl.setCell (p := ⟨A, 3, none⟩) (by show _ ≤ A; omega) _, by rw [cell_far _ _ _ _ (by show w.heap.size ≠ A; omega)]; exact h.b0, h.bx.put3, fun j => by rw [World.frozen?_setCell]; exact h.fz j, h.b4.far (by omega), fun j => by rw [World.frozen?_setCell]; exact h.f4 j, set_row h.row A 3 _ (by omega)⟩
theorem PB.more {w wx w5 : World} {A n g c : Nat} {b e r x : Int} {v : Value} {Q : List Int} {ob : Obj} (h : PB w wx A b e r v n Q)
    (hr : w5.ownsRow (A + 1) 2 1 (.slice (some ⟨g, 0, none⟩) (n + 1) c) (n + 1) (ints Q ++ [.int .i64 x])) (hg : (wx.alloc ob).grownBy w5 v.ownBlock) :
    PB w (w5.setCell ⟨A, 6, none⟩ (.slice (some ⟨g, 0, none⟩) (n + 1) c)) A b e r (.slice (some ⟨g, 0, none⟩) (n + 1) c) (n + 1) (Q ++ [x]) := by
  have sz := h.lt
  have e0 := h.eA
  have bA : Below (A + 1) (wx.alloc ob) w5 := (Below.refl _ _).grown hg (by simp; omega) (fun k hk => (h.row.lt k hk).1)
  have bB : Below (A + 1) wx w5 := ((Below.refl (A + 1) wx).alloc sz _).trans bA
  refine ⟨h.eA, (h.bl.trans (bB.mono (by omega))).setCell (p := ⟨A, 6, none⟩) (by show _ ≤ A; omega) _, ?_, (h.bx.on bB (by omega)).put6, fun j => ?_, (h.b4.on bB (by omega)).far (by omega), fun j => ?_, ?_⟩
  · rw [cell_far _ _ _ _ (by show w.heap.size ≠ A; omega)]; exact (bB.cell (p := ⟨w.heap.size, 0, none⟩) (by show w.heap.size < _; omega)).trans h.b0
  · rw [World.frozen?_setCell]; exact (bB.frozen (p := ⟨A, j, none⟩) (by show A < _; omega)).trans (h.fz j)
  · rw [World.frozen?_setCell]; exact (bB.frozen (p := ⟨w.heap.size + 1, j, none⟩) (by show w.heap.size + 1 < _; omega)).trans (h.f4 j)
  · rw [ints_snoc]; exact set_row hr A 6 _ (by omega)

abbrev put7 (w : World) (g : Nat) (v0 v1 v2 v3 v4 v5 v6 : Value) : World := ((((((w.setCell ⟨g, 0, none⟩ v0).setCell ⟨g, 1, none⟩ v1).setCell ⟨g, 2, none⟩ v2).setCell ⟨g, 3, none⟩ v3).setCell ⟨g, 4, none⟩ v4).setCell ⟨g, 5, none⟩ v5).setCell ⟨g, 6, none⟩ v6
theorem put7_box {w : World} {g : Nat} {u0 u1 u2 u3 u4 u5 u6 : Value} (v0 v1 v2 v3 v4 v5 v6 : Value) (h : Box7 w g u0 u1 u2 u3 u4 u5 u6) : Box7 (put7 w g v0 v1 v2 v3 v4 v5 v6) g v0 v1 v2 v3 v4 v5 v6 := by
  obtain ⟨h0, h1, h2, h3, h4, h5, h6⟩ := h
  unfold put7 Box7
  simp [go_sem, h0, h1, h2, h3, h4, h5, h6]
theorem put7_below {B g : Nat} {w w1 : World} (v0 v1 v2 v3 v4 v5 v6 : Value) (h : Below B w w1) (hg : B ≤ g) : Below B w (put7 w1 g v0 v1 v2 v3 v4 v5 v6) :=
  ((((((h.setCell (p := ⟨g, 0, none⟩) hg _).setCell (p := ⟨g, 1, none⟩) hg _).setCell (p := ⟨g, 2, none⟩) hg _).setCell (p := ⟨g, 3, none⟩) hg _).setCell (p := ⟨g, 4, none⟩) hg _).setCell (p := ⟨g, 5, none⟩) hg _).setCell (p := ⟨g, 6, none⟩) hg _
theorem put7_row {e : TypeId} {w : World} {base n g : Nat} {v : Value} {xs : List Value} (v0 v1 v2 v3 v4 v5 v6 : Value) (h : w.ownsRow base e 1 v n xs) (hg : g < base) : (put7 w g v0 v1 v2 v3 v4 v5 v6).ownsRow base e 1 v n xs :=
  set_row (set_row (set_row (set_row (set_row (set_row (set_row h g 0 _ hg) g 1 _ hg) g 2 _ hg) g 3 _ hg) g 4 _ hg) g 5 _ hg) g 6 _ hg
theorem down_row {e : TypeId} {w : World} {B B' n : Nat} {v : Value} {xs : List Value} (h : w.ownsRow B e 1 v n xs) (hb : B' ≤ B) : w.ownsRow B' e 1 v n xs := by
  refine ⟨h.1, ?_⟩
  rcases h.2 with h | ⟨gx, cap, cur, h1, h2, h3⟩
  · exact .inl h
  · exact .inr ⟨gx, cap, cur, h1, by omega, h3⟩
/-- the result's box at the end -/
theorem PB.fin {w wx : World} {A n : Nat} {b e r : Int} {v : Value} {Q : List Int} (h : PB w wx A b e r v n Q) :
    Box7 (put7 wx (w.heap.size + 1) (.int .i64 0) (.int .i64 0) (.int .i64 r) (.int .i64 e) (.int .i64 b) (.slice none 0 0) v) (w.heap.size + 1) (.int .i64 0) (.int .i64 0) (.int .i64 r) (.int .i64 e) (.int .i64 b) (.slice none 0 0) v ∧
    (put7 wx (w.heap.size + 1) (.int .i64 0) (.int .i64 0) (.int .i64 r) (.int .i64 e) (.int .i64 b) (.slice none 0 0) v).ownsRow w.heap.size 2 1 v n (ints Q) ∧
    Below w.heap.size w (put7 wx (w.heap.size + 1) (.int .i64 0) (.int .i64 0) (.int .i64 r) (.int .i64 e) (.int .i64 b) (.slice none 0 0) v) :=
  ⟨put7_box _ _ _ _ _ _ _ h.b4, down_row (put7_row _ _ _ _ _ _ _ h.row (by have := h.eA; omega)) (by have := h.eA; omega), put7_below _ _ _ _ _ _ _ h.bl (by omega)⟩

set_option maxHeartbeats 2000000 in
set_option maxRecDepth 20000 in
theorem pack_any (v : Value) (W : List Int) (b : Int) (w : World) (hR : Lists.Reads w v W) (hl : W.length ≤ 4096) (b1 : 1 ≤ b) (b2 : b ≤ 24) (hf : W.all fit = true) :
    Calls Try.prog 96 #[.agg #[.int .i64 b], v] w fun x w' => ∃ r e cd cv, IsPk W b r e cd ∧ x = .returned (pkv ⟨0, 0, r, e, b, [], cd⟩ (.slice none 0 0) cv) ∧ w'.ownsRow w.heap.size 2 1 cv cd.length (ints cd) ∧ Below w.heap.size w w' := by
  obtain ⟨i0, hi, hz0, hz1, hz2⟩ := info_parts Lists.Try.info2
  obtain ⟨w0, hw0⟩ : ∃ w0, w0 = ((w.alloc (.cells #[.int .i64 b] 52)).alloc (.cells #[.int .i64 0, .int .i64 0, .int .i64 0, .int .i64 0, .int .i64 0, .slice none 0 0, .slice none 0 0] 26)).alloc (.cells #[.int .i64 0, .int .i64 0, .int .i64 0, .int .i64 0, .int .i64 b, .slice none 0 0, .slice none 0 0] 26) := ⟨_, rfl⟩
  have HW : Hid (w0 = ((w.alloc (.cells #[.int .i64 b] 52)).alloc (.cells #[.int .i64 0, .int .i64 0, .int .i64 0, .int .i64 0, .int .i64 0, .slice none 0 0, .slice none 0 0] 26)).alloc (.cells #[.int .i64 0, .int .i64 0, .int .i64 0, .int .i64 0, .int .i64 b, .slice none 0 0, .slice none 0 0] 26)) := hw0
  obtain ⟨A, hA⟩ : ∃ A, A = w.heap.size + 2 := ⟨_, rfl⟩
  have P0 : Hid (PB w w0 A b 0 0 (.slice none 0 0) 0 []) := (by
    refine ⟨hA, ?_, ?_, ?_, ?_, ?_, ?_, ?_⟩
    · rw [hw0]; exact (((Below.refl _ _).alloc (Nat.le_refl _) _).alloc (by simp) _).alloc (by simp; omega) _
    · rw [hw0]; simp [go_sem]
    · rw [hw0, hA]; unfold Box7; simp [go_sem]
    · intro j; rw [hw0, hA]; simp [go_sem]
    · rw [hw0]; unfold Box7; simp [go_sem]
    · intro j; rw [hw0]; simp [go_sem]
    · exact ⟨rfl, .inl ⟨rfl, rfl⟩⟩)
  have HA : Hid (A = w.heap.size + 2) := hA
  clear hw0
  obtain ⟨x, cap, bb, o, rfl, hx, hc, hm⟩ := Reads.opened hR
  obtain ⟨n, hn⟩ : ∃ n, n = W.length := ⟨_, rfl⟩
  have HN : Hid (n = W.length) := hn
  have hAE : w.heap.size + 2 = A := hA.symm
  rw [← hn] at hl hx hc hm hR ⊢
  by_cases h0 : n = 0
  · subst h0
    have hW : W = [] := List.eq_nil_of_length_eq_zero hn.symm
    have q4 : w0.cell? ⟨A, 4, none⟩ = some (.int .i64 b) := P0.out.bx.2.2.2.2.1
    have HP : Hid (IsPk W b 0 (0 : Nat) []) := .inl ⟨hW, rfl, rfl, rfl⟩
    obtain ⟨x0, x1, x2, x3, x4, x5, x6⟩ := P0.out.bx
    obtain ⟨y0, y1, y2, y3, y4, y5, y6⟩ := P0.out.b4
    have fz0 := P0.out.f4
    clear hx hc hR hn hf hA
    go_enter Try.func96, Try.ntmps96
    go_upto_region 2 with fail
    rw [← HW.out]
    go_wp2_with fail
    obtain ⟨fx, fo, fl⟩ := P0.out.fin
    have FX : Hid (Box7 (((((((w0.setCell ⟨w.heap.size + 1, 0, none⟩ (.int .i64 0)).setCell ⟨w.heap.size + 1, 1, none⟩ (.int .i64 0)).setCell ⟨w.heap.size + 1, 2, none⟩ (.int .i64 0)).setCell ⟨w.heap.size + 1, 3, none⟩ (.int .i64 0)).setCell ⟨w.heap.size + 1, 4, none⟩ (.int .i64 b)).setCell ⟨w.heap.size + 1, 5, none⟩ (.slice none 0 0)).setCell ⟨w.heap.size + 1, 6, none⟩ (.slice none 0 0)) (w.heap.size + 1) (.int .i64 0) (.int .i64 0) (.int .i64 0) (.int .i64 0) (.int .i64 b) (.slice none 0 0) (.slice none 0 0)) := fx
    have FL : Hid (Below w.heap.size w (((((((w0.setCell ⟨w.heap.size + 1, 0, none⟩ (.int .i64 0)).setCell ⟨w.heap.size + 1, 1, none⟩ (.int .i64 0)).setCell ⟨w.heap.size + 1, 2, none⟩ (.int .i64 0)).setCell ⟨w.heap.size + 1, 3, none⟩ (.int .i64 0)).setCell ⟨w.heap.size + 1, 4, none⟩ (.int .i64 b)).setCell ⟨w.heap.size + 1, 5, none⟩ (.slice none 0 0)).setCell ⟨w.heap.size + 1, 6, none⟩ (.slice none 0 0))) := fl
    clear fx fo fl
    generalize World.setCell _ _ _ = wz at FX FL ⊢
    obtain ⟨z0, z1, z2, z3, z4, z5, z6⟩ := FX.out
    refine bodyPost_ret (v := pkv ⟨0, 0, 0, 0, b, [], []⟩ (.slice none 0 0) (.slice none 0 0)) (by simp [results, Try.results96, go_sem, pkv, z0, z1, z2, z3, z4, z5, z6]) rfl ⟨0, 0, [], _, HP.out, rfl, ⟨rfl, .inl ⟨rfl, rfl⟩⟩, FL.out⟩
  · have HF : Hid (∀ x ∈ W, -1099511627776 ≤ x ∧ x ≤ 1099511627776) := all_fit hf
    have hWn : W ≠ [] := fun e => h0 (by rw [hn, e]; rfl)
    obtain ⟨lo, hlo⟩ := min_has W hWn
    obtain ⟨hi', hhi⟩ := max_has W hWn
    have HLO : Hid (IsMin lo W) := hlo
    have HHI : Hid (IsMax hi' W) := hhi
    have l1 := HF.out lo hlo.1
    have l2 := HF.out hi' hhi.1
    have l3 := hlo.2 hi' hhi.1
    have CMin : Hid (∀ wx, Below w.heap.size w wx → Calls Try.prog 98 #[.slice x n cap] wx fun e w' => e = .returned (.int .i64 lo) ∧ w' = wx) := fun wx h => min_any _ W lo wx (hR.on h) hlo
    have CMax : Hid (∀ wx, Below w.heap.size w wx → Calls Try.prog 99 #[.slice x n cap] wx fun e w' => e = .returned (.int .i64 hi') ∧ w' = wx) := fun wx h => max_any _ W hi' wx (hR.on h) hhi
    obtain ⟨hh, hhh⟩ : ∃ hh, hh = hi' - lo := ⟨_, rfl⟩
    have HH : Hid (hh = hi' - lo) := hhh
    have ew : IntKind.i64.wrap (hi' - lo) = hh := (IntWalk.i64_in _ (by omega)).trans hhh.symm
    have hh0 : 0 ≤ hh := by omega
    have hh1 : hh ≤ 2199023255552 := by omega
    obtain ⟨x0, x1, x2, x3, x4, x5, x6⟩ := P0.out.bx
    have q0 := P0.out.b0
    have f2 := P0.out.fz 2
    have hz : ((n : Int) == 0) = false := by simpa using h0
    have HXX : Hid (0 < n → x = some ⟨bb, o, none⟩) := fun h => (hx h).1
    have HBB : Hid (bb < w.heap.size) := (hx (by omega)).2
    have HCC : Hid (∀ i, i < n → w.cell? ⟨bb, o + i, none⟩ = some (.int .i64 (W.getD i 0))) := hc
    clear hx hc hR hn hf hA hlo hhi hhh l1 l2 l3 hWn
    go_enter Try.func96, Try.ntmps96
    go_upto_region 2 with fail
    rw [← HW.out]
    go_wp2_with fail
    refine (CMin.out w0 P0.out.bl).mono ?_
    rintro e w' ⟨rfl, hw⟩; subst w'
    have P1 : Hid (PB w (w0.setCell ⟨A, 2, none⟩ (.int .i64 lo)) A b 0 lo (.slice none 0 0) 0 []) := P0.out.set2 lo
    go_upto_region 5 with fail
    generalize World.setCell w0 _ _ = w1 at P1 ⊢
    clear x0 x1 x2 x3 x4 x5 x6 q0 f2 P0 HW CMin
    obtain ⟨x0, x1, x2, x3, x4, x5, x6⟩ := P1.out.bx
    have CM1 : Hid (∀ m, Calls Try.prog 99 #[.slice x n cap] (w1.drewN m) fun e w' => e = .returned (.int .i64 hi') ∧ w' = w1.drewN m) := fun m => CMax.out _ (below_drewN P1.out.bl m)
    clear CMax
    go_quiet ((go_at_call 99; exact Calls.quiet_of_same (CM1.out _)))
    have P2 : Hid (PB w (w1.drewN nq) A b 0 lo (.slice none 0 0) 0 []) := P1.out.drewN nq
    generalize w1.drewN nq = w2 at P2 ⊢
    clear x0 x1 x2 x3 x4 x5 x6 P1 CM1
    go_wp2_with fail
    go_loopw [] (fun wr => ∃ e : Nat, Hid (PB w wr A b e lo (.slice none 0 0) 0 []) ∧ Hid (∀ d, d < e → (2 : Int) ^ b.toNat ≤ cod hh d)) (fun wr => 43 - expOf wr A)
    case atStart => exact ⟨0, P2, fun d hd => absurd hd (by omega)⟩
    case round =>
      obtain ⟨e, PE, HE⟩ := hrel
      have he : e ≤ 41 := ex_le hh b e hh0 hh1 b1 b2 HE.out
      have eo := expOf_eq PE.out.bx.2.2.2.1
      obtain ⟨x0, x1, x2, x3, x4, x5, x6⟩ := PE.out.bx
      have q0 := PE.out.b0
      have f3 := PE.out.fz 3
      have CI : Hid (∀ w, Calls Try.prog 100 #[.int .i64 hh, .int .i64 (e : Int)] w fun x w' => x = .returned (.int .i64 (cod hh e)) ∧ w' = w) := fun w => icode hh e w hh0 (by omega) (by omega)
      obtain ⟨p1, p2⟩ := pow_b b b1 b2
      obtain ⟨bn, rfl⟩ : ∃ bn : Nat, b = (bn : Int) := ⟨b.toNat, by omega⟩
      rw [Int.toNat_natCast] at p1 p2
      have ep : IntKind.i64.wrap (2 ^ bn) = (2 : Int) ^ bn := IntWalk.i64_in _ (by omega)
      have ep' : wrap64 (2 ^ bn) = (2 : Int) ^ bn := IntWalk.wrap64_in _ (by omega)
      have e1' : IntKind.i64.wrap ((e : Int) + 1) = (e : Int) + 1 := IntWalk.i64_in _ (by omega)
      by_cases hc : (2 : Int) ^ bn ≤ cod hh e
      · have hd : decide ((2 : Int) ^ bn ≤ cod hh e) = true := decide_eq_true hc
        go_wp2_with fail
        go_quiet ((go_at_call 100; exact Calls.quiet_of_same (CI.out _)))
        have PN : Hid (PB w ((wr.drewN nq).setCell ⟨A, 3, none⟩ (.int .i64 ((e : Int) + 1))) A bn ((e : Int) + 1) lo (.slice none 0 0) 0 []) := (PE.out.drewN nq).set3 _
        have eN : expOf ((wr.drewN nq).setCell ⟨A, 3, none⟩ (.int .i64 ((e : Int) + 1))) A = e + 1 := expOf_eq (e := e + 1) PN.out.bx.2.2.2.1
        have HE' : Hid (∀ d, d < e + 1 → (2 : Int) ^ (bn : Int).toNat ≤ cod hh d) := fun d hd => by
          by_cases c : d = e
          · subst c; rw [Int.toNat_natCast]; exact hc
          · exact HE.out d (by omega)
        have HEN : Hid (expOf ((wr.drewN nq).setCell ⟨A, 3, none⟩ (.int .i64 ((e : Int) + 1))) A = e + 1) := eN
        clear eN PE HE x0 x1 x2 x4 x5 x6
        go_wp2_with fail
        go_roundw
        case rel => exact ⟨e + 1, PN, HE'⟩
        case measure => rw [eo]; have := HEN.out; omega
      · have hd : decide ((2 : Int) ^ bn ≤ cod hh e) = false := decide_eq_false hc
        go_wp2_with fail
        go_quiet ((go_at_call 100; exact Calls.quiet_of_same (CI.out _)))
        have P3 : Hid (PB w (wr.drewN nq) A bn e lo (.slice none 0 0) 0 []) := PE.out.drewN nq
        have HX : Hid (IsEx hh bn e) := ⟨by rw [Int.toNat_natCast]; omega, HE.out⟩
        generalize wr.drewN nq = w3 at P3 ⊢
        clear x0 x1 x2 x3 x4 x5 x6 PE HE q0 f3 CI P2 hc hd eo
        go_wp2_with fail
        go_loopw [38] (fun i wr => ∃ (k : Nat) (v : Value), k ≤ n ∧ i = .int .i64 k ∧ Hid (PB w wr A bn e lo v k ((W.take k).map fun n => cod (n - lo) e))) (fun i _ => n - (intOf i).toNat)
        case atStart => exact ⟨0, _, Nat.zero_le _, rfl, P3⟩
        case round =>
          obtain ⟨k, v, hk, rfl, U⟩ := hrel
          by_cases hlt : k < n
          · have j0 : (0 : Int) ≤ (k : Int) := by omega
            have j1 : (k : Int) < (n : Int) := by omega
            have hx := HXX.out (by omega)
            subst hx
            have qw := (U.out.bl.cell (p := ⟨bb, o + k, none⟩) HBB.out).trans (HCC.out k hlt)
            have TK : Hid (W.take (k + 1) = W.take k ++ [W.getD k 0]) := take_one W k (by rw [← HN.out]; exact hlt)
            have hm := mem_at W k (by rw [← HN.out]; exact hlt)
            have a1 := HF.out _ hm
            have a2 := HLO.out.2 _ hm
            have a3 := HHI.out.2 _ hm
            have HE2 := HH.out
            clear hm
            generalize W.getD k 0 = z at *
            obtain ⟨y, hy⟩ : ∃ y, y = z - lo := ⟨_, rfl⟩
            have ey : IntKind.i64.wrap (z - lo) = y := (IntWalk.i64_in _ (by omega)).trans hy.symm
            have y0 : 0 ≤ y := by omega
            have y1 : y ≤ hh := by omega
            have he : e ≤ 41 := ex_le hh bn e hh0 hh1 b1 b2 HX.out.2
            have CI : Hid (∀ w, Calls Try.prog 100 #[.int .i64 y, .int .i64 (e : Int)] w fun x w' => x = .returned (.int .i64 (cod y e)) ∧ w' = w) := fun w => icode y e w y0 (by omega) (by omega)
            have HSQ : Hid ((W.take (k + 1)).map (fun n => cod (n - lo) e) = (W.take k).map (fun n => cod (n - lo) e) ++ [cod y e]) := (by show _ = _; rw [TK.out, List.map_append, hy]; rfl)
            clear hy HE2 TK a1 a2 a3
            obtain ⟨va, vc, ev⟩ := row_form U.out.row
            subst ev
            generalize (W.take k).map (fun n => cod (n - lo) e) = Q at *
            have RD : Hid (wr.drew.ownsRow (A + 1) 2 1 (.slice va k vc) k (ints Q)) := U.out.row
            have UD : Hid (PB w wr.drew A bn e lo (.slice va k vc) k Q) := U.out.drewN 1
            have BX : Hid (Box7 wr.drew A (.int .i64 0) (.int .i64 0) (.int .i64 lo) (.int .i64 e) (.int .i64 bn) (.slice none 0 0) (.slice va k vc)) := U.out.bx
            have FX : Hid (∀ j, wr.drew.frozen? ⟨A, j, none⟩ = false) := U.out.fz
            have szA : A + 1 ≤ wr.heap.size := U.out.lt
            obtain ⟨x0, x1, x2, x3, x4, x5, x6⟩ := U.out.bx
            have hAlt : A < wr.heap.size := szA
            have hAne : ¬ A = wr.heap.size := Nat.ne_of_lt szA
            clear U x0 x1 x4 x5
            go_wp2_with fail
            go_region_law (first
              | (refine step_append_lies _ (by rfl) _ _ 24 (by rfl) (A + 1) 2 i0 (.int .i64 0) 1 8 Try.underlying24 hi hz0 hz1 hz2 rfl (by decide) _ _ _ (by rfl) (RD.out.alloc _) ⟨wr.heap.size, 0, none⟩ 1 1 [.int .i64 (cod y e)] (by rfl) rfl (cell_one_at wr.drew (.int .i64 (cod y e)) 2) (by intro u hu; simp at hu; subst hu; rfl) (by decide) (by unfold maxLen; omega) (by omega) (by simp; omega) (wr.heap.size + 1) (by simp) ?_; intro g2 cap3 w5 hown hgrow hat hlt5; have q5 : Below (A + 1) wr.drew w5 := ((Below.refl (A + 1) wr.drew).alloc szA _).trans ((Below.refl _ _).grown hgrow (by simp; omega) (fun k hk => (RD.out.lt k hk).1)); obtain ⟨e0, e1, e2, e3, e4, e5, e6⟩ := BX.out.on q5 (Nat.lt_succ_self _); have s3 := (q5.frozen (p := ⟨A, 6, none⟩) (Nat.lt_succ_self _)).trans (FX.out 6))
              | (go_simp; go_at_call 100; refine (CI.out _).mono ?_; rintro x w' ⟨rfl, hw⟩; subst hw))
            all_goals (
              have M5 : Hid (PB w (w5.setCell ⟨A, 6, none⟩ (.slice (some ⟨g2, 0, none⟩) (k + 1) cap3)) A bn e lo (.slice (some ⟨g2, 0, none⟩) (k + 1) cap3) (k + 1) ((W.take (k + 1)).map (fun n => cod (n - lo) e))) := (by show PB _ _ _ _ _ _ _ _ _; rw [HSQ.out]; exact PB.more (w := w) UD.out hown hgrow)
              generalize World.setCell w5 _ _ = w6 at M5 ⊢
              clear hown hgrow hat q5 e0 e1 e2 e3 e4 e5 e6 s3 hlt5 RD BX FX UD
              go_wp2_with fail
              go_roundw
              case rel => exact ⟨k + 1, _, by omega, by go_num, M5⟩
              case measure => simp [intOf]; omega)
          · have hkn : k = n := by omega
            subst hkn
            obtain ⟨va, vc, ev⟩ := row_form U.out.row
            subst ev
            have ET : W.take k = W := List.take_of_length_le (by rw [← HN.out]; exact Nat.le_refl _)
            have U2 := U.out
            rw [ET] at U2
            have HQL : Hid (k = (W.map (fun n => cod (n - lo) e)).length) := (by rw [List.length_map]; exact HN.out)
            have HP : Hid (IsPk W bn lo e (W.map (fun n => cod (n - lo) e))) := .inr ⟨hi', HLO.out, HHI.out, by have := HX.out; rw [HH.out] at this; exact this, rfl⟩
            generalize W.map (fun n => cod (n - lo) e) = Q at *
            obtain ⟨fx, fo, fl⟩ := U2.fin
            have FX : Hid (Box7 (((((((wr.setCell ⟨w.heap.size + 1, 0, none⟩ (.int .i64 0)).setCell ⟨w.heap.size + 1, 1, none⟩ (.int .i64 0)).setCell ⟨w.heap.size + 1, 2, none⟩ (.int .i64 lo)).setCell ⟨w.heap.size + 1, 3, none⟩ (.int .i64 (e : Int))).setCell ⟨w.heap.size + 1, 4, none⟩ (.int .i64 (bn : Int))).setCell ⟨w.heap.size + 1, 5, none⟩ (.slice none 0 0)).setCell ⟨w.heap.size + 1, 6, none⟩ (.slice va k vc)) (w.heap.size + 1) (.int .i64 0) (.int .i64 0) (.int .i64 lo) (.int .i64 (e : Int)) (.int .i64 (bn : Int)) (.slice none 0 0) (.slice va k vc)) := fx
            have FO : Hid ((((((((wr.setCell ⟨w.heap.size + 1, 0, none⟩ (.int .i64 0)).setCell ⟨w.heap.size + 1, 1, none⟩ (.int .i64 0)).setCell ⟨w.heap.size + 1, 2, none⟩ (.int .i64 lo)).setCell ⟨w.heap.size + 1, 3, none⟩ (.int .i64 (e : Int))).setCell ⟨w.heap.size + 1, 4, none⟩ (.int .i64 (bn : Int))).setCell ⟨w.heap.size + 1, 5, none⟩ (.slice none 0 0)).setCell ⟨w.heap.size + 1, 6, none⟩ (.slice va k vc)).ownsRow w.heap.size 2 1 (.slice va k vc) k (ints Q)) := fo
            have FL : Hid (Below w.heap.size w (((((((wr.setCell ⟨w.heap.size + 1, 0, none⟩ (.int .i64 0)).setCell ⟨w.heap.size + 1, 1, none⟩ (.int .i64 0)).setCell ⟨w.heap.size + 1, 2, none⟩ (.int .i64 lo)).setCell ⟨w.heap.size + 1, 3, none⟩ (.int .i64 (e : Int))).setCell ⟨w.heap.size + 1, 4, none⟩ (.int .i64 (bn : Int))).setCell ⟨w.heap.size + 1, 5, none⟩ (.slice none 0 0)).setCell ⟨w.heap.size + 1, 6, none⟩ (.slice va k vc))) := fl
            obtain ⟨x0, x1, x2, x3, x4, x5, x6⟩ := U2.bx
            obtain ⟨y0, y1, y2, y3, y4, y5, y6⟩ := U2.b4
            have fz0 := U2.f4
            clear fx fo fl U U2 ET
            go_wp2_with fail
            generalize World.setCell _ _ _ = wz at FX FO FL ⊢
            obtain ⟨z0, z1, z2, z3, z4, z5, z6⟩ := FX.out
            refine bodyPost_ret (v := pkv ⟨0, 0, lo, e, bn, [], Q⟩ (.slice none 0 0) (.slice va k vc)) (by simp [results, Try.results96, go_sem, pkv, z0, z1, z2, z3, z4, z5, z6]) rfl ⟨lo, e, Q, _, HP.out, rfl, by have := FO.out; rw [← HQL.out]; exact this, FL.out⟩

end Go.Proofs.Ytgajajpcjbpalaa.Pkd
