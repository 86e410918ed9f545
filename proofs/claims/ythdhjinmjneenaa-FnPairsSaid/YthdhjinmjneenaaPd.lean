/- Pairs drawn. -/
import Derived.Test.YthdhjinmjneenaaAm
import Derived.Test.YthdhjinmjneenaaRdG
namespace Go.Proofs.Ythdhjinmjneenaa.Rd
open Go.ChangeShapes Go.WideShapes Go.ChangeAt Go.RowKit
open Flt Wa
attribute [local go_sem] run_store_float

theorem Bx.turn {r k : Nat} {w w' : World} {x y : Value} (h : Bx w k x y) (t : Turn r w w') (hk : k ≠ r) : Bx w' k x y :=
  ⟨(t.cell 0 h.2.2.2.2 hk).trans h.1, (t.cell 1 h.2.2.2.2 hk).trans h.2.1, (t.frozen 0 h.2.2.2.2 hk).trans h.2.2.1, (t.frozen 1 h.2.2.2.2 hk).trans h.2.2.2.1, Nat.lt_of_lt_of_le h.2.2.2.2 t.size⟩
theorem code_on {w w' : World} {a : Option Addr} {n cap : Nat} (h : Go.Proofs.Ythdhjinmjneenaa.Rd.Code w a n cap) (hb : Below w.heap.size w w') : Go.Proofs.Ythdhjinmjneenaa.Rd.Code w' a n cap := by
  rcases h with h | ⟨b, o, h1, h2, h3, h4, h5⟩
  · exact Or.inl h
  · refine Or.inr ⟨b, o, h1, Nat.lt_of_lt_of_le h2 hb.size, h3, h4, fun i hi => ?_⟩
    obtain ⟨u, g1, g2⟩ := h5 i hi
    exact ⟨u, g1, (hb.cell (p := ⟨b, o + i, none⟩) h2).trans g2⟩
theorem Rd.alloc {r : Nat} {w : World} (h : Rd r w) (o : Obj) : Rd r (w.alloc o) := h.kept ((Below.refl w.heap.size w).alloc (Nat.le_refl _) o) h.lt

set_option maxHeartbeats 2000000 in
theorem pair_any (r : Nat) (w : World) (h : Rd r w) : Calls Try.prog 21 #[.pointer (some ⟨r, 0, none⟩)] w fun e w' => (∃ a b, e = .returned (pr a b)) ∧ Rd r w' ∧ Turn r w w' := by
  have hr := h.lt
  have hne : w.heap.size ≠ r := by omega
  obtain ⟨w0, hw0⟩ : ∃ w0, w0 = w.alloc (.cells #[.float .f64 0, .float .f64 0] 26) := ⟨_, rfl⟩
  have HW0 : Hid (w0 = w.alloc (.cells #[.float .f64 0, .float .f64 0] 26)) := hw0
  have X0 : Hid (Bx w0 w.heap.size (.float .f64 0) (.float .f64 0)) := (by show Bx _ _ _ _; rw [hw0]; exact Bx.new w _ _ 26)
  have K0 : Hid (Rd r w0) := (by show Rd _ _; rw [hw0]; exact h.alloc _)
  have T0 : Hid (Turn r w w0) := (by show Turn _ _ _; rw [hw0]; exact (Turn.refl r w).alloc hr _)
  have FIN : Hid (∀ w' (x y : Value), Rd r w' → Turn r w w' → Rd r ((w'.setCell ⟨w.heap.size, 0, none⟩ x).setCell ⟨w.heap.size, 1, none⟩ y) ∧ Turn r w ((w'.setCell ⟨w.heap.size, 0, none⟩ x).setCell ⟨w.heap.size, 1, none⟩ y)) := fun w' x y k t =>
    ⟨k.kept (((Below.refl w.heap.size w').setCell (p := ⟨w.heap.size, 0, none⟩) (Nat.le_refl _) x).setCell (p := ⟨w.heap.size, 1, none⟩) (Nat.le_refl _) y) hr, (t.setCell (p := ⟨w.heap.size, 0, none⟩) (Nat.le_refl _) hr x).setCell (p := ⟨w.heap.size, 1, none⟩) (Nat.le_refl _) hr y⟩
  clear hw0 h
  go_enter Try.func21, Try.ntmps21
  go_wp2_with fail
  rw [← HW0.out]
  refine (float_any r _ K0.out).mono ?_
  rintro e w1 ⟨⟨a, ha, rfl⟩, k1, t1⟩
  have X1 : Hid (Bx w1 w.heap.size (.float .f64 0) (.float .f64 0)) := Bx.turn X0.out t1 hne
  have K1 : Hid (Rd r w1) := k1
  have T1 : Hid (Turn r w w1) := T0.out.trans t1
  clear k1 t1
  go_wp2_with fail
  refine (once_any r _ K1.out 2 (by omega) (by omega)).mono ?_
  rintro e w2 ⟨⟨u, rfl⟩, k2, t2⟩
  have X2 : Hid (Bx w2 w.heap.size (.float .f64 0) (.float .f64 0)) := Bx.turn X1.out t2 hne
  have K2 : Hid (Rd r w2) := k2
  have T2 : Hid (Turn r w w2) := T1.out.trans t2
  clear k2 t2
  cases u
  · go_wp2_with fail
    refine (float_any r _ K2.out).mono ?_
    rintro e w3 ⟨⟨b, hb, rfl⟩, k3, t3⟩
    obtain ⟨c0, c1, f0, f1, _⟩ := Bx.turn X2.out t3 hne
    have F := FIN.out w3 (.float .f64 a) (.float .f64 b) k3 (T2.out.trans t3)
    have HF : Hid (Rd r ((w3.setCell ⟨w.heap.size, 0, none⟩ (.float .f64 a)).setCell ⟨w.heap.size, 1, none⟩ (.float .f64 b)) ∧ Turn r w ((w3.setCell ⟨w.heap.size, 0, none⟩ (.float .f64 a)).setCell ⟨w.heap.size, 1, none⟩ (.float .f64 b))) := F
    clear k3 t3 F
    go_wp2_with fail
    refine bodyPost_ret (v := pr a b) (by simp [results, Try.results21, go_sem, c0, c1]) rfl ⟨⟨a, b, rfl⟩, HF.out.1, HF.out.2⟩
  · go_wp2_with fail
    refine (below_any r _ K2.out 40 (by omega) (by omega)).mono ?_
    rintro e w3 ⟨⟨v, hv, rfl⟩, k3, t3⟩
    have X3 : Hid (Bx w3 w.heap.size (.float .f64 0) (.float .f64 0)) := Bx.turn X2.out t3 hne
    have K3 : Hid (Rd r w3) := k3
    have T3 : Hid (Turn r w w3) := T2.out.trans t3
    clear k3 t3
    go_wp2_with fail
    refine (sturn v _).mono ?_
    rintro e w4 ⟨x, y, rfl, _, _, hb⟩
    have t4 : Turn r w3 w4 := Turn.of hb (Nat.le_refl _) (Nat.le_of_lt K3.out.lt)
    obtain ⟨c0, c1, f0, f1, _⟩ := X3.out.on hb
    have F := FIN.out w4 (.float .f64 x) (.float .f64 y) (K3.out.kept hb K3.out.lt) (T3.out.trans t4)
    have HF : Hid (Rd r ((w4.setCell ⟨w.heap.size, 0, none⟩ (.float .f64 x)).setCell ⟨w.heap.size, 1, none⟩ (.float .f64 y)) ∧ Turn r w ((w4.setCell ⟨w.heap.size, 0, none⟩ (.float .f64 x)).setCell ⟨w.heap.size, 1, none⟩ (.float .f64 y))) := F
    clear hb t4 F
    go_wp2_with fail
    refine bodyPost_ret (v := pr x y) (by simp [results, Try.results21, go_sem, c0, c1]) rfl ⟨⟨x, y, rfl⟩, HF.out.1, HF.out.2⟩

set_option maxHeartbeats 2000000 in
theorem draw_any (a : Option Addr) (n0 cap : Nat) (w : World) (hc : Go.Proofs.Ythdhjinmjneenaa.Rd.Code w a n0 cap) (hn0 : n0 ≤ 1048576) : Calls Try.prog 14 #[.slice a n0 cap] w fun e w' => (∃ x y x' y', e = .returned (.tuple #[pr x y, pr x' y'])) ∧ Below w.heap.size w w' := by
  obtain ⟨w0, hw0⟩ : ∃ w0, w0 = (w.alloc (.cells #[.float .f64 0, .float .f64 0] 26)).alloc (.cells #[.float .f64 0, .float .f64 0] 26) := ⟨_, rfl⟩
  have HW0 : Hid (w0 = (w.alloc (.cells #[.float .f64 0, .float .f64 0] 26)).alloc (.cells #[.float .f64 0, .float .f64 0] 26)) := hw0
  have B0 : Hid (Below w.heap.size w w0) := (by show Below _ _ _; rw [hw0]; exact ((Below.refl _ _).alloc (Nat.le_refl _) _).alloc (by simp) _)
  have Z0 : Hid (w0.heap.size = w.heap.size + 2) := (by show _ = _; rw [hw0]; simp)
  have XA0 : Hid (Bx w0 w.heap.size (.float .f64 0) (.float .f64 0)) := (by show Bx _ _ _ _; rw [hw0]; exact (Bx.new w _ _ 26).alloc _)
  have XB0 : Hid (Bx w0 (w.heap.size + 1) (.float .f64 0) (.float .f64 0)) := (by show Bx _ _ _ _; rw [hw0]; have := Bx.new (w.alloc (.cells #[.float .f64 0, .float .f64 0] 26)) (.float .f64 0) (.float .f64 0) 26; simpa using this)
  have O : Hid (Calls Try.prog 20 #[.slice a n0 cap] w0 fun e w' => e = .returned (.pointer (some ⟨w0.heap.size, 0, none⟩)) ∧ w' = w0.alloc (.cells #[.slice a n0 cap, .int .i64 0] 43)) := open_any _ a n0 cap rfl w0
  have K0 : Hid (Rd w0.heap.size (w0.alloc (.cells #[.slice a n0 cap, .int .i64 0] 43))) := Rd.new hc hn0 B0.out
  clear hc hw0
  obtain ⟨w1, hw1⟩ : ∃ w1, w1 = w0.alloc (.cells #[.slice a n0 cap, .int .i64 0] 43) := ⟨_, rfl⟩
  have BA : Below w0.heap.size w0 w1 := by rw [hw1]; exact (Below.refl _ _).alloc (Nat.le_refl _) _
  have XA1 : Hid (Bx w1 w.heap.size (.float .f64 0) (.float .f64 0)) := XA0.out.on BA
  have XB1 : Hid (Bx w1 (w.heap.size + 1) (.float .f64 0) (.float .f64 0)) := XB0.out.on BA
  have B1 : Hid (Below w.heap.size w w1) := B0.out.trans (BA.mono B0.out.size)
  rw [← hw1] at K0 O
  clear BA hw1 XA0 XB0
  have n1 : w.heap.size ≠ w0.heap.size := by have := Z0.out; omega
  have n2 : w.heap.size + 1 ≠ w0.heap.size := by have := Z0.out; omega
  have BT : Hid (∀ x y, Turn w0.heap.size x y → Below w.heap.size x y) := fun x y t => t.bel.mono (by have := Z0.out; omega)
  generalize w0.heap.size = r at *
  go_enter Try.func14, Try.ntmps14
  go_wp2_with fail
  rw [← HW0.out]
  refine O.out.mono ?_
  rintro e w1' ⟨rfl, hw⟩
  subst hw
  go_wp2_with fail
  refine (pair_any r _ K0.out).mono ?_
  rintro e w2 ⟨⟨x, y, rfl⟩, k2, t2⟩
  have XA2 : Hid (Bx w2 w.heap.size (.float .f64 0) (.float .f64 0)) := Bx.turn XA1.out t2 n1
  have XB2 : Hid (Bx w2 (w.heap.size + 1) (.float .f64 0) (.float .f64 0)) := Bx.turn XB1.out t2 n2
  have B2 : Hid (Below w.heap.size w w2) := B1.out.trans (BT.out _ _ t2)
  obtain ⟨w3, hw3⟩ : ∃ w3, w3 = w2.alloc (.cells #[.float .f64 x, .float .f64 y] 26) := ⟨_, rfl⟩
  have HW3 : Hid (w3 = w2.alloc (.cells #[.float .f64 x, .float .f64 y] 26)) := hw3
  have XA3 : Hid (Bx w3 w.heap.size (.float .f64 0) (.float .f64 0)) := (by show Bx _ _ _ _; rw [hw3]; exact XA2.out.alloc _)
  have XB3 : Hid (Bx w3 (w.heap.size + 1) (.float .f64 0) (.float .f64 0)) := (by show Bx _ _ _ _; rw [hw3]; exact XB2.out.alloc _)
  have XC3 : Hid (Bx w3 w2.heap.size (.float .f64 x) (.float .f64 y)) := (by show Bx _ _ _ _; rw [hw3]; exact Bx.new w2 _ _ 26)
  have K3 : Hid (Rd r w3) := (by show Rd _ _; rw [hw3]; exact k2.alloc _)
  have B3 : Hid (Below w.heap.size w w3) := (by show Below _ _ _; rw [hw3]; exact B2.out.alloc B2.out.size _)
  have n3 : w2.heap.size ≠ r := by have := k2.lt; omega
  have K3d : Hid (Rd r w3.drew) := K3.out.drewN 1
  have nlt := XB2.out.2.2.2.2
  have n4 : w2.heap.size ≠ w.heap.size := by omega
  have n5 : w2.heap.size ≠ w.heap.size + 1 := by omega
  have n6 : w.heap.size ≠ w2.heap.size := by omega
  have n7 : w.heap.size + 1 ≠ w2.heap.size := by omega
  clear nlt
  have XA3d : Hid (Bx w3.drew w.heap.size (.float .f64 0) (.float .f64 0)) := XA3.out.drewN 1
  have XB3d : Hid (Bx w3.drew (w.heap.size + 1) (.float .f64 0) (.float .f64 0)) := XB3.out.drewN 1
  have XC3d : Hid (Bx w3.drew w2.heap.size (.float .f64 x) (.float .f64 y)) := XC3.out.drewN 1
  clear k2 t2 hw3 XA2 XB2 XA1 XB1 K0
  obtain ⟨d0, d1, _, _, _⟩ := XC3.out
  go_wp2_with fail
  rw [← HW3.out]
  go_region_held3 (fun w' => w'.cell? ⟨w2.heap.size, 0, none⟩ = some (.float .f64 x) ∧ w'.cell? ⟨w2.heap.size, 1, none⟩ = some (.float .f64 y)) (go_keep)
    (first
    | (go_at_call 21; refine (pair_any r _ K3d.out).mono ?_; rintro e w4 ⟨⟨x', y', rfl⟩, k4, t4⟩; obtain ⟨a0, a1, a2, a3, _⟩ := Bx.turn XA3d.out t4 n1; obtain ⟨b0, b1, b2, b3, _⟩ := Bx.turn XB3d.out t4 n2; obtain ⟨c0, c1, _, _, _⟩ := Bx.turn XC3d.out t4 n3; have B4 : Hid (Below w.heap.size w w4) := B3.out.drew.trans (BT.out _ _ t4); clear k4 t4))
  have m1 : w.heap.size + 1 ≠ w.heap.size := by omega
  have BE : Hid (Below w.heap.size w ((((w4.setCell ⟨w.heap.size, 0, none⟩ (.float .f64 x)).setCell ⟨w.heap.size, 1, none⟩ (.float .f64 y)).setCell ⟨w.heap.size + 1, 0, none⟩ (.float .f64 x')).setCell ⟨w.heap.size + 1, 1, none⟩ (.float .f64 y'))) := (((B4.out.setCell (p := ⟨w.heap.size, 0, none⟩) (Nat.le_refl _) _).setCell (p := ⟨w.heap.size, 1, none⟩) (Nat.le_refl _) _).setCell (p := ⟨w.heap.size + 1, 0, none⟩) (Nat.le_succ _) _).setCell (p := ⟨w.heap.size + 1, 1, none⟩) (Nat.le_succ _) _
  go_wp2_with fail
  refine bodyPost_ret (v := .tuple #[pr x y, pr x' y']) (by simp [results, Try.results14, go_sem, a0, a1, b0, b1]) rfl ⟨⟨x, y, x', y', rfl⟩, BE.out⟩

set_option maxHeartbeats 1000000 in
theorem drawm_any (a : Option Addr) (n0 cap : Nat) (w : World) (hc : Go.Proofs.Ythdhjinmjneenaa.Rd.Code w a n0 cap) (hn0 : n0 ≤ 1048576) : Calls Try.prog 5 #[.slice a n0 cap] w fun e w' => (∃ x y x' y', e = .returned (.tuple #[pr x y, pr x' y'])) ∧ Below w.heap.size w w' := by
  obtain ⟨w0, hw0⟩ : ∃ w0, w0 = (w.alloc (.cells #[.float .f64 0, .float .f64 0] 26)).alloc (.cells #[.float .f64 0, .float .f64 0] 26) := ⟨_, rfl⟩
  have HW0 : Hid (w0 = (w.alloc (.cells #[.float .f64 0, .float .f64 0] 26)).alloc (.cells #[.float .f64 0, .float .f64 0] 26)) := hw0
  have B0 : Hid (Below w.heap.size w w0) := (by show Below _ _ _; rw [hw0]; exact ((Below.refl _ _).alloc (Nat.le_refl _) _).alloc (by simp) _)
  have XA0 : Hid (Bx w0 w.heap.size (.float .f64 0) (.float .f64 0)) := (by show Bx _ _ _ _; rw [hw0]; exact (Bx.new w _ _ 26).alloc _)
  have XB0 : Hid (Bx w0 (w.heap.size + 1) (.float .f64 0) (.float .f64 0)) := (by show Bx _ _ _ _; rw [hw0]; have := Bx.new (w.alloc (.cells #[.float .f64 0, .float .f64 0] 26)) (.float .f64 0) (.float .f64 0) 26; simpa using this)
  have D : Hid (Calls Try.prog 14 #[.slice a n0 cap] w0 fun e w' => (∃ x y x' y', e = .returned (.tuple #[pr x y, pr x' y'])) ∧ Below w0.heap.size w0 w') := draw_any a n0 cap w0 (code_on hc B0.out) hn0
  clear hc hw0
  go_enter Try.func5, Try.ntmps5
  go_wp2_with fail
  rw [← HW0.out]
  refine D.out.mono ?_
  rintro e w4 ⟨⟨x, y, x', y', rfl⟩, hb⟩
  obtain ⟨a0, a1, a2, a3, _⟩ := XA0.out.on hb
  obtain ⟨b0, b1, b2, b3, _⟩ := XB0.out.on hb
  have B4 : Hid (Below w.heap.size w w4) := B0.out.trans (hb.mono B0.out.size)
  have m1 : w.heap.size + 1 ≠ w.heap.size := by omega
  have m2 : w.heap.size ≠ w.heap.size + 1 := by omega
  have BE : Hid (Below w.heap.size w ((((w4.setCell ⟨w.heap.size, 0, none⟩ (.float .f64 x)).setCell ⟨w.heap.size, 1, none⟩ (.float .f64 y)).setCell ⟨w.heap.size + 1, 0, none⟩ (.float .f64 x')).setCell ⟨w.heap.size + 1, 1, none⟩ (.float .f64 y'))) := (((B4.out.setCell (p := ⟨w.heap.size, 0, none⟩) (Nat.le_refl _) _).setCell (p := ⟨w.heap.size, 1, none⟩) (Nat.le_refl _) _).setCell (p := ⟨w.heap.size + 1, 0, none⟩) (Nat.le_succ _) _).setCell (p := ⟨w.heap.size + 1, 1, none⟩) (Nat.le_succ _) _
  clear hb
  go_wp2_with fail
  refine bodyPost_ret (v := .tuple #[pr x y, pr x' y']) (by simp [results, Try.results5, go_sem, a0, a1, b0, b1]) rfl ⟨⟨x, y, x', y', rfl⟩, BE.out⟩
end Go.Proofs.Ythdhjinmjneenaa.Rd
