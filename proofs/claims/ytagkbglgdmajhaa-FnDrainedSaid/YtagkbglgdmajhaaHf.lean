/- A heap of brinks: which is less; two change places. -/
import Derived.Test.YtagkbglgdmajhaaHe
import Derived.Deep.RegionHeld3
import Derived.Deep.RegionWith
namespace Go.Proofs.Ytagkbglgdmajhaa.Hm
open Go.ChangeShapes Go.WideShapes Go.ChangeAt Go.RowKit
open Go.Proofs.Ytagkbglgdmajhaa.Lists Go.Proofs.Ytagkbglgdmajhaa.Hp

set_option maxRecDepth 20000 in
set_option maxHeartbeats 2000000 in
theorem less_at (w : World) (g c n i j : Nat) (x0 x1 y0 y1 a b o : Int) (hi : i < n) (hj : j < n) (hg : g < w.heap.size) (ha : a = cv x0 y0) (hb : b = cv x1 y1) (ho : o = if a = 0 then b else a)
    (h0 : w.cell? ⟨g, i * 2, none⟩ = some (.int .i64 x0)) (h1 : w.cell? ⟨g, i * 2 + 1, none⟩ = some (.int .i64 x1)) (k0 : w.cell? ⟨g, j * 2, none⟩ = some (.int .i64 y0)) (k1 : w.cell? ⟨g, j * 2 + 1, none⟩ = some (.int .i64 y1)) :
    Calls Try.prog 60 #[.slice (some ⟨g, 0, none⟩) n c, .int .i64 i, .int .i64 j] w fun e w' => e = .returned (.bool (decide (o < 0))) ∧ Below w.heap.size w w' := by
  have C1 : Hid (∀ w, Calls Try.prog 65 #[.int .i64 x0, .int .i64 y0] w fun e w' => e = .returned (.int .i64 a) ∧ w' = w) := fun w => by rw [ha]; exact cmp_any x0 y0 w
  have C2 : Hid (∀ w, Calls Try.prog 65 #[.int .i64 x1, .int .i64 y1] w fun e w' => e = .returned (.int .i64 b) ∧ w' = w) := fun w => by rw [hb]; exact cmp_any x1 y1 w
  have OO : Hid (∀ (W : World) (q : Nat), W.cell? ⟨q, 0, none⟩ = some (.int .i64 a) → W.cell? ⟨q, 1, none⟩ = some (.int .i64 b) → Calls Try.prog 64 #[.slice (some ⟨q, 0, none⟩) 2 2] W fun e w' => e = .returned (.int .i64 o) ∧ w' = W) := fun W q h1 h2 => by rw [ho]; exact or_any q a b W h1 h2
  have i0 : (0 : Int) ≤ (i : Int) := by omega
  have i1 : (i : Int) < (n : Int) := by omega
  have j0 : (0 : Int) ≤ (j : Int) := by omega
  have j1 : (j : Int) < (n : Int) := by omega
  have gw : ¬ g = w.heap.size := by omega
  have B1 : Below w.heap.size w ((w.alloc (Obj.cells #[.int .i64 a, .int .i64 b] 3)).drew) := ((Below.refl w.heap.size w).alloc (Nat.le_refl _) _).drew
  clear ha hb ho hi hj
  go_enter Try.func60, Try.ntmps60
  go_wp2_with fail
  go_region_held3 (fun w' => w'.cell? ⟨g, i * 2, none⟩ = some (.int .i64 x0) ∧ w'.cell? ⟨g, i * 2 + 1, none⟩ = some (.int .i64 x1) ∧ w'.cell? ⟨g, j * 2, none⟩ = some (.int .i64 y0) ∧ w'.cell? ⟨g, j * 2 + 1, none⟩ = some (.int .i64 y1))
    (go_keep)
    (first
    | (go_at_call_of 65 (Value.int IntKind.i64 x0); refine (C1.out _).mono ?_; rintro e x ⟨rfl, hx⟩; subst x)
    | (go_at_call_of 65 (Value.int IntKind.i64 x1); refine (C2.out _).mono ?_; rintro e x ⟨rfl, hx⟩; subst x)
    | (go_at_call 64; refine (OO.out _ _ (by simp [go_sem]) (by simp [go_sem])).mono ?_; rintro e x ⟨rfl, hx⟩; subst x))
  go_wp2_with fail
  go_ret
  exact ⟨rfl, B1⟩
theorem less_any (B f : Nat) (w : World) (v : Value) (P : List Int) (i j : Nat) (hi : i < P.length) (hj : j < P.length) (h : HR B f w v P) :
    Calls Try.prog 60 #[v, .int .i64 i, .int .i64 j] w fun e w' => e = .returned (.bool (decide (P.getD i 0 < P.getD j 0))) ∧ Below w.heap.size w w' := by
  obtain ⟨g, c, rfl, _, hg, _, hc⟩ := h.cells (by omega)
  obtain ⟨h0, h1, _, _⟩ := hc i hi
  obtain ⟨k0, k1, _, _⟩ := hc j hj
  have e := less_at w g c P.length i j _ _ _ _ _ _ _ hi hj hg rfl rfl rfl h0 h1 k0 k1
  have q : decide ((if cv (ca P i) (ca P j) = 0 then cv (cb P i) (cb P j) else cv (ca P i) (ca P j)) < 0) = decide (P.getD i 0 < P.getD j 0) := by
    rw [Bool.eq_iff_iff, decide_eq_true_eq, decide_eq_true_eq]
    exact less_iff _ _
  rw [q] at e
  exact e

theorem some_set {w : World} {g o p : Nat} {u y : Value} (h : w.cell? ⟨g, o, none⟩ = some u) : ∃ z, (w.setCell ⟨g, p, none⟩ y).cell? ⟨g, o, none⟩ = some z := by
  by_cases e : o = p
  · subst e; exact ⟨y, by simp [go_sem, h]⟩
  · exact ⟨u, (World.cell?_setCell_other _ _ _ _ (fun q => e (by injection q with _ q; exact q.symm))).trans h⟩
set_option maxRecDepth 20000 in
set_option maxHeartbeats 2000000 in
theorem swap_at (w : World) (g c n i j : Nat) (x0 x1 y0 y1 : Int) (hi : i < n) (hj : j < n)
    (h0 : w.cell? ⟨g, i * 2, none⟩ = some (.int .i64 x0)) (h1 : w.cell? ⟨g, i * 2 + 1, none⟩ = some (.int .i64 x1)) (k0 : w.cell? ⟨g, j * 2, none⟩ = some (.int .i64 y0)) (k1 : w.cell? ⟨g, j * 2 + 1, none⟩ = some (.int .i64 y1))
    (f0 : w.frozen? ⟨g, i * 2, none⟩ = false) (f1 : w.frozen? ⟨g, i * 2 + 1, none⟩ = false) (f2 : w.frozen? ⟨g, j * 2, none⟩ = false) (f3 : w.frozen? ⟨g, j * 2 + 1, none⟩ = false) :
    Calls Try.prog 63 #[.slice (some ⟨g, 0, none⟩) n c, .int .i64 i, .int .i64 j] w fun e w' => e = .returned (.tuple #[]) ∧ w' = ((((w.setCell ⟨g, i * 2, none⟩ (.int .i64 y0)).setCell ⟨g, i * 2 + 1, none⟩ (.int .i64 y1)).setCell ⟨g, j * 2, none⟩ (.int .i64 x0)).setCell ⟨g, j * 2 + 1, none⟩ (.int .i64 x1)).drew := by
  have i0 : (0 : Int) ≤ (i : Int) := by omega
  have i1 : (i : Int) < (n : Int) := by omega
  have j0 : (0 : Int) ≤ (j : Int) := by omega
  have j1 : (j : Int) < (n : Int) := by omega
  obtain ⟨W1, hW⟩ : ∃ W1, W1 = ((w.setCell ⟨g, i * 2, none⟩ (.int .i64 y0)).setCell ⟨g, i * 2 + 1, none⟩ (.int .i64 y1)).drew := ⟨_, rfl⟩
  obtain ⟨z0, q0⟩ := some_set (p := i * 2) (y := .int .i64 y0) k0
  obtain ⟨z1, q1⟩ := some_set (p := i * 2 + 1) (y := .int .i64 y1) q0
  obtain ⟨z2, q2⟩ := some_set (p := i * 2) (y := .int .i64 y0) k1
  obtain ⟨z3, q3⟩ := some_set (p := i * 2 + 1) (y := .int .i64 y1) q2
  have r1 : (((w.setCell ⟨g, i * 2, none⟩ (.int .i64 y0)).setCell ⟨g, i * 2 + 1, none⟩ (.int .i64 y1)).drew).cell? ⟨g, j * 2, none⟩ = some z1 := q1
  have r2 : (((w.setCell ⟨g, i * 2, none⟩ (.int .i64 y0)).setCell ⟨g, i * 2 + 1, none⟩ (.int .i64 y1)).drew).cell? ⟨g, j * 2 + 1, none⟩ = some z3 := q3
  have r3 : (((w.setCell ⟨g, i * 2, none⟩ (.int .i64 y0)).setCell ⟨g, i * 2 + 1, none⟩ (.int .i64 y1)).drew).frozen? ⟨g, j * 2, none⟩ = false := by simpa [go_sem] using f2
  have r4 : (((w.setCell ⟨g, i * 2, none⟩ (.int .i64 y0)).setCell ⟨g, i * 2 + 1, none⟩ (.int .i64 y1)).drew).frozen? ⟨g, j * 2 + 1, none⟩ = false := by simpa [go_sem] using f3
  clear hi hj q0 q2 hW
  go_enter Try.func63, Try.ntmps63
  go_wp2_with fail
  go_region
  go_wp2_with fail
  go_end0
  exact ⟨rfl, rfl⟩
theorem Good.set {xs : List Value} {P : List Int} (h : Good xs P P.length) (hl : xs.length = P.length * 2) (i : Nat) (hi : i < P.length) (K : Int) : Good ((xs.set (i * 2) (.int .i64 (K / 1000))).set (i * 2 + 1) (.int .i64 (K % 1000))) (P.set i K) (P.set i K).length := by
  intro k hk
  rw [List.length_set] at hk
  obtain ⟨h0, h1⟩ := h k hk
  by_cases e : k = i
  · subst e
    have q : (P.set k K).getD k 0 = K := by simp [List.getD_eq_getElem?_getD, hi]
    unfold ca cb
    rw [q]
    refine ⟨?_, ?_⟩
    · rw [List.getElem?_set_ne (by omega), List.getElem?_set_self (by omega)]
    · rw [List.getElem?_set_self (by simp; omega)]
  · have q : (P.set i K).getD k 0 = P.getD k 0 := by simp [List.getD_eq_getElem?_getD, List.getElem?_set_ne (show i ≠ k by omega)]
    unfold ca cb
    rw [q]
    refine ⟨?_, ?_⟩
    · rw [List.getElem?_set_ne (by omega), List.getElem?_set_ne (by omega)]; exact h0
    · rw [List.getElem?_set_ne (by omega), List.getElem?_set_ne (by omega)]; exact h1
theorem HR.put {B f : Nat} {w : World} {g c n : Nat} {P : List Int} (h : HR B f w (.slice (some ⟨g, 0, none⟩) n c) P) (hn : n = P.length) (hgf : g ≠ f) (i : Nat) (hi : i < P.length) (K : Int) : HR B f ((w.setCell ⟨g, i * 2, none⟩ (.int .i64 (K / 1000))).setCell ⟨g, i * 2 + 1, none⟩ (.int .i64 (K % 1000))) (.slice (some ⟨g, 0, none⟩) n c) (P.set i K) := by
  subst hn
  obtain ⟨⟨xs, r, gd⟩, b⟩ := h
  have r1 := (r.stored (i * 2) (.int .i64 (K / 1000))).1
  have r2 := (r1.stored (i * 2 + 1) (.int .i64 (K % 1000))).1
  refine ⟨⟨_, by rw [List.length_set]; exact r2, gd.set r.1 i hi K⟩, ?_⟩
  exact (b.kb (kb_set w g _ _) (fun e => hgf e.symm)).kb (kb_set _ g _ _) (fun e => hgf e.symm)
theorem KB.drew {S : Nat → Prop} {w w' : World} (h : KB S w w') : KB S w w'.drew := ⟨h.os, h.tape, h.output, h.size, h.block⟩
theorem HR.drew {B f : Nat} {w : World} {v : Value} {P : List Int} (h : HR B f w v P) : HR B f w.drew v P := ⟨h.row, h.bx⟩
theorem swap_any (B f : Nat) (w : World) (v : Value) (P : List Int) (i j : Nat) (hi : i < P.length) (hj : j < P.length) (h : HR B f w v P) :
    Calls Try.prog 63 #[v, .int .i64 i, .int .i64 j] w fun e w' => e = .returned (.tuple #[]) ∧ HR B f w' v (swp P i j) ∧ KB (fun b => v.ownBlock = some b) w w' := by
  obtain ⟨g, c, rfl, _, _, hgf, hc⟩ := h.cells (by omega)
  obtain ⟨h0, h1, f0, f1⟩ := hc i hi
  obtain ⟨k0, k1, f2, f3⟩ := hc j hj
  refine (swap_at w g c P.length i j _ _ _ _ hi hj h0 h1 k0 k1 f0 f1 f2 f3).mono ?_
  rintro e w' ⟨rfl, rfl⟩
  refine ⟨rfl, ?_, ?_⟩
  · have a := (h.put rfl hgf i hi (P.getD j 0)).put (by rw [List.length_set]) hgf j (by rw [List.length_set]; exact hj) (P.getD i 0)
    exact a.drew
  · have s : ∀ (w : World) o u, KB (fun b => (Value.slice (some ⟨g, 0, none⟩) P.length c).ownBlock = some b) w (w.setCell ⟨g, o, none⟩ u) := fun w o u => KB.of_set w g o u rfl
    have a := (((s w (i * 2) (.int .i64 (ca P j))).trans (s _ (i * 2 + 1) (.int .i64 (cb P j)))).trans (s _ (j * 2) (.int .i64 (ca P i)))).trans (s _ (j * 2 + 1) (.int .i64 (cb P i)))
    exact a.drew
end Go.Proofs.Ytagkbglgdmajhaa.Hm
